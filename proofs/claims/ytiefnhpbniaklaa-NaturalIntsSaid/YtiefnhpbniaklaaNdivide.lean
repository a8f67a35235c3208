/- The contract of natural's divide: Knuth's algorithm D. -/
import Derived.Test.YtiefnhpbniaklaaNround
namespace Go.Proofs.Ytiefnhpbniaklaa.Nk
open Go.RowKit Go.Shelf Go.Proofs.Ytiefnhpbniaklaa.Nm Go.Proofs.Ytiefnhpbniaklaa.Ne Go.Proofs.Ytiefnhpbniaklaa.Nf

attribute [local go_sem] Oper.semAt_some

/-- What divide has handed back. -/
def DivAt (l k : List Nat) (w : World) (e : Ending) (w' : World) : Prop :=
  ∃ (p1 p2 : Option Addr) (c1 c2 : Nat) (r1 r2 : List Nat), e = .returned (.tuple #[.slice p1 r1.length c1, .slice p2 r2.length c2]) ∧ r1.length ≤ c1 ∧ r2.length ≤ c2 ∧ r1.length ≤ 1000 ∧ r2.length ≤ 1000 ∧ (p1 = none → r1.length = 0 ∧ c1 = 0) ∧ (p2 = none → r2.length = 0 ∧ c2 = 0) ∧ ok r1 ∧ ok r2 ∧
    val r1 = val l / val k ∧ val r2 = val l % val k ∧ Ne.Own w.heap.size w' p1 r1 ∧ Ne.Own w.heap.size w' p2 r2 ∧ Gr w w'

/-- Behind the shifts: the boxes, the shifted words. -/
def Shifted (w : World) (n n2 t : Nat) (l k : List Nat) (s8 : Value) (W : World) : Prop :=
  ∃ (X gr gb cr cb : Nat) (R D : List Nat), s8 = .pointer (some ⟨X, 0, none⟩) ∧ X ≠ gr ∧ X ≠ gb ∧ gr ≠ gb ∧ w.heap.size + 1 + 1 < X ∧ w.heap.size + 1 + 1 < gr ∧ w.heap.size + 1 + 1 < gb ∧
    (W.cell? ⟨w.heap.size, 0, none⟩ = some (.slice none 0 0) ∧ W.frozen? ⟨w.heap.size, 0, none⟩ = false) ∧ (W.cell? ⟨w.heap.size + 1, 0, none⟩ = some (.slice (some ⟨gr, 0, none⟩) (n + 1) cr) ∧ W.frozen? ⟨w.heap.size + 1, 0, none⟩ = false) ∧
    W.cell? ⟨w.heap.size + 1 + 1, 0, none⟩ = some (.int .i64 n2) ∧ W.cell? ⟨X, 0, none⟩ = some (.slice (some ⟨gb, 0, none⟩) n2 cb) ∧
    R.length = n + 1 ∧ D.length = n2 + 1 ∧ n + 1 ≤ cr ∧ n2 + 1 ≤ cb ∧ ok R ∧ ok D ∧ val R = val l * 2 ^ t ∧ val D = val k * 2 ^ t ∧ Hold W gr 0 R ∧ Hold W gb 0 D ∧ Gr w W

theorem own_keeps {B : Nat} {W W' : World} {p : Option Addr} {l : List Nat} (h : Ne.Own B W p l) (k : ∀ (a : Addr) (v : Value), W.cell? a = some v → W'.cell? a = some v ∧ W'.frozen? a = W.frozen? a) : Ne.Own B W' p l := by
  rcases h with rfl | ⟨b, off, rfl, hb, hc⟩
  · exact .inl rfl
  · exact .inr ⟨b, off, rfl, hb, fun i hi => ⟨(k _ _ (hc i hi).1).1, (k _ _ (hc i hi).1).2.trans (hc i hi).2⟩⟩
theorem own_set {B : Nat} {W : World} {p : Option Addr} {l : List Nat} (h : Ne.Own B W p l) (a : Addr) (v : Value) (ha : a.block < B) : Ne.Own B (W.setCell a v) p l := by
  rcases h with rfl | ⟨b, off, rfl, hb, hc⟩
  · exact .inl rfl
  · exact .inr ⟨b, off, rfl, hb, fun i hi => ⟨setCell_ne (by dsimp only; omega) (hc i hi).1, setCell_frozen (hc i hi).2⟩⟩
theorem ib_of {j c : Nat} (h : j + 1 + 1 ≤ c) : (j : Int) + 1 ≤ (c : Int) := by omega

set_option maxRecDepth 100000 in
set_option maxHeartbeats 8000000 in
theorem divide_any (p q : Option Addr) (n m c d : Nat) (l k : List Nat) (w : World) (hl : Nw w p n c l) (hk : Nw w q m d k) (hm0 : 0 < m) (hmn : m ≤ n) (hn : n ≤ 64) (htk : Nm.tight k) :
    Calls Try.prog 95 #[.slice p n c, .slice q m d] w (DivAt l k w) := by
  obtain ⟨j, rfl⟩ : ∃ j, m = j + 1 := ⟨m - 1, by omega⟩
  have HL := Lib.hid hl
  have HK := Lib.hid hk
  have HTK := Lib.hid htk
  have G0 := Lib.hid ((((Gr.refl w).alloc (.cells #[.slice none 0 0] 22)).alloc (.cells #[.slice none 0 0] 22)).alloc (.cells #[.int .i64 ((j : Int) + 1)] 3))
  obtain ⟨b, off, rfl, hc⟩ := hk.rd.at (by rw [hk.len]; omega)
  have hcj := hc j (by rw [hk.len]; omega)
  have hb : b < w.heap.size := World.block_lt_of_cell? w _ hcj
  have hb2 : b < w.heap.size + 1 := by omega
  have hb3 : b < w.heap.size + 1 + 1 := by omega
  have hx := ok_get hk.ok j
  have hx0 : k[j]?.getD 0 ≠ 0 := by
    rcases htk with h | h
    · rw [hk.len] at h; omega
    · rw [hk.len] at h; exact h
  have hbl := Lib.bitLen_le (k[j]?.getD 0) 32 (by omega) (by omega)
  have hb1 := (Lib.bitLenAux_bounds 64 (k[j]?.getD 0) (by omega) hx0).1
  change 1 ≤ Lib.bitLen _ at hb1
  have hb2' := (Lib.bitLenAux_bounds 64 (k[j]?.getD 0) (by omega) hx0).2.2
  change _ < 2 ^ Lib.bitLen _ at hb2'
  have HKT : Hid (val k * 2 ^ (32 - Lib.bitLen (k[j]?.getD 0)) < pw (j + 1)) := Lib.hid (shift_fits hk.ok hk.len rfl hb2' hbl rfl)
  clear hb2'
  have HLZ := Lib.hid (fun w => Nb.leading32 ((k[j]?.getD 0 : Nat) : Int) w (by omega) (by omega))
  simp only [Int.toNat_natCast] at HLZ
  generalize k[j]?.getD 0 = x at *
  generalize Lib.bitLen x = B at *
  obtain ⟨t, ht⟩ : ∃ t : Nat, t = 32 - B := ⟨_, rfl⟩
  rw [← ht] at HKT
  have ht32 : t < 32 := by omega
  have HT : Hid ((32 : Int) - (B : Int) = (t : Int)) := Lib.hid (by omega)
  rw [HT.out] at HLZ
  clear hl hk htk hc hx hx0 hbl hb1 ht HT
  have HU1 := Lib.hid (fun W (hW : Gr w W) => up_small p l n c t ht32 W (HL.out.grow hW))
  have HU2 := Lib.hid (fun W (hW : Gr w W) => up_small (some ⟨b, off, none⟩) k (j + 1) d t ht32 W (HK.out.grow hW))
  refine (callsIn_wide (n := 3)).1 ?_
  have t1 : Fence.wide.fn 126 := trivial
  have h1 : 1 ≤ 3 := by decide
  refine callsIn_of_wp_marks Try.func95 rfl trivial ?_ rfl
  simp only [Try.ntmps95, List.size_toArray, List.length_cons, List.length_nil, Nat.reduceAdd, Nat.reduceSub, Array.replicate_succ, Array.replicate_zero, List.push_toArray, List.append_toArray, List.nil_append, List.cons_append]
  refine wpIn_wide.2 ?_
  go_wp2_with fail
  refine (HLZ.out _).mono ?_
  rintro e w1 ⟨rfl, rfl⟩
  go_upto_region 3 with fail
  go_cut [8] from 18 to 25 (fun s8 W => Shifted w n (j + 1) t l k s8 W)
  case first =>
    have G00 := G0.out
    have ib0 : (0 : Int) ≤ (j : Int) + 1 := by omega
    have Z0 : (((w.alloc (.cells #[.slice none 0 0] 22)).alloc (.cells #[.slice none 0 0] 22)).alloc (.cells #[.int .i64 ((j : Int) + 1)] 3)).drew.cell? ⟨w.heap.size, 0, none⟩ = some (.slice none 0 0) := by simp [go_sem]
    have Z1 : (((w.alloc (.cells #[.slice none 0 0] 22)).alloc (.cells #[.slice none 0 0] 22)).alloc (.cells #[.int .i64 ((j : Int) + 1)] 3)).drew.cell? ⟨w.heap.size + 1, 0, none⟩ = some (.slice none 0 0) := by simp [go_sem]
    have Z2 : (((w.alloc (.cells #[.slice none 0 0] 22)).alloc (.cells #[.slice none 0 0] 22)).alloc (.cells #[.int .i64 ((j : Int) + 1)] 3)).drew.cell? ⟨w.heap.size + 1 + 1, 0, none⟩ = some (.int .i64 ((j : Int) + 1)) := by simp [go_sem]
    have Y0 : (((w.alloc (.cells #[.slice none 0 0] 22)).alloc (.cells #[.slice none 0 0] 22)).alloc (.cells #[.int .i64 ((j : Int) + 1)] 3)).drew.frozen? ⟨w.heap.size, 0, none⟩ = false := by simp [go_sem]
    have Y1 : (((w.alloc (.cells #[.slice none 0 0] 22)).alloc (.cells #[.slice none 0 0] 22)).alloc (.cells #[.int .i64 ((j : Int) + 1)] 3)).drew.frozen? ⟨w.heap.size + 1, 0, none⟩ = false := by simp [go_sem]
    have ZXa : ((((w.alloc (.cells #[.slice none 0 0] 22)).alloc (.cells #[.slice none 0 0] 22)).alloc (.cells #[.int .i64 ((j : Int) + 1)] 3)).drew.alloc (.cells #[.slice none 0 0] 22)).cell? ⟨w.heap.size + 1 + 1 + 1, 0, none⟩ = some (.slice none 0 0) := by simp [go_sem]
    have ZXb : ((((w.alloc (.cells #[.slice none 0 0] 22)).alloc (.cells #[.slice none 0 0] 22)).alloc (.cells #[.int .i64 ((j : Int) + 1)] 3)).alloc (.cells #[.slice none 0 0] 22)).drew.cell? ⟨w.heap.size + 1 + 1 + 1, 0, none⟩ = some (.slice none 0 0) := by simp [go_sem]
    have YXa : ((((w.alloc (.cells #[.slice none 0 0] 22)).alloc (.cells #[.slice none 0 0] 22)).alloc (.cells #[.int .i64 ((j : Int) + 1)] 3)).drew.alloc (.cells #[.slice none 0 0] 22)).frozen? ⟨w.heap.size + 1 + 1 + 1, 0, none⟩ = false := by simp [go_sem]
    have YXb : ((((w.alloc (.cells #[.slice none 0 0] 22)).alloc (.cells #[.slice none 0 0] 22)).alloc (.cells #[.int .i64 ((j : Int) + 1)] 3)).alloc (.cells #[.slice none 0 0] 22)).drew.frozen? ⟨w.heap.size + 1 + 1 + 1, 0, none⟩ = false := by simp [go_sem]
    have ZX2 : ((((w.alloc (.cells #[.slice none 0 0] 22)).alloc (.cells #[.slice none 0 0] 22)).alloc (.cells #[.int .i64 ((j : Int) + 1)] 3)).alloc (.cells #[.slice none 0 0] 22)).drew.cell? ⟨w.heap.size + 1 + 1, 0, none⟩ = some (.int .i64 ((j : Int) + 1)) := by simp [go_sem]
    go_region_held3 (fun w' => w'.cell? ⟨w.heap.size + 1 + 1, 0, none⟩ = some (.int .i64 ((j : Int) + 1)) ∧ Gr w w')
      (first | exact ⟨Z2, G00.drew⟩ | (constructor <;> assumption) | (constructor; (repeat' (first | assumption | exact Z2 | refine alloc_cell ?_ | refine setCell_ne ?_ ?_ | refine drew_cell ?_ | (simp; done) | (dsimp only; omega))); (repeat' (first | assumption | exact G00.drew | refine Gr.alloc ?_ _ | refine Gr.setCell ?_ ?_ _ | refine Gr.drew ?_ | (simp; done) | (dsimp only; omega) | omega))))
      (first
      | (go_at_call_of 98 c; refine (HU1.out _ ?_).mono ?_; (first | exact G00 | exact G00.drew | exact Gr.alloc G00.drew _ | exact (Gr.alloc G00 _).drew | assumption | (refine Gr.alloc ?_ _; assumption)); rintro e w' ⟨ga, ca, ra, rfl, ea1, ea2, ea3, ea4, ea5, ea6, ea7⟩; (first | (have za0 := ea7.cell Z0; have za1 := ea7.cell Z1; have za2 := ea7.cell Z2; have ya0 := ea7.frozen Z0 Y0; have ya1 := ea7.frozen Z1 Y1; have gag := Gr.trans G00.drew ea7) | (have za0 := ea7.cell (Gr.cell ((Gr.refl _).alloc _) Z0); have za1 := ea7.cell (Gr.cell ((Gr.refl _).alloc _) Z1); have za2 := ea7.cell (Gr.cell ((Gr.refl _).alloc _) Z2); have ya0 := ea7.frozen (Gr.cell ((Gr.refl _).alloc _) Z0) (Gr.frozen ((Gr.refl _).alloc _) Z0 Y0); have ya1 := ea7.frozen (Gr.cell ((Gr.refl _).alloc _) Z1) (Gr.frozen ((Gr.refl _).alloc _) Z1 Y1); have gag := Gr.trans (Gr.alloc G00.drew _) ea7) | (have za0 := ea7.cell zb0; have za1 := ea7.cell zb1; have za2 := ea7.cell zb2; have ya0 := ea7.frozen zb0 yb0; have ya1 := ea7.frozen zb1 yb1; have gag := Gr.trans gbg ea7) | (have za0 := ea7.cell (Gr.cell ((Gr.refl _).alloc _) zb0); have za1 := ea7.cell (Gr.cell ((Gr.refl _).alloc _) zb1); have za2 := ea7.cell (Gr.cell ((Gr.refl _).alloc _) zb2); have ya0 := ea7.frozen (Gr.cell ((Gr.refl _).alloc _) zb0) (Gr.frozen ((Gr.refl _).alloc _) zb0 yb0); have ya1 := ea7.frozen (Gr.cell ((Gr.refl _).alloc _) zb1) (Gr.frozen ((Gr.refl _).alloc _) zb1 yb1); have gag := Gr.trans (Gr.alloc gbg _) ea7)); (first | (have zxa := ea7.cell ZXa; have yxa := ea7.frozen ZXa YXa) | (have zxa := ea7.cell ZXb; have yxa := ea7.frozen ZXb YXb) | (have zxa := ea7.cell (cell_new1 _ _ _ _ rfl); have yxa := ea7.frozen (cell_new1 _ _ _ _ rfl) (frozen_new1 _ _ _)) | (have zxa := ea7.cell zxb; have yxa := ea7.frozen zxb yxb) | skip); (first | (have txa := World.block_lt_of_cell? _ _ zxa) | skip); have ta0 : w.heap.size < w'.heap.size := World.block_lt_of_cell? _ _ za0; have ta1 : w.heap.size + 1 < w'.heap.size := World.block_lt_of_cell? _ _ za1; have ta2 : w.heap.size + 1 + 1 < w'.heap.size := World.block_lt_of_cell? _ _ za2; have na1 : (w'.heap.size = w.heap.size + 1) = False := eq_false (Nat.ne_of_gt ta1); have na2 : (w.heap.size + 1 = w'.heap.size) = False := eq_false (Nat.ne_of_lt ta1); have na3 : (w'.heap.size = w.heap.size + 1 + 1) = False := eq_false (Nat.ne_of_gt ta2); have na4 : (w.heap.size + 1 + 1 = w'.heap.size) = False := eq_false (Nat.ne_of_lt ta2))
      | (go_at_call_of 98 d; refine (HU2.out _ ?_).mono ?_; (first | exact G00 | exact G00.drew | exact Gr.alloc G00.drew _ | exact (Gr.alloc G00 _).drew | assumption | (refine Gr.alloc ?_ _; assumption)); rintro e w' ⟨gb, cb, rb, rfl, eb1, eb2, eb3, eb4, eb5, eb6, eb7⟩; (first | (have zb0 := eb7.cell Z0; have zb1 := eb7.cell Z1; have zb2 := eb7.cell Z2; have yb0 := eb7.frozen Z0 Y0; have yb1 := eb7.frozen Z1 Y1; have gbg := Gr.trans G00.drew eb7) | (have zb0 := eb7.cell (Gr.cell ((Gr.refl _).alloc _) Z0); have zb1 := eb7.cell (Gr.cell ((Gr.refl _).alloc _) Z1); have zb2 := eb7.cell (Gr.cell ((Gr.refl _).alloc _) Z2); have yb0 := eb7.frozen (Gr.cell ((Gr.refl _).alloc _) Z0) (Gr.frozen ((Gr.refl _).alloc _) Z0 Y0); have yb1 := eb7.frozen (Gr.cell ((Gr.refl _).alloc _) Z1) (Gr.frozen ((Gr.refl _).alloc _) Z1 Y1); have gbg := Gr.trans (Gr.alloc G00.drew _) eb7) | (have zb0 := eb7.cell za0; have zb1 := eb7.cell za1; have zb2 := eb7.cell za2; have yb0 := eb7.frozen za0 ya0; have yb1 := eb7.frozen za1 ya1; have gbg := Gr.trans gag eb7) | (have zb0 := eb7.cell (Gr.cell ((Gr.refl _).alloc _) za0); have zb1 := eb7.cell (Gr.cell ((Gr.refl _).alloc _) za1); have zb2 := eb7.cell (Gr.cell ((Gr.refl _).alloc _) za2); have yb0 := eb7.frozen (Gr.cell ((Gr.refl _).alloc _) za0) (Gr.frozen ((Gr.refl _).alloc _) za0 ya0); have yb1 := eb7.frozen (Gr.cell ((Gr.refl _).alloc _) za1) (Gr.frozen ((Gr.refl _).alloc _) za1 ya1); have gbg := Gr.trans (Gr.alloc gag _) eb7)); (first | (have zxb := eb7.cell ZXa; have yxb := eb7.frozen ZXa YXa) | (have zxb := eb7.cell ZXb; have yxb := eb7.frozen ZXb YXb) | (have zxb := eb7.cell (cell_new1 _ _ _ _ rfl); have yxb := eb7.frozen (cell_new1 _ _ _ _ rfl) (frozen_new1 _ _ _)) | (have zxb := eb7.cell zxa; have yxb := eb7.frozen zxa yxa) | skip); (first | (have txb := World.block_lt_of_cell? _ _ zxb) | skip); have tb0 : w.heap.size < w'.heap.size := World.block_lt_of_cell? _ _ zb0; have tb1 : w.heap.size + 1 < w'.heap.size := World.block_lt_of_cell? _ _ zb1; have tb2 : w.heap.size + 1 + 1 < w'.heap.size := World.block_lt_of_cell? _ _ zb2; have nb1 : (w'.heap.size = w.heap.size + 1) = False := eq_false (Nat.ne_of_gt tb1); have nb2 : (w.heap.size + 1 = w'.heap.size) = False := eq_false (Nat.ne_of_lt tb1); have nb3 : (w'.heap.size = w.heap.size + 1 + 1) = False := eq_false (Nat.ne_of_gt tb2); have nb4 : (w.heap.size + 1 + 1 = w'.heap.size) = False := eq_false (Nat.ne_of_lt tb2); have ib := ib_of eb2))
    all_goals
      have la := hold_lt ea6 (by omega)
      have lb := hold_lt eb6 (by omega)
      have hga : Hold w' ga 0 ra := by
        first
          | exact ea6.grow eb7
          | exact (hold_alloc ea6).grow eb7
      have l1 := ea7.le
      have l2 := eb7.le
      try simp at l1
      try simp at l2
      try simp at ea5
      try simp at eb5
      have h10 : w.heap.size + 1 ≠ w.heap.size := by omega
      have h12 : w.heap.size + 1 ≠ w.heap.size + 1 + 1 := by omega
      have h1a : w.heap.size + 1 ≠ ga := by omega
      have h1b : w.heap.size + 1 ≠ gb := by omega
      have hw1 : w.heap.size ≤ w.heap.size + 1 := by omega
      go_wp2_with fail
      go_meet
      refine ⟨_, ga, gb, ca, cb, ra, rb, rfl, ?_, ?_, ?_, ?_, ?_, ?_, ⟨?_, ?_⟩, ⟨?_, ?_⟩, ?_, ?_, ea1, eb1, ea2, eb2, ea3, eb3, ea4, eb4, ?_, ?_, ?_⟩
      · omega
      · omega
      · omega
      · omega
      · omega
      · omega
      · first
          | exact alloc_cell (setCell_ne h10 zb0)
          | (refine setCell_ne ?_ (setCell_ne h10 zb0); dsimp only; omega)
      · first
          | exact alloc_frozen (setCell_ne h10 zb0) (setCell_frozen yb0)
          | exact setCell_frozen (setCell_frozen yb0)
      · first
          | exact alloc_cell (setCell_at zb1)
          | (refine setCell_ne ?_ (setCell_at zb1); dsimp only; omega)
      · first
          | exact alloc_frozen (setCell_at zb1) (setCell_frozen yb1)
          | exact setCell_frozen (setCell_frozen yb1)
      · first
          | exact alloc_cell (setCell_ne h12 zb2)
          | (refine setCell_ne ?_ (setCell_ne h12 zb2); dsimp only; omega)
      · first
          | exact cell_newS _ _ _ _ _ _ rfl
          | (refine setCell_at (setCell_ne ?_ zxb); dsimp only; omega)
      · first
          | exact hold_alloc (hold_other h1a hga)
          | (refine hold_other ?_ (hold_other h1a hga); dsimp only; omega)
      · first
          | exact hold_alloc (hold_other h1b eb6)
          | (refine hold_other ?_ (hold_other h1b eb6); dsimp only; omega)
      · first
          | exact Gr.alloc (Gr.setCell gbg hw1 _) _
          | (refine Gr.setCell (Gr.setCell gbg hw1 _) ?_ _; dsimp only; omega)
  case rest =>
    obtain ⟨X, gr, gb, cr, cb, R, D, rfl, hXr, hXb, hrb, hXw, hrw, hbw, ⟨b0, f0⟩, ⟨b1, f1⟩, b2, bX, hRl, hDl, hRc, hDc, hRo, hDo, hRv, hDv, hHR, hHD, hG⟩ := hcut
    obtain ⟨i0, hi, hz0, hz1, hz2⟩ := info_parts infoW
    obtain ⟨m, hm⟩ : ∃ m : Nat, m = n - j := ⟨_, rfl⟩
    have hmi : (n : Int) - ((j : Int) + 1) + 1 = (m : Int) := by omega
    have hm1 : 1 ≤ m := by omega
    have hm64 : m ≤ 64 := by omega
    have HM := Lib.hid hm
    have HRL := Lib.hid hRl
    have HDL := Lib.hid hDl
    have HRO := Lib.hid hRo
    have HDO := Lib.hid hDo
    have HRV := Lib.hid hRv
    have HDV := Lib.hid hDv
    have HHR := Lib.hid hHR
    have HHD := Lib.hid hHD
    have HG := Lib.hid hG
    clear hRl hDl hRo hDo hRv hDv hHR hHD hG hm HU1 HU2 HLZ G0 hcj
    generalize wc = W1 at *
    have hXlt := World.block_lt_of_cell? W1 _ bX
    go_wp2_with (first
      | (refine wpList_make_full (o := ⟨some 31, _, _, _, _, _⟩) _ rfl _ _ _ rfl W1.heap.size 62 i0 (.int .u32 0) 1 Try.underlying22 hi hz0 hz1 .i64 .i64 _ _ m rfl rfl rfl rfl (by rw [hz2]; omega) (by unfold maxLen; omega) (Nat.le_refl _) ?_; intro w3 hown hgrow; have k0 := (Gr.grown hgrow).cell b0; have k1 := (Gr.grown hgrow).cell b1; have k2 := (Gr.grown hgrow).cell b2; have kX := (Gr.grown hgrow).cell bX; have g0 := (Gr.grown hgrow).frozen b0 f0; have g1 := (Gr.grown hgrow).frozen b1 f1; have HO := Lib.hid (hold_made hown); have G3 := Lib.hid (Gr.grown hgrow); clear hown hgrow))
    have hgq : W1.heap.size < w3.heap.size := hold_lt HO.out (by simp; omega)
    go_wp2_with fail
    refine (callsIn_wide.1 (back_in Fence.wide 2 trivial rfl _ _ _ _)).mono ?_
    rintro e w4 ⟨rfl, rfl⟩
    go_wp2_with fail
    have hX1 : X < W1.heap.size := hXlt
    have hgr1 := hold_lt HHR.out (by rw [HRL.out]; omega)
    have hgb1 := hold_lt HHD.out (by rw [HDL.out]; omega)
    have hn0 : w.heap.size ≠ W1.heap.size := by omega
    have HD2 : Hid (val (D.take (j + 1)) = val k * 2 ^ t) := Lib.hid (by rw [take_val' (by rw [HDL.out]; omega) (by rw [HDV.out]; exact HKT.out)]; exact HDV.out)
    have HZ : Hid (Hold ((w3.setCell ⟨w.heap.size, 0, none⟩ (.slice (some ⟨W1.heap.size, 0, none⟩) m m)).alloc (.cells #[.slice (some ⟨W1.heap.size, 0, none⟩) m m] 22)) W1.heap.size 0 (List.replicate m 0)) := Lib.hid (hold_alloc (hold_other hn0 HO.out))
    have HS : Hid (Src w3.heap.size (some ⟨W1.heap.size, 0, none⟩) m m (fun _ _ => True) ((w3.setCell ⟨w.heap.size, 0, none⟩ (.slice (some ⟨W1.heap.size, 0, none⟩) m m)).alloc (.cells #[.slice (some ⟨W1.heap.size, 0, none⟩) m m] 22))) := Lib.hid
      ⟨cell_newS _ _ _ _ _ _ rfl, .inr ⟨W1.heap.size, 0, rfl, fun i hi => ⟨_, trivial, (HZ.out i (by simp; omega)).1⟩⟩⟩
    have HI0 : Hid (DivI w W1.heap.size gr gb X m (n + 1) (j + 1) cr cb R (D.take (j + 1)) [] ((w3.setCell ⟨w.heap.size, 0, none⟩ (.slice (some ⟨W1.heap.size, 0, none⟩) m m)).alloc (.cells #[.slice (some ⟨W1.heap.size, 0, none⟩) m m] 22))) := Lib.hid
      ⟨⟨⟨alloc_cell (setCell_at k0), alloc_frozen (setCell_at k0) (setCell_frozen g0)⟩, ⟨alloc_cell (setCell_ne (by dsimp only; omega) k1), alloc_frozen (setCell_ne (by dsimp only; omega) k1) (setCell_frozen g1)⟩, alloc_cell (setCell_ne (by dsimp only; omega) k2), alloc_cell (setCell_ne (by dsimp only; omega) kX)⟩,
        ⟨List.replicate m 0, R, by simp, HRL.out, ok_replicate _, HRO.out, HZ.out, hold_alloc (hold_other (by dsimp only; omega) (HHR.out.grow G3.out)), hold_alloc (hold_other (by dsimp only; omega) (hold_take (HHD.out.grow G3.out) _)), fun _ => DivN.start (by rw [HD2.out, HRV.out]; exact div_start HL.out.ok HL.out.len HK.out.len HTK.out HM.out (by omega))⟩, Gr.alloc (Gr.setCell (HG.out.trans G3.out) (by dsimp only; omega) _) _⟩
    have hwW : w.heap.size ≤ ((w3.setCell ⟨w.heap.size, 0, none⟩ (.slice (some ⟨W1.heap.size, 0, none⟩) m m)).alloc (.cells #[.slice (some ⟨W1.heap.size, 0, none⟩) m m] 22)).heap.size := HI0.out.2.2.le
    refine (wpIn_wide (n := 3)).1 ?_
    refine wpIn_rangeFunc_ownG rfl h1 (gf := 126) (lb := #[.pointer (some ⟨w3.heap.size, 0, none⟩)]) rfl trivial (enters_of Try.func126 (by kernel_rfl) rfl)
      (back_stops Fence.wide (3 - 1) trivial rfl (by decide) w3.heap.size (some ⟨W1.heap.size, 0, none⟩) m m (by omega) (fun _ _ => True) _ HS.out) (fun h k s => k (h s)) src_b (Below.refl _ _) (fun _ => rfl)
      (DivI w W1.heap.size gr gb X m (n + 1) (j + 1) cr cb R (D.take (j + 1))) (fun _ _ _ => False) (divI_own hwW) (fun _ _ _ _ _ hs _ _ => hs) HI0.out ?a1 ?assign ?body ?done ?stop
    case assign =>
      intro l x W K hK
      unfold en
      gi_wp2
      exact hK
    case body =>
      rintro l2 pre ⟨i, v⟩ W ⟨⟨⟨p0, u0⟩, ⟨p1, u1⟩, p2, pX⟩, ⟨qs, r, hql, hrl, hqo, hro, hhq, hhr, hhd, hN⟩, hB⟩ hlt
      have hjm : cl m i < m := cl_lt (by omega)
      obtain ⟨jj, hjj⟩ : ∃ jj, cl m i = jj := ⟨_, rfl⟩
      rw [hjj] at hjm ⊢
      have HJ := Lib.hid hjj
      have hmn2 : m + (j + 1) = n + 1 := by have := HM.out; omega
      have hwl : ((r.drop jj).take (j + 1 + 1)).length = j + 1 + 1 := by simp; omega
      have hDl : (D.take (j + 1)).length = j + 1 := by rw [List.length_take, HDL.out]; omega
      have HTD : Hid (Calls Try.prog 133 #[.slice (some ⟨gr, jj, none⟩) (j + 1 + 1) (cr - jj), .slice (some ⟨gb, 0, none⟩) (j + 1) cb] W.drew (DigitAt gr jj ((r.drop jj).take (j + 1 + 1)) (D.take (j + 1)) W.drew)) := Lib.hid
        (takeDigit_any gr jj (j + 1 + 1) (cr - jj) gb 0 (j + 1) cb _ _ hwl hDl rfl (by omega) (by omega) (ok_take (ok_drop hro _) _) (ok_take HDO.out _) (fun e => hrb e.symm) W.drew (hold_window hhr (by omega)) hhd)
      have hcq := hhq jj (by omega)
      rw [Nat.zero_add] at hcq
      obtain ⟨y, hy⟩ : ∃ y, qs[jj]?.getD 0 = y := ⟨_, rfl⟩
      rw [hy] at hcq
      obtain ⟨cq, fq⟩ := hcq
      have HSTEP := Lib.hid (fun (q : Nat) (s : List Nat) (W' : World) => divI_step (w := w) (W := W) (W' := W') (gq := W1.heap.size) (gr := gr) (gb := gb) (X := X) (Bs := w3.heap.size) (m := m) (n1 := n + 1) (n2 := j + 1) (cr := cr) (cb := cb) (B := ((w3.setCell ⟨w.heap.size, 0, none⟩ (.slice (some ⟨W1.heap.size, 0, none⟩) m m)).alloc (.cells #[.slice (some ⟨W1.heap.size, 0, none⟩) m m] 22)).heap.size) (i := i) (v := v) (jj := jj) (q := q) (R := R) (D := D.take (j + 1)) (qs := qs) (r := r) (s := s) (pre := pre)
        hjj hjm (by omega) hrw (by omega) (by omega) hrb (by omega) hXr (by omega) (by omega) p0 u0 p1 u1 p2 pX hql hrl hqo hro hhq hhr hhd hN hB hlt hmn2.symm (by rw [HD2.out]; exact HKT.out))
      have HWR : Hid (∀ W' : World, Wr gr jj (j + 1 + 1) W.drew W' → Wr gr jj (j + 1 + 1) W W') := Lib.hid (fun W' hw => ((Wr.refl _ _ _ W).drewN 1).trans hw)
      have HWL := Lib.hid hwl
      clear hql hrl hqo hro hhq hhr hhd hN hB hjj hy hwl hDl
      have q1 : IntKind.i64.wrap ((jj : Int) + ((j : Int) + 1)) = (jj : Int) + ((j : Int) + 1) := IntWalk.i64_in _ (by omega)
      have q2 : IntKind.i64.wrap ((jj : Int) + ((j : Int) + 1) + 1) = (jj : Int) + ((j : Int) + 1) + 1 := IntWalk.i64_in _ (by omega)
      have q3 : (0 : Int) ≤ (jj : Int) := by omega
      have q4 : (jj : Int) ≤ (jj : Int) + ((j : Int) + 1) + 1 := by omega
      have q5 : (jj : Int) + ((j : Int) + 1) + 1 ≤ (cr : Int) := by omega
      have q6 : ((jj : Int) + ((j : Int) + 1) + 1).toNat = jj + (j + 1) + 1 := by omega
      have q7 : jj + (j + 1) + 1 - jj = j + 1 + 1 := by omega
      have q8 : (cr = jj) = False := eq_false (by omega)
      have q9 : (jj : Int) < (m : Int) := by omega
      have q10 : (0 : Int) ≤ (jj : Int) + ((j : Int) + 1) + 1 := by omega
      clear hmn2
      gi_wp2_with fail
      refine wpIn_round_held (S := fun w' => w'.cell? ⟨w.heap.size, 0, none⟩ = some (.slice (some ⟨W1.heap.size, 0, none⟩) m m) ∧ w'.cell? ⟨w.heap.size + 1, 0, none⟩ = some (.slice (some ⟨gr, 0, none⟩) (n + 1) cr) ∧ w'.cell? ⟨w.heap.size + 1 + 1, 0, none⟩ = some (.int .i64 ((j : Int) + 1)) ∧ w'.cell? ⟨X, 0, none⟩ = some (.slice (some ⟨gb, 0, none⟩) (j + 1) cb)) (by kernel_rfl) (by kernel_rfl) (fun ⟨_, _, h⟩ => h) ⟨p0, p1, p2, pX⟩ (fun hS => ?_)
      refine wpAnyH_take (i := 0) (v := ?_) rfl (by kernel_rfl) (by kernel_rfl) (by kernel_rfl) (fun _ _ _ h => h) (Or.inl ⟨by rfl, ?_⟩) hS ?_
      rotate_left
      · (intro wx hSx; go_simp; rfl)
      refine wpAnyH_take (i := 1) (v := ?_) rfl (by kernel_rfl) (by kernel_rfl) (by kernel_rfl) (fun _ _ _ h => h) (Or.inl ⟨by rfl, ?_⟩) hS ?_
      rotate_left
      · (intro wx hSx; go_simp; rfl)
      refine wpAnyH_take (i := 2) (v := ?_) rfl (by kernel_rfl) (by kernel_rfl) (by kernel_rfl) (fun _ _ _ h => h) (Or.inl ⟨by rfl, ?_⟩) hS ?_
      rotate_left
      · (intro wx hSx; go_simp; rfl)
      refine wpAnyH_take (i := 3) (v := ?_) rfl (by kernel_rfl) (by kernel_rfl) (by kernel_rfl) (fun _ _ _ h => h) (Or.inl ⟨by rfl, ?_⟩) hS ?_
      rotate_left
      · (intro wx hSx; go_simp; rfl)
      refine wpAnyH_take (i := 4) (v := ?_) rfl (by kernel_rfl) (by kernel_rfl) (by kernel_rfl) (fun _ _ _ h => h) (Or.inl ⟨by rfl, ?_⟩) hS ?_
      rotate_left
      · (intro wx hSx; go_simp; rfl)
      refine wpAnyH_take (i := 5) (v := ?_) rfl (by kernel_rfl) (by kernel_rfl) (by kernel_rfl) (fun _ _ _ h => h) (Or.inl ⟨by rfl, ?_⟩) hS ?_
      rotate_left
      · (intro wx hSx; go_simp; rfl)
      refine wpAnyH_take (i := 6) (v := ?_) rfl (by kernel_rfl) (by kernel_rfl) (by kernel_rfl) (fun _ _ _ h => h) (Or.inl ⟨by rfl, ?_⟩) hS ?_
      rotate_left
      · (intro wx hSx; go_simp; rfl)
      refine wpAnyH_take (i := 7) (v := ?_) rfl (by kernel_rfl) (by kernel_rfl) (by kernel_rfl) (fun _ _ _ h => h) (Or.inl ⟨by rfl, ?_⟩) hS ?_
      rotate_left
      · (intro wx hSx; go_simp; rfl)
      refine wpAnyH_take (i := 8) (v := ?_) rfl (by kernel_rfl) (by kernel_rfl) (by kernel_rfl) (fun _ _ _ h => h) (Or.inl ⟨by rfl, ?_⟩) hS ?_
      rotate_left
      · (intro wx hSx; go_simp; rfl)
      refine wpAnyH_take (i := 9) (v := ?_) rfl (by kernel_rfl) (by kernel_rfl) (by kernel_rfl) (fun _ _ _ h => h) (Or.inl ⟨by rfl, ?_⟩) hS ?_
      rotate_left
      · (intro wx hSx; go_simp; rfl)
      refine wpAnyH_ready (rs := [10]) (by kernel_rfl) (by simp) ?_
      refine AllReadyH.cons rfl (fun K hK => ?_) AllReadyH.nil
      go_simp
      refine HTD.out.mono ?_
      rintro e W' ⟨q, s, rfl, hq, hsl, hso, hsh, hwr, hv, hlt2⟩
      rw [HWL.out] at hsl hwr
      have hwr2 := HWR.out W' hwr
      have kq := (hwr2.cellOf (o := jj) (show W1.heap.size ≠ gr by omega)).trans cq
      have kf := (hwr2.frozen ⟨W1.heap.size, jj, none⟩).trans fq
      refine hK.out _ _ ⟨(hwr2.cellOf (show w.heap.size ≠ gr by omega)).trans p0, (hwr2.cellOf (show w.heap.size + 1 ≠ gr by omega)).trans p1, (hwr2.cellOf (show w.heap.size + 1 + 1 ≠ gr by omega)).trans p2, (hwr2.cellOf hXr).trans pX⟩ (fun hS2 => ?_)
      clear hK hS
      refine wpAnyH_take (i := 11) (v := ?_) rfl (by kernel_rfl) (by kernel_rfl) (by kernel_rfl) (fun _ _ _ h => h) (Or.inl ⟨by rfl, ?_⟩) hS2 ?_
      rotate_left
      · (intro wx hSx; go_simp; rfl)
      refine wpAnyH_ready (rs := [12]) (by kernel_rfl) (by simp) ?_
      refine AllReadyH.cons rfl (fun K hK => ?_) AllReadyH.nil
      go_simp
      refine hK.out _ _ ⟨setCell_ne (by dsimp only; omega) hS2.1, setCell_ne (by dsimp only; omega) hS2.2.1, setCell_ne (by dsimp only; omega) hS2.2.2.1, setCell_ne (by dsimp only; omega) hS2.2.2.2⟩ (fun _ => ?_)
      refine wpAnyH_done (by kernel_rfl) ?_ _
      exact HSTEP.out q s W' hq hsl hso hsh hwr2 hv hlt2
    case done =>
      rintro Dd xs W hDd hO ⟨⟨⟨p0, u0⟩, ⟨p1, u1⟩, p2, pX⟩, ⟨qs, r, hql, hrl, hqo, hro, hhq, hhr, hhd, hN⟩, hB⟩ hK
      have hxl := Out.length hO
      have hN1 := hN (by rw [hxl]; exact hO.1)
      rw [hxl] at hN1
      obtain ⟨hv1, hv2⟩ := DivN.done hN1
      have HQV : Hid (val qs = val l / val k) := Lib.hid (by rw [hv1, HRV.out, HD2.out, Nat.mul_div_mul_right _ _ (Nat.two_pow_pos t)])
      have hvr : val r < pw (j + 1) := by
        rw [hv2]
        refine Nat.lt_trans (Nat.mod_lt _ ?_) (by rw [HD2.out]; exact HKT.out)
        rcases Nat.eq_zero_or_pos (val (D.take (j + 1))) with h0 | h0
        · exact absurd hN1 (by intro h; have h1 := h.2.1; rw [h0, Nat.zero_mul] at h1; omega)
        · exact h0
      have HRV2 : Hid (val (r.take (j + 1)) / 2 ^ t = val l % val k) := Lib.hid (by rw [take_val' (by rw [hrl]; omega) hvr, hv2, HRV.out, HD2.out, Nat.mul_mod_mul_right, Nat.mul_div_cancel _ (Nat.two_pow_pos t)])
      have hrt : (r.take (j + 1)).length = j + 1 := by rw [List.length_take, hrl]; omega
      have HDN : Hid (∀ W' : World, Gr W W' → Calls Try.prog 97 #[.slice (some ⟨gr, 0, none⟩) (j + 1) cr, .int .i64 (t : Int)] W' (DownAt (r.take (j + 1)) t W')) := Lib.hid fun W' hg =>
        down_any _ _ (j + 1) cr t (by omega) W' (Nw.grow ⟨hrt, by omega, (fun e => by cases e), .inr ⟨gr, 0, rfl, fun i hi => (hold_take hhr (j + 1) i hi).1⟩, ok_take hro _, by omega⟩ hg)
      have HRT := Lib.hid hrt
      have HQL := Lib.hid hql
      have HQO := Lib.hid hqo
      have HHQ := Lib.hid hhq
      have HB := Lib.hid hB
      have hDw : w.heap.size ≤ Dd := by have := HI0.out.2.2.le; omega
      have hDk := World.block_lt_of_cell? W _ p0
      clear hxl hN hN1 hv1 hv2 hvr hrt hrl hro hhr hhd hql hqo hhq hO hB
      clear HS HI0 HZ HD2 HO
      go_upto_region 8 with fail
      refine wp_region_noPanic ?_
      have q1 : (0 : Int) ≤ (j : Int) + 1 := by omega
      have q2 : (j : Int) + 1 ≤ (cr : Int) := by omega
      have q3 : ((j : Int) + 1).toNat = j + 1 := by omega
      refine wp_region_held_drew (S := fun w' => w'.cell? ⟨w.heap.size, 0, none⟩ = some (.slice (some ⟨W1.heap.size, 0, none⟩) m m) ∧ w'.cell? ⟨w.heap.size + 1 + 1, 0, none⟩ = some (.int .i64 ((j : Int) + 1))) (by kernel_rfl) ⟨p0, p2⟩ (fun hS => ?_)
      refine wpAnyH_take (i := 0) (v := ?_) rfl (by kernel_rfl) (by kernel_rfl) (by kernel_rfl) (fun _ _ _ h => h) (Or.inl ⟨by rfl, ?_⟩) hS ?_
      rotate_left
      · (intro wx hSx; go_simp; rfl)
      refine wpAnyH_take (i := 2) (v := ?_) rfl (by kernel_rfl) (by kernel_rfl) (by kernel_rfl) (fun _ _ _ h => h) (Or.inl ⟨by rfl, ?_⟩) hS ?_
      rotate_left
      · (intro wx hSx; go_simp; rfl)
      refine wpAnyH_take (i := 4) (v := ?_) rfl (by kernel_rfl) (by kernel_rfl) (by kernel_rfl) (fun _ _ _ h => h) (Or.inl ⟨by rfl, ?_⟩) hS ?_
      rotate_left
      · (intro wx hSx; go_simp; rfl)
      refine wpAnyH_ready (rs := [1]) (by kernel_rfl) (by simp) ?_
      refine AllReadyH.cons rfl (fun K hK2 => ?_) AllReadyH.nil
      go_simp
      refine hK2.out _ _ hS (fun _ => ?_)
      clear hK2
      refine wpAnyH_take (i := 3) (v := ?_) rfl (by kernel_rfl) (by kernel_rfl) (by kernel_rfl) (fun _ _ _ h => h) (Or.inl ⟨by rfl, ?_⟩) hS ?_
      rotate_left
      · (intro wx hSx; go_simp; rfl)
      refine wpAnyH_ready (rs := [5]) (by kernel_rfl) (by simp) ?_
      refine AllReadyH.cons rfl (fun K hK2 => ?_) AllReadyH.nil
      go_simp
      refine (HDN.out _ (Gr.drew (Gr.refl _))).mono ?_
      rintro e W' ⟨y2, r2, c2, rfl, e1, e2, e3, e4, e5, e6, e7⟩
      have z0 := e7.cell p0
      have z1 := e7.cell p1
      have z2 := e7.cell p2
      have y0 := e7.frozen p0 u0
      have y1 := e7.frozen p1 u1
      have hK3 : W'.heap[Dd]? = some (.deferred (some [])) := (e7.block Dd (Array.getElem?_eq_some_iff.1 hK).1).trans hK
      refine hK2.out _ _ ⟨z0, z2⟩ (fun hS3 => ?_)
      clear hK2
      refine wpAnyH_ready (rs := [6]) (by kernel_rfl) (by simp) ?_
      refine AllReadyH.cons rfl (fun K hK2 => ?_) AllReadyH.nil
      go_simp
      refine hK2.out _ _ ⟨setCell_at z0, setCell_ne (by dsimp only; omega) z2⟩ (fun hS4 => ?_)
      clear hK2
      refine wpAnyH_ready (rs := [7]) (by kernel_rfl) (by simp) ?_
      refine AllReadyH.cons rfl (fun K hK2 => ?_) AllReadyH.nil
      go_simp
      refine hK2.out _ _ ⟨setCell_ne (by dsimp only; omega) hS4.1, setCell_ne (by dsimp only; omega) hS4.2⟩ (fun hS5 => ?_)
      clear hK2
      refine wpAnyH_done (by kernel_rfl) ?_ _
      refine NoPanic.normal ?_
      have hle : w.heap.size + 1 < W.heap.size := World.block_lt_of_cell? W _ p1
      have hle2 : W1.heap.size ≠ w.heap.size := by omega
      have hle3 : W1.heap.size ≠ w.heap.size + 1 := by omega
      have hH : Hid (Hold ((W'.setCell ⟨w.heap.size, 0, none⟩ (.slice (some ⟨W1.heap.size, 0, none⟩) m m)).setCell ⟨w.heap.size + 1, 0, none⟩ (.slice y2 r2.length c2)) W1.heap.size 0 qs) := Lib.hid
        (hold_other (fun e => hle3 e.symm) (hold_other (fun e => hle2 e.symm) (HHQ.out.grow ((Gr.drew (Gr.refl W)).trans e7))))
      have hK4 := (KeepsOthers.setCell W' ⟨w.heap.size, 0, none⟩ (.slice (some ⟨W1.heap.size, 0, none⟩) m m)).same Dd _ hK3 rfl
      have hK5 := (KeepsOthers.setCell _ ⟨w.heap.size + 1, 0, none⟩ (.slice y2 r2.length c2)).same Dd _ hK4 rfl
      have x0 := setCell_ne (p := ⟨w.heap.size + 1, 0, none⟩) (v := .slice y2 r2.length c2) (by dsimp only; omega) (setCell_at (v := .slice (some ⟨W1.heap.size, 0, none⟩) m m) z0)
      have x1 := setCell_at (v := .slice y2 r2.length c2) (setCell_ne (p := ⟨w.heap.size, 0, none⟩) (v := .slice (some ⟨W1.heap.size, 0, none⟩) m m) (by dsimp only; omega) z1)
      have hO2 := Lib.hid (own_set (own_set e6 ⟨w.heap.size, 0, none⟩ (.slice (some ⟨W1.heap.size, 0, none⟩) m m) (show w.heap.size < W.heap.size by omega)) ⟨w.heap.size + 1, 0, none⟩ (.slice y2 r2.length c2) hle)
      have hGF := Lib.hid (((HB.out.drew.trans e7).setCell (p := ⟨w.heap.size, 0, none⟩) (Nat.le_refl _) (.slice (some ⟨W1.heap.size, 0, none⟩) m m)).setCell (p := ⟨w.heap.size + 1, 0, none⟩) (Nat.le_succ _) (.slice y2 r2.length c2))
      have E := Lib.hid (And.intro e1 (And.intro e2 (And.intro e3 (And.intro e4 e5))))
      clear hS hS3 hS4 hS5 z0 z1 z2 y0 y1 e1 e2 e3 e4 e5 e6 e7 hK3 hK4 p0 u0 p1 u1 p2 pX
      go_wp2
      refine ⟨by simp, .inl ⟨_, _, rfl, run_takeDeferred hK5, ?_⟩⟩
      have hc0 := cell_kept x0 (grownBy_putObj' _ Dd (.deferred none)) (fun r e => by cases e; exact ⟨_, hK5, rfl⟩)
      have hc1 := cell_kept x1 (grownBy_putObj' _ Dd (.deferred none)) (fun r e => by cases e; exact ⟨_, hK5, rfl⟩)
      have kp : ∀ (a : Addr) (v : Value), ((W'.setCell ⟨w.heap.size, 0, none⟩ (.slice (some ⟨W1.heap.size, 0, none⟩) m m)).setCell ⟨w.heap.size + 1, 0, none⟩ (.slice y2 r2.length c2)).cell? a = some v → _ ∧ _ := fun a v hv => And.intro
        (cell_kept hv (grownBy_putObj' _ Dd (.deferred none)) (fun r e => by cases e; exact ⟨_, hK5, rfl⟩)) (frozen_kept hv (grownBy_putObj' _ Dd (.deferred none)) (fun r e => by cases e; exact ⟨_, hK5, rfl⟩))
      have KP := Lib.hid kp
      clear kp
      refine ⟨.tuple #[.slice (some ⟨W1.heap.size, 0, none⟩) m m, .slice y2 r2.length c2], by simp [results, Try.results95, go_sem, hc0, hc1], ?_⟩
      obtain ⟨e1, e2, e3, e4, e5⟩ := E.out
      rw [HRT.out] at e2
      exact ⟨some ⟨W1.heap.size, 0, none⟩, y2, m, c2, qs, r2, by rw [HQL.out], by rw [HQL.out]; exact Nat.le_refl _, e1, by rw [HQL.out]; omega, by omega, (fun e => by cases e), e3, HQO.out, e4, HQV.out, e5.trans HRV2.out,
        (hold_keep hH.out KP.out).own (by omega), (own_keeps hO2.out KP.out).mono (by have h := hle; exact Nat.le_of_lt (Nat.lt_of_succ_lt h)), gr_trans hGF.out (belowK_b (w := w) (Nat.le_refl _) _ Dd _ _ hDw hK5 rfl rfl)⟩
    case stop =>
      rintro D c pre W _ _ h _
      exact h.elim
end Go.Proofs.Ytiefnhpbniaklaa.Nk
