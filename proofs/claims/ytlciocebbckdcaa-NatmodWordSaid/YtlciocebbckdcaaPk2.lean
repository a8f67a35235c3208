/- A part of the proofs, joined of smaller texts: Ndivide, Ndiv, Ngreat, Nref, Nref2, Nis, Nv, Nrtrim, Ma, Mb, Mc, Md, Me, Kmem. -/
import Derived.Test.YtlciocebbckdcaaPk1
import Derived.Laws.AppendOwnNone
import Derived.Deep.RegionHeld3
import Derived.Deep.Cut

/- The contract of natural's divide: Knuth's algorithm D. -/
namespace Go.Proofs.Ytlciocebbckdcaa.Nk
open Go.RowKit Go.Shelf Go.Proofs.Ytlciocebbckdcaa.Nm Go.Proofs.Ytlciocebbckdcaa.Ne Go.Proofs.Ytlciocebbckdcaa.Nf

attribute [local go_sem] Oper.semAt_some

/-- What divide has handed back. -/
def DivAt (l k : List Nat) (w : World) (e : Ending) (w' : World) : Prop :=
  ∃ (p1 p2 : Option Addr) (c1 c2 : Nat) (r1 r2 : List Nat), e = .returned (.tuple #[.slice p1 r1.length c1, .slice p2 r2.length c2]) ∧ r1.length ≤ c1 ∧ r2.length ≤ c2 ∧ r1.length ≤ 1000 ∧ r2.length ≤ 1000 ∧ (p1 = none → r1.length = 0 ∧ c1 = 0) ∧ (p2 = none → r2.length = 0 ∧ c2 = 0) ∧ ok r1 ∧ ok r2 ∧
    val r1 = val l / val k ∧ val r2 = val l % val k ∧ Ne.Own w.heap.size w' p1 r1 ∧ Ne.Own w.heap.size w' p2 r2 ∧ Gr w w'

/-- Behind the shifts: the boxes, the shifted words. -/
def Shifted (w : World) (n n2 t : Nat) (l k : List Nat) (s8 : Value) (W : World) : Prop :=
  ∃ (X gr gb cr cb : Nat) (R D : List Nat), s8 = .pointer (some ⟨X, 0, none⟩) ∧ X ≠ gr ∧ X ≠ gb ∧ gr ≠ gb ∧ w.heap.size + 1 + 1 < X ∧ w.heap.size + 1 + 1 < gr ∧ w.heap.size + 1 + 1 < gb ∧
    (W.cell? ⟨w.heap.size, 0, none⟩ = some (.slice none 0 0) ∧ W.frozen? ⟨w.heap.size, 0, none⟩ = false) ∧ (W.cell? ⟨w.heap.size + 1, 0, none⟩ = some (.slice (some ⟨gr, 0, none⟩) (n + 1) cr) ∧ W.frozen? ⟨w.heap.size + 1, 0, none⟩ = false) ∧
    W.cell? ⟨w.heap.size + 1 + 1, 0, none⟩ = some (.int .i64 n2) ∧ W.cell? ⟨X, 0, none⟩ = some (.slice (some ⟨gb, 0, none⟩) n2 cb) ∧
    R.length = n + 1 ∧ D.length = n2 + 1 ∧ n + 1 ≤ cr ∧ n2 + 1 ≤ cb ∧ ok R ∧ ok D ∧ val R = val l * 2 ^ t ∧ val D = val k * 2 ^ t ∧ Hold W gr 0 R ∧ Hold W gb 0 D ∧ Gr w W

theorem own_keeps {B : Nat} {W W' : World} {p : Option Addr} {l : List Nat} (h : Ne.Own B W p l) (k : ∀ (a : Addr) (v : Value), W.cell? a = some v → W'.cell? a = some v ∧ W'.frozen? a = W.frozen? a) : Ne.Own B W' p l := by
  rcases h with rfl | ⟨b, off, rfl, hb, hc⟩
  · exact .inl rfl
  · exact .inr ⟨b, off, rfl, hb, fun i hi => ⟨(k _ _ (hc i hi).1).1, (k _ _ (hc i hi).1).2.trans (hc i hi).2⟩⟩
theorem own_set {B : Nat} {W : World} {p : Option Addr} {l : List Nat} (h : Ne.Own B W p l) (a : Addr) (v : Value) (ha : a.block < B) : Ne.Own B (W.setCell a v) p l := by
  rcases h with rfl | ⟨b, off, rfl, hb, hc⟩
  · exact .inl rfl
  · exact .inr ⟨b, off, rfl, hb, fun i hi => ⟨setCell_ne (by dsimp only; omega) (hc i hi).1, setCell_frozen (hc i hi).2⟩⟩
theorem ib_of {j c : Nat} (h : j + 1 + 1 ≤ c) : (j : Int) + 1 ≤ (c : Int) := by omega

set_option maxRecDepth 100000 in
set_option maxHeartbeats 8000000 in
theorem divide_any (p q : Option Addr) (n m c d : Nat) (l k : List Nat) (w : World) (hl : Nw w p n c l) (hk : Nw w q m d k) (hm0 : 0 < m) (hmn : m ≤ n) (hn : n ≤ 64) (htk : Nm.tight k) :
    Calls Try.prog 94 #[.slice p n c, .slice q m d] w (DivAt l k w) := by
  obtain ⟨j, rfl⟩ : ∃ j, m = j + 1 := ⟨m - 1, by omega⟩
  have HL := Lib.hid hl
  have HK := Lib.hid hk
  have HTK := Lib.hid htk
  have G0 := Lib.hid ((((Gr.refl w).alloc (.cells #[.slice none 0 0] 22)).alloc (.cells #[.slice none 0 0] 22)).alloc (.cells #[.int .i64 ((j : Int) + 1)] 3))
  obtain ⟨b, off, rfl, hc⟩ := hk.rd.at (by rw [hk.len]; omega)
  have hcj := hc j (by rw [hk.len]; omega)
  have hb : b < w.heap.size := World.block_lt_of_cell? w _ hcj
  have hb2 : b < w.heap.size + 1 := by omega
  have hb3 : b < w.heap.size + 1 + 1 := by omega
  have hx := ok_get hk.ok j
  have hx0 : k[j]?.getD 0 ≠ 0 := by
    rcases htk with h | h
    · rw [hk.len] at h; omega
    · rw [hk.len] at h; exact h
  have hbl := Lib.bitLen_le (k[j]?.getD 0) 32 (by omega) (by omega)
  have hb1 := (Lib.bitLenAux_bounds 64 (k[j]?.getD 0) (by omega) hx0).1
  change 1 ≤ Lib.bitLen _ at hb1
  have hb2' := (Lib.bitLenAux_bounds 64 (k[j]?.getD 0) (by omega) hx0).2.2
  change _ < 2 ^ Lib.bitLen _ at hb2'
  have HKT : Hid (val k * 2 ^ (32 - Lib.bitLen (k[j]?.getD 0)) < pw (j + 1)) := Lib.hid (shift_fits hk.ok hk.len rfl hb2' hbl rfl)
  clear hb2'
  have HLZ := Lib.hid (fun w => Nb.leading32 ((k[j]?.getD 0 : Nat) : Int) w (by omega) (by omega))
  simp only [Int.toNat_natCast] at HLZ
  generalize k[j]?.getD 0 = x at *
  generalize Lib.bitLen x = B at *
  obtain ⟨t, ht⟩ : ∃ t : Nat, t = 32 - B := ⟨_, rfl⟩
  rw [← ht] at HKT
  have ht32 : t < 32 := by omega
  have HT : Hid ((32 : Int) - (B : Int) = (t : Int)) := Lib.hid (by omega)
  rw [HT.out] at HLZ
  clear hl hk htk hc hx hx0 hbl hb1 ht HT
  have HU1 := Lib.hid (fun W (hW : Gr w W) => up_small p l n c t ht32 W (HL.out.grow hW))
  have HU2 := Lib.hid (fun W (hW : Gr w W) => up_small (some ⟨b, off, none⟩) k (j + 1) d t ht32 W (HK.out.grow hW))
  refine (callsIn_wide (n := 3)).1 ?_
  have t1 : Fence.wide.fn 131 := trivial
  have h1 : 1 ≤ 3 := by decide
  refine callsIn_of_wp_marks Try.func94 rfl trivial ?_ rfl
  simp only [Try.ntmps94, List.size_toArray, List.length_cons, List.length_nil, Nat.reduceAdd, Nat.reduceSub, Array.replicate_succ, Array.replicate_zero, List.push_toArray, List.append_toArray, List.nil_append, List.cons_append]
  refine wpIn_wide.2 ?_
  go_wp2_with fail
  refine (HLZ.out _).mono ?_
  rintro e w1 ⟨rfl, rfl⟩
  go_upto_region 3 with fail
  go_cut [8] from 18 to 25 (fun s8 W => Shifted w n (j + 1) t l k s8 W)
  case first =>
    have G00 := G0.out
    have ib0 : (0 : Int) ≤ (j : Int) + 1 := by omega
    have Z0 : (((w.alloc (.cells #[.slice none 0 0] 22)).alloc (.cells #[.slice none 0 0] 22)).alloc (.cells #[.int .i64 ((j : Int) + 1)] 3)).drew.cell? ⟨w.heap.size, 0, none⟩ = some (.slice none 0 0) := by simp [go_sem]
    have Z1 : (((w.alloc (.cells #[.slice none 0 0] 22)).alloc (.cells #[.slice none 0 0] 22)).alloc (.cells #[.int .i64 ((j : Int) + 1)] 3)).drew.cell? ⟨w.heap.size + 1, 0, none⟩ = some (.slice none 0 0) := by simp [go_sem]
    have Z2 : (((w.alloc (.cells #[.slice none 0 0] 22)).alloc (.cells #[.slice none 0 0] 22)).alloc (.cells #[.int .i64 ((j : Int) + 1)] 3)).drew.cell? ⟨w.heap.size + 1 + 1, 0, none⟩ = some (.int .i64 ((j : Int) + 1)) := by simp [go_sem]
    have Y0 : (((w.alloc (.cells #[.slice none 0 0] 22)).alloc (.cells #[.slice none 0 0] 22)).alloc (.cells #[.int .i64 ((j : Int) + 1)] 3)).drew.frozen? ⟨w.heap.size, 0, none⟩ = false := by simp [go_sem]
    have Y1 : (((w.alloc (.cells #[.slice none 0 0] 22)).alloc (.cells #[.slice none 0 0] 22)).alloc (.cells #[.int .i64 ((j : Int) + 1)] 3)).drew.frozen? ⟨w.heap.size + 1, 0, none⟩ = false := by simp [go_sem]
    have ZXa : ((((w.alloc (.cells #[.slice none 0 0] 22)).alloc (.cells #[.slice none 0 0] 22)).alloc (.cells #[.int .i64 ((j : Int) + 1)] 3)).drew.alloc (.cells #[.slice none 0 0] 22)).cell? ⟨w.heap.size + 1 + 1 + 1, 0, none⟩ = some (.slice none 0 0) := by simp [go_sem]
    have ZXb : ((((w.alloc (.cells #[.slice none 0 0] 22)).alloc (.cells #[.slice none 0 0] 22)).alloc (.cells #[.int .i64 ((j : Int) + 1)] 3)).alloc (.cells #[.slice none 0 0] 22)).drew.cell? ⟨w.heap.size + 1 + 1 + 1, 0, none⟩ = some (.slice none 0 0) := by simp [go_sem]
    have YXa : ((((w.alloc (.cells #[.slice none 0 0] 22)).alloc (.cells #[.slice none 0 0] 22)).alloc (.cells #[.int .i64 ((j : Int) + 1)] 3)).drew.alloc (.cells #[.slice none 0 0] 22)).frozen? ⟨w.heap.size + 1 + 1 + 1, 0, none⟩ = false := by simp [go_sem]
    have YXb : ((((w.alloc (.cells #[.slice none 0 0] 22)).alloc (.cells #[.slice none 0 0] 22)).alloc (.cells #[.int .i64 ((j : Int) + 1)] 3)).alloc (.cells #[.slice none 0 0] 22)).drew.frozen? ⟨w.heap.size + 1 + 1 + 1, 0, none⟩ = false := by simp [go_sem]
    have ZX2 : ((((w.alloc (.cells #[.slice none 0 0] 22)).alloc (.cells #[.slice none 0 0] 22)).alloc (.cells #[.int .i64 ((j : Int) + 1)] 3)).alloc (.cells #[.slice none 0 0] 22)).drew.cell? ⟨w.heap.size + 1 + 1, 0, none⟩ = some (.int .i64 ((j : Int) + 1)) := by simp [go_sem]
    go_region_held3 (fun w' => w'.cell? ⟨w.heap.size + 1 + 1, 0, none⟩ = some (.int .i64 ((j : Int) + 1)) ∧ Gr w w')
      (first | exact ⟨Z2, G00.drew⟩ | (constructor <;> assumption) | (constructor; (repeat' (first | assumption | exact Z2 | refine alloc_cell ?_ | refine setCell_ne ?_ ?_ | refine drew_cell ?_ | (simp; done) | (dsimp only; omega))); (repeat' (first | assumption | exact G00.drew | refine Gr.alloc ?_ _ | refine Gr.setCell ?_ ?_ _ | refine Gr.drew ?_ | (simp; done) | (dsimp only; omega) | omega))))
      (first
      | (go_at_call_of 117 c; refine (HU1.out _ ?_).mono ?_; (first | exact G00 | exact G00.drew | exact Gr.alloc G00.drew _ | exact (Gr.alloc G00 _).drew | assumption | (refine Gr.alloc ?_ _; assumption)); rintro e w' ⟨ga, ca, ra, rfl, ea1, ea2, ea3, ea4, ea5, ea6, ea7⟩; (first | (have za0 := ea7.cell Z0; have za1 := ea7.cell Z1; have za2 := ea7.cell Z2; have ya0 := ea7.frozen Z0 Y0; have ya1 := ea7.frozen Z1 Y1; have gag := Gr.trans G00.drew ea7) | (have za0 := ea7.cell (Gr.cell ((Gr.refl _).alloc _) Z0); have za1 := ea7.cell (Gr.cell ((Gr.refl _).alloc _) Z1); have za2 := ea7.cell (Gr.cell ((Gr.refl _).alloc _) Z2); have ya0 := ea7.frozen (Gr.cell ((Gr.refl _).alloc _) Z0) (Gr.frozen ((Gr.refl _).alloc _) Z0 Y0); have ya1 := ea7.frozen (Gr.cell ((Gr.refl _).alloc _) Z1) (Gr.frozen ((Gr.refl _).alloc _) Z1 Y1); have gag := Gr.trans (Gr.alloc G00.drew _) ea7) | (have za0 := ea7.cell zb0; have za1 := ea7.cell zb1; have za2 := ea7.cell zb2; have ya0 := ea7.frozen zb0 yb0; have ya1 := ea7.frozen zb1 yb1; have gag := Gr.trans gbg ea7) | (have za0 := ea7.cell (Gr.cell ((Gr.refl _).alloc _) zb0); have za1 := ea7.cell (Gr.cell ((Gr.refl _).alloc _) zb1); have za2 := ea7.cell (Gr.cell ((Gr.refl _).alloc _) zb2); have ya0 := ea7.frozen (Gr.cell ((Gr.refl _).alloc _) zb0) (Gr.frozen ((Gr.refl _).alloc _) zb0 yb0); have ya1 := ea7.frozen (Gr.cell ((Gr.refl _).alloc _) zb1) (Gr.frozen ((Gr.refl _).alloc _) zb1 yb1); have gag := Gr.trans (Gr.alloc gbg _) ea7)); (first | (have zxa := ea7.cell ZXa; have yxa := ea7.frozen ZXa YXa) | (have zxa := ea7.cell ZXb; have yxa := ea7.frozen ZXb YXb) | (have zxa := ea7.cell (cell_new1 _ _ _ _ rfl); have yxa := ea7.frozen (cell_new1 _ _ _ _ rfl) (frozen_new1 _ _ _)) | (have zxa := ea7.cell zxb; have yxa := ea7.frozen zxb yxb) | skip); (first | (have txa := World.block_lt_of_cell? _ _ zxa) | skip); have ta0 : w.heap.size < w'.heap.size := World.block_lt_of_cell? _ _ za0; have ta1 : w.heap.size + 1 < w'.heap.size := World.block_lt_of_cell? _ _ za1; have ta2 : w.heap.size + 1 + 1 < w'.heap.size := World.block_lt_of_cell? _ _ za2; have na1 : (w'.heap.size = w.heap.size + 1) = False := eq_false (Nat.ne_of_gt ta1); have na2 : (w.heap.size + 1 = w'.heap.size) = False := eq_false (Nat.ne_of_lt ta1); have na3 : (w'.heap.size = w.heap.size + 1 + 1) = False := eq_false (Nat.ne_of_gt ta2); have na4 : (w.heap.size + 1 + 1 = w'.heap.size) = False := eq_false (Nat.ne_of_lt ta2))
      | (go_at_call_of 117 d; refine (HU2.out _ ?_).mono ?_; (first | exact G00 | exact G00.drew | exact Gr.alloc G00.drew _ | exact (Gr.alloc G00 _).drew | assumption | (refine Gr.alloc ?_ _; assumption)); rintro e w' ⟨gb, cb, rb, rfl, eb1, eb2, eb3, eb4, eb5, eb6, eb7⟩; (first | (have zb0 := eb7.cell Z0; have zb1 := eb7.cell Z1; have zb2 := eb7.cell Z2; have yb0 := eb7.frozen Z0 Y0; have yb1 := eb7.frozen Z1 Y1; have gbg := Gr.trans G00.drew eb7) | (have zb0 := eb7.cell (Gr.cell ((Gr.refl _).alloc _) Z0); have zb1 := eb7.cell (Gr.cell ((Gr.refl _).alloc _) Z1); have zb2 := eb7.cell (Gr.cell ((Gr.refl _).alloc _) Z2); have yb0 := eb7.frozen (Gr.cell ((Gr.refl _).alloc _) Z0) (Gr.frozen ((Gr.refl _).alloc _) Z0 Y0); have yb1 := eb7.frozen (Gr.cell ((Gr.refl _).alloc _) Z1) (Gr.frozen ((Gr.refl _).alloc _) Z1 Y1); have gbg := Gr.trans (Gr.alloc G00.drew _) eb7) | (have zb0 := eb7.cell za0; have zb1 := eb7.cell za1; have zb2 := eb7.cell za2; have yb0 := eb7.frozen za0 ya0; have yb1 := eb7.frozen za1 ya1; have gbg := Gr.trans gag eb7) | (have zb0 := eb7.cell (Gr.cell ((Gr.refl _).alloc _) za0); have zb1 := eb7.cell (Gr.cell ((Gr.refl _).alloc _) za1); have zb2 := eb7.cell (Gr.cell ((Gr.refl _).alloc _) za2); have yb0 := eb7.frozen (Gr.cell ((Gr.refl _).alloc _) za0) (Gr.frozen ((Gr.refl _).alloc _) za0 ya0); have yb1 := eb7.frozen (Gr.cell ((Gr.refl _).alloc _) za1) (Gr.frozen ((Gr.refl _).alloc _) za1 ya1); have gbg := Gr.trans (Gr.alloc gag _) eb7)); (first | (have zxb := eb7.cell ZXa; have yxb := eb7.frozen ZXa YXa) | (have zxb := eb7.cell ZXb; have yxb := eb7.frozen ZXb YXb) | (have zxb := eb7.cell (cell_new1 _ _ _ _ rfl); have yxb := eb7.frozen (cell_new1 _ _ _ _ rfl) (frozen_new1 _ _ _)) | (have zxb := eb7.cell zxa; have yxb := eb7.frozen zxa yxa) | skip); (first | (have txb := World.block_lt_of_cell? _ _ zxb) | skip); have tb0 : w.heap.size < w'.heap.size := World.block_lt_of_cell? _ _ zb0; have tb1 : w.heap.size + 1 < w'.heap.size := World.block_lt_of_cell? _ _ zb1; have tb2 : w.heap.size + 1 + 1 < w'.heap.size := World.block_lt_of_cell? _ _ zb2; have nb1 : (w'.heap.size = w.heap.size + 1) = False := eq_false (Nat.ne_of_gt tb1); have nb2 : (w.heap.size + 1 = w'.heap.size) = False := eq_false (Nat.ne_of_lt tb1); have nb3 : (w'.heap.size = w.heap.size + 1 + 1) = False := eq_false (Nat.ne_of_gt tb2); have nb4 : (w.heap.size + 1 + 1 = w'.heap.size) = False := eq_false (Nat.ne_of_lt tb2); have ib := ib_of eb2))
    all_goals
      have la := hold_lt ea6 (by omega)
      have lb := hold_lt eb6 (by omega)
      have hga : Hold w' ga 0 ra := by
        first
          | exact ea6.grow eb7
          | exact (hold_alloc ea6).grow eb7
      have l1 := ea7.le
      have l2 := eb7.le
      try simp at l1
      try simp at l2
      try simp at ea5
      try simp at eb5
      have h10 : w.heap.size + 1 ≠ w.heap.size := by omega
      have h12 : w.heap.size + 1 ≠ w.heap.size + 1 + 1 := by omega
      have h1a : w.heap.size + 1 ≠ ga := by omega
      have h1b : w.heap.size + 1 ≠ gb := by omega
      have hw1 : w.heap.size ≤ w.heap.size + 1 := by omega
      go_wp2_with fail
      go_meet
      refine ⟨_, ga, gb, ca, cb, ra, rb, rfl, ?_, ?_, ?_, ?_, ?_, ?_, ⟨?_, ?_⟩, ⟨?_, ?_⟩, ?_, ?_, ea1, eb1, ea2, eb2, ea3, eb3, ea4, eb4, ?_, ?_, ?_⟩
      · omega
      · omega
      · omega
      · omega
      · omega
      · omega
      · first
          | exact alloc_cell (setCell_ne h10 zb0)
          | (refine setCell_ne ?_ (setCell_ne h10 zb0); dsimp only; omega)
      · first
          | exact alloc_frozen (setCell_ne h10 zb0) (setCell_frozen yb0)
          | exact setCell_frozen (setCell_frozen yb0)
      · first
          | exact alloc_cell (setCell_at zb1)
          | (refine setCell_ne ?_ (setCell_at zb1); dsimp only; omega)
      · first
          | exact alloc_frozen (setCell_at zb1) (setCell_frozen yb1)
          | exact setCell_frozen (setCell_frozen yb1)
      · first
          | exact alloc_cell (setCell_ne h12 zb2)
          | (refine setCell_ne ?_ (setCell_ne h12 zb2); dsimp only; omega)
      · first
          | exact cell_newS _ _ _ _ _ _ rfl
          | (refine setCell_at (setCell_ne ?_ zxb); dsimp only; omega)
      · first
          | exact hold_alloc (hold_other h1a hga)
          | (refine hold_other ?_ (hold_other h1a hga); dsimp only; omega)
      · first
          | exact hold_alloc (hold_other h1b eb6)
          | (refine hold_other ?_ (hold_other h1b eb6); dsimp only; omega)
      · first
          | exact Gr.alloc (Gr.setCell gbg hw1 _) _
          | (refine Gr.setCell (Gr.setCell gbg hw1 _) ?_ _; dsimp only; omega)
  case rest =>
    obtain ⟨X, gr, gb, cr, cb, R, D, rfl, hXr, hXb, hrb, hXw, hrw, hbw, ⟨b0, f0⟩, ⟨b1, f1⟩, b2, bX, hRl, hDl, hRc, hDc, hRo, hDo, hRv, hDv, hHR, hHD, hG⟩ := hcut
    obtain ⟨i0, hi, hz0, hz1, hz2⟩ := info_parts infoW
    obtain ⟨m, hm⟩ : ∃ m : Nat, m = n - j := ⟨_, rfl⟩
    have hmi : (n : Int) - ((j : Int) + 1) + 1 = (m : Int) := by omega
    have hm1 : 1 ≤ m := by omega
    have hm64 : m ≤ 64 := by omega
    have HM := Lib.hid hm
    have HRL := Lib.hid hRl
    have HDL := Lib.hid hDl
    have HRO := Lib.hid hRo
    have HDO := Lib.hid hDo
    have HRV := Lib.hid hRv
    have HDV := Lib.hid hDv
    have HHR := Lib.hid hHR
    have HHD := Lib.hid hHD
    have HG := Lib.hid hG
    clear hRl hDl hRo hDo hRv hDv hHR hHD hG hm HU1 HU2 HLZ G0 hcj
    generalize wc = W1 at *
    have hXlt := World.block_lt_of_cell? W1 _ bX
    go_wp2_with (first
      | (refine wpList_make_full (o := ⟨some 31, _, _, _, _, _⟩) _ rfl _ _ _ rfl W1.heap.size 50 i0 (.int .u32 0) 1 Try.underlying22 hi hz0 hz1 .i64 .i64 _ _ m rfl rfl rfl rfl (by rw [hz2]; omega) (by unfold maxLen; omega) (Nat.le_refl _) ?_; intro w3 hown hgrow; have k0 := (Gr.grown hgrow).cell b0; have k1 := (Gr.grown hgrow).cell b1; have k2 := (Gr.grown hgrow).cell b2; have kX := (Gr.grown hgrow).cell bX; have g0 := (Gr.grown hgrow).frozen b0 f0; have g1 := (Gr.grown hgrow).frozen b1 f1; have HO := Lib.hid (hold_made hown); have G3 := Lib.hid (Gr.grown hgrow); clear hown hgrow))
    have hgq : W1.heap.size < w3.heap.size := hold_lt HO.out (by simp; omega)
    go_wp2_with fail
    refine (callsIn_wide.1 (back_in Fence.wide 2 trivial rfl _ _ _ _)).mono ?_
    rintro e w4 ⟨rfl, rfl⟩
    go_wp2_with fail
    have hX1 : X < W1.heap.size := hXlt
    have hgr1 := hold_lt HHR.out (by rw [HRL.out]; omega)
    have hgb1 := hold_lt HHD.out (by rw [HDL.out]; omega)
    have hn0 : w.heap.size ≠ W1.heap.size := by omega
    have HD2 : Hid (val (D.take (j + 1)) = val k * 2 ^ t) := Lib.hid (by rw [take_val' (by rw [HDL.out]; omega) (by rw [HDV.out]; exact HKT.out)]; exact HDV.out)
    have HZ : Hid (Hold ((w3.setCell ⟨w.heap.size, 0, none⟩ (.slice (some ⟨W1.heap.size, 0, none⟩) m m)).alloc (.cells #[.slice (some ⟨W1.heap.size, 0, none⟩) m m] 22)) W1.heap.size 0 (List.replicate m 0)) := Lib.hid (hold_alloc (hold_other hn0 HO.out))
    have HS : Hid (Src w3.heap.size (some ⟨W1.heap.size, 0, none⟩) m m (fun _ _ => True) ((w3.setCell ⟨w.heap.size, 0, none⟩ (.slice (some ⟨W1.heap.size, 0, none⟩) m m)).alloc (.cells #[.slice (some ⟨W1.heap.size, 0, none⟩) m m] 22))) := Lib.hid
      ⟨cell_newS _ _ _ _ _ _ rfl, .inr ⟨W1.heap.size, 0, rfl, fun i hi => ⟨_, trivial, (HZ.out i (by simp; omega)).1⟩⟩⟩
    have HI0 : Hid (DivI w W1.heap.size gr gb X m (n + 1) (j + 1) cr cb R (D.take (j + 1)) [] ((w3.setCell ⟨w.heap.size, 0, none⟩ (.slice (some ⟨W1.heap.size, 0, none⟩) m m)).alloc (.cells #[.slice (some ⟨W1.heap.size, 0, none⟩) m m] 22))) := Lib.hid
      ⟨⟨⟨alloc_cell (setCell_at k0), alloc_frozen (setCell_at k0) (setCell_frozen g0)⟩, ⟨alloc_cell (setCell_ne (by dsimp only; omega) k1), alloc_frozen (setCell_ne (by dsimp only; omega) k1) (setCell_frozen g1)⟩, alloc_cell (setCell_ne (by dsimp only; omega) k2), alloc_cell (setCell_ne (by dsimp only; omega) kX)⟩,
        ⟨List.replicate m 0, R, by simp, HRL.out, ok_replicate _, HRO.out, HZ.out, hold_alloc (hold_other (by dsimp only; omega) (HHR.out.grow G3.out)), hold_alloc (hold_other (by dsimp only; omega) (hold_take (HHD.out.grow G3.out) _)), fun _ => DivN.start (by rw [HD2.out, HRV.out]; exact div_start HL.out.ok HL.out.len HK.out.len HTK.out HM.out (by omega))⟩, Gr.alloc (Gr.setCell (HG.out.trans G3.out) (by dsimp only; omega) _) _⟩
    have hwW : w.heap.size ≤ ((w3.setCell ⟨w.heap.size, 0, none⟩ (.slice (some ⟨W1.heap.size, 0, none⟩) m m)).alloc (.cells #[.slice (some ⟨W1.heap.size, 0, none⟩) m m] 22)).heap.size := HI0.out.2.2.le
    refine (wpIn_wide (n := 3)).1 ?_
    refine wpIn_rangeFunc_ownG rfl h1 (gf := 131) (lb := #[.pointer (some ⟨w3.heap.size, 0, none⟩)]) rfl trivial (enters_of Try.func131 (by kernel_rfl) rfl)
      (back_stops Fence.wide (3 - 1) trivial rfl (by decide) w3.heap.size (some ⟨W1.heap.size, 0, none⟩) m m (by omega) (fun _ _ => True) _ HS.out) (fun h k s => k (h s)) src_b (Below.refl _ _) (fun _ => rfl)
      (DivI w W1.heap.size gr gb X m (n + 1) (j + 1) cr cb R (D.take (j + 1))) (fun _ _ _ => False) (divI_own hwW) (fun _ _ _ _ _ hs _ _ => hs) HI0.out ?a1 ?assign ?body ?done ?stop
    case assign =>
      intro l x W K hK
      unfold en
      gi_wp2
      exact hK
    case body =>
      rintro l2 pre ⟨i, v⟩ W ⟨⟨⟨p0, u0⟩, ⟨p1, u1⟩, p2, pX⟩, ⟨qs, r, hql, hrl, hqo, hro, hhq, hhr, hhd, hN⟩, hB⟩ hlt
      have hjm : cl m i < m := cl_lt (by omega)
      obtain ⟨jj, hjj⟩ : ∃ jj, cl m i = jj := ⟨_, rfl⟩
      rw [hjj] at hjm ⊢
      have HJ := Lib.hid hjj
      have hmn2 : m + (j + 1) = n + 1 := by have := HM.out; omega
      have hwl : ((r.drop jj).take (j + 1 + 1)).length = j + 1 + 1 := by simp; omega
      have hDl : (D.take (j + 1)).length = j + 1 := by rw [List.length_take, HDL.out]; omega
      have HTD : Hid (Calls Try.prog 118 #[.slice (some ⟨gr, jj, none⟩) (j + 1 + 1) (cr - jj), .slice (some ⟨gb, 0, none⟩) (j + 1) cb] W.drew (DigitAt gr jj ((r.drop jj).take (j + 1 + 1)) (D.take (j + 1)) W.drew)) := Lib.hid
        (takeDigit_any gr jj (j + 1 + 1) (cr - jj) gb 0 (j + 1) cb _ _ hwl hDl rfl (by omega) (by omega) (ok_take (ok_drop hro _) _) (ok_take HDO.out _) (fun e => hrb e.symm) W.drew (hold_window hhr (by omega)) hhd)
      have hcq := hhq jj (by omega)
      rw [Nat.zero_add] at hcq
      obtain ⟨y, hy⟩ : ∃ y, qs[jj]?.getD 0 = y := ⟨_, rfl⟩
      rw [hy] at hcq
      obtain ⟨cq, fq⟩ := hcq
      have HSTEP := Lib.hid (fun (q : Nat) (s : List Nat) (W' : World) => divI_step (w := w) (W := W) (W' := W') (gq := W1.heap.size) (gr := gr) (gb := gb) (X := X) (Bs := w3.heap.size) (m := m) (n1 := n + 1) (n2 := j + 1) (cr := cr) (cb := cb) (B := ((w3.setCell ⟨w.heap.size, 0, none⟩ (.slice (some ⟨W1.heap.size, 0, none⟩) m m)).alloc (.cells #[.slice (some ⟨W1.heap.size, 0, none⟩) m m] 22)).heap.size) (i := i) (v := v) (jj := jj) (q := q) (R := R) (D := D.take (j + 1)) (qs := qs) (r := r) (s := s) (pre := pre)
        hjj hjm (by omega) hrw (by omega) (by omega) hrb (by omega) hXr (by omega) (by omega) p0 u0 p1 u1 p2 pX hql hrl hqo hro hhq hhr hhd hN hB hlt hmn2.symm (by rw [HD2.out]; exact HKT.out))
      have HWR : Hid (∀ W' : World, Wr gr jj (j + 1 + 1) W.drew W' → Wr gr jj (j + 1 + 1) W W') := Lib.hid (fun W' hw => ((Wr.refl _ _ _ W).drewN 1).trans hw)
      have HWL := Lib.hid hwl
      clear hql hrl hqo hro hhq hhr hhd hN hB hjj hy hwl hDl
      have q1 : IntKind.i64.wrap ((jj : Int) + ((j : Int) + 1)) = (jj : Int) + ((j : Int) + 1) := IntWalk.i64_in _ (by omega)
      have q2 : IntKind.i64.wrap ((jj : Int) + ((j : Int) + 1) + 1) = (jj : Int) + ((j : Int) + 1) + 1 := IntWalk.i64_in _ (by omega)
      have q3 : (0 : Int) ≤ (jj : Int) := by omega
      have q4 : (jj : Int) ≤ (jj : Int) + ((j : Int) + 1) + 1 := by omega
      have q5 : (jj : Int) + ((j : Int) + 1) + 1 ≤ (cr : Int) := by omega
      have q6 : ((jj : Int) + ((j : Int) + 1) + 1).toNat = jj + (j + 1) + 1 := by omega
      have q7 : jj + (j + 1) + 1 - jj = j + 1 + 1 := by omega
      have q8 : (cr = jj) = False := eq_false (by omega)
      have q9 : (jj : Int) < (m : Int) := by omega
      have q10 : (0 : Int) ≤ (jj : Int) + ((j : Int) + 1) + 1 := by omega
      clear hmn2
      gi_wp2_with fail
      refine wpIn_round_held (S := fun w' => w'.cell? ⟨w.heap.size, 0, none⟩ = some (.slice (some ⟨W1.heap.size, 0, none⟩) m m) ∧ w'.cell? ⟨w.heap.size + 1, 0, none⟩ = some (.slice (some ⟨gr, 0, none⟩) (n + 1) cr) ∧ w'.cell? ⟨w.heap.size + 1 + 1, 0, none⟩ = some (.int .i64 ((j : Int) + 1)) ∧ w'.cell? ⟨X, 0, none⟩ = some (.slice (some ⟨gb, 0, none⟩) (j + 1) cb)) (by kernel_rfl) (by kernel_rfl) (fun ⟨_, _, h⟩ => h) ⟨p0, p1, p2, pX⟩ (fun hS => ?_)
      refine wpAnyH_take (i := 0) (v := ?_) rfl (by kernel_rfl) (by kernel_rfl) (by kernel_rfl) (fun _ _ _ h => h) (Or.inl ⟨by rfl, ?_⟩) hS ?_
      rotate_left
      · (intro wx hSx; go_simp; rfl)
      refine wpAnyH_take (i := 1) (v := ?_) rfl (by kernel_rfl) (by kernel_rfl) (by kernel_rfl) (fun _ _ _ h => h) (Or.inl ⟨by rfl, ?_⟩) hS ?_
      rotate_left
      · (intro wx hSx; go_simp; rfl)
      refine wpAnyH_take (i := 2) (v := ?_) rfl (by kernel_rfl) (by kernel_rfl) (by kernel_rfl) (fun _ _ _ h => h) (Or.inl ⟨by rfl, ?_⟩) hS ?_
      rotate_left
      · (intro wx hSx; go_simp; rfl)
      refine wpAnyH_take (i := 3) (v := ?_) rfl (by kernel_rfl) (by kernel_rfl) (by kernel_rfl) (fun _ _ _ h => h) (Or.inl ⟨by rfl, ?_⟩) hS ?_
      rotate_left
      · (intro wx hSx; go_simp; rfl)
      refine wpAnyH_take (i := 4) (v := ?_) rfl (by kernel_rfl) (by kernel_rfl) (by kernel_rfl) (fun _ _ _ h => h) (Or.inl ⟨by rfl, ?_⟩) hS ?_
      rotate_left
      · (intro wx hSx; go_simp; rfl)
      refine wpAnyH_take (i := 5) (v := ?_) rfl (by kernel_rfl) (by kernel_rfl) (by kernel_rfl) (fun _ _ _ h => h) (Or.inl ⟨by rfl, ?_⟩) hS ?_
      rotate_left
      · (intro wx hSx; go_simp; rfl)
      refine wpAnyH_take (i := 6) (v := ?_) rfl (by kernel_rfl) (by kernel_rfl) (by kernel_rfl) (fun _ _ _ h => h) (Or.inl ⟨by rfl, ?_⟩) hS ?_
      rotate_left
      · (intro wx hSx; go_simp; rfl)
      refine wpAnyH_take (i := 7) (v := ?_) rfl (by kernel_rfl) (by kernel_rfl) (by kernel_rfl) (fun _ _ _ h => h) (Or.inl ⟨by rfl, ?_⟩) hS ?_
      rotate_left
      · (intro wx hSx; go_simp; rfl)
      refine wpAnyH_take (i := 8) (v := ?_) rfl (by kernel_rfl) (by kernel_rfl) (by kernel_rfl) (fun _ _ _ h => h) (Or.inl ⟨by rfl, ?_⟩) hS ?_
      rotate_left
      · (intro wx hSx; go_simp; rfl)
      refine wpAnyH_take (i := 9) (v := ?_) rfl (by kernel_rfl) (by kernel_rfl) (by kernel_rfl) (fun _ _ _ h => h) (Or.inl ⟨by rfl, ?_⟩) hS ?_
      rotate_left
      · (intro wx hSx; go_simp; rfl)
      refine wpAnyH_ready (rs := [10]) (by kernel_rfl) (by simp) ?_
      refine AllReadyH.cons rfl (fun K hK => ?_) AllReadyH.nil
      go_simp
      refine HTD.out.mono ?_
      rintro e W' ⟨q, s, rfl, hq, hsl, hso, hsh, hwr, hv, hlt2⟩
      rw [HWL.out] at hsl hwr
      have hwr2 := HWR.out W' hwr
      have kq := (hwr2.cellOf (o := jj) (show W1.heap.size ≠ gr by omega)).trans cq
      have kf := (hwr2.frozen ⟨W1.heap.size, jj, none⟩).trans fq
      refine hK.out _ _ ⟨(hwr2.cellOf (show w.heap.size ≠ gr by omega)).trans p0, (hwr2.cellOf (show w.heap.size + 1 ≠ gr by omega)).trans p1, (hwr2.cellOf (show w.heap.size + 1 + 1 ≠ gr by omega)).trans p2, (hwr2.cellOf hXr).trans pX⟩ (fun hS2 => ?_)
      clear hK hS
      refine wpAnyH_take (i := 11) (v := ?_) rfl (by kernel_rfl) (by kernel_rfl) (by kernel_rfl) (fun _ _ _ h => h) (Or.inl ⟨by rfl, ?_⟩) hS2 ?_
      rotate_left
      · (intro wx hSx; go_simp; rfl)
      refine wpAnyH_ready (rs := [12]) (by kernel_rfl) (by simp) ?_
      refine AllReadyH.cons rfl (fun K hK => ?_) AllReadyH.nil
      go_simp
      refine hK.out _ _ ⟨setCell_ne (by dsimp only; omega) hS2.1, setCell_ne (by dsimp only; omega) hS2.2.1, setCell_ne (by dsimp only; omega) hS2.2.2.1, setCell_ne (by dsimp only; omega) hS2.2.2.2⟩ (fun _ => ?_)
      refine wpAnyH_done (by kernel_rfl) ?_ _
      exact HSTEP.out q s W' hq hsl hso hsh hwr2 hv hlt2
    case done =>
      rintro Dd xs W hDd hO ⟨⟨⟨p0, u0⟩, ⟨p1, u1⟩, p2, pX⟩, ⟨qs, r, hql, hrl, hqo, hro, hhq, hhr, hhd, hN⟩, hB⟩ hK
      have hxl := Out.length hO
      have hN1 := hN (by rw [hxl]; exact hO.1)
      rw [hxl] at hN1
      obtain ⟨hv1, hv2⟩ := DivN.done hN1
      have HQV : Hid (val qs = val l / val k) := Lib.hid (by rw [hv1, HRV.out, HD2.out, Nat.mul_div_mul_right _ _ (Nat.two_pow_pos t)])
      have hvr : val r < pw (j + 1) := by
        rw [hv2]
        refine Nat.lt_trans (Nat.mod_lt _ ?_) (by rw [HD2.out]; exact HKT.out)
        rcases Nat.eq_zero_or_pos (val (D.take (j + 1))) with h0 | h0
        · exact absurd hN1 (by intro h; have h1 := h.2.1; rw [h0, Nat.zero_mul] at h1; omega)
        · exact h0
      have HRV2 : Hid (val (r.take (j + 1)) / 2 ^ t = val l % val k) := Lib.hid (by rw [take_val' (by rw [hrl]; omega) hvr, hv2, HRV.out, HD2.out, Nat.mul_mod_mul_right, Nat.mul_div_cancel _ (Nat.two_pow_pos t)])
      have hrt : (r.take (j + 1)).length = j + 1 := by rw [List.length_take, hrl]; omega
      have HDN : Hid (∀ W' : World, Gr W W' → Calls Try.prog 119 #[.slice (some ⟨gr, 0, none⟩) (j + 1) cr, .int .i64 (t : Int)] W' (DownAt (r.take (j + 1)) t W')) := Lib.hid fun W' hg =>
        down_any _ _ (j + 1) cr t (by omega) W' (Nw.grow ⟨hrt, by omega, (fun e => by cases e), .inr ⟨gr, 0, rfl, fun i hi => (hold_take hhr (j + 1) i hi).1⟩, ok_take hro _, by omega⟩ hg)
      have HRT := Lib.hid hrt
      have HQL := Lib.hid hql
      have HQO := Lib.hid hqo
      have HHQ := Lib.hid hhq
      have HB := Lib.hid hB
      have hDw : w.heap.size ≤ Dd := by have := HI0.out.2.2.le; omega
      have hDk := World.block_lt_of_cell? W _ p0
      clear hxl hN hN1 hv1 hv2 hvr hrt hrl hro hhr hhd hql hqo hhq hO hB
      clear HS HI0 HZ HD2 HO
      go_upto_region 8 with fail
      refine wp_region_noPanic ?_
      have q1 : (0 : Int) ≤ (j : Int) + 1 := by omega
      have q2 : (j : Int) + 1 ≤ (cr : Int) := by omega
      have q3 : ((j : Int) + 1).toNat = j + 1 := by omega
      refine wp_region_held_drew (S := fun w' => w'.cell? ⟨w.heap.size, 0, none⟩ = some (.slice (some ⟨W1.heap.size, 0, none⟩) m m) ∧ w'.cell? ⟨w.heap.size + 1 + 1, 0, none⟩ = some (.int .i64 ((j : Int) + 1))) (by kernel_rfl) ⟨p0, p2⟩ (fun hS => ?_)
      refine wpAnyH_take (i := 0) (v := ?_) rfl (by kernel_rfl) (by kernel_rfl) (by kernel_rfl) (fun _ _ _ h => h) (Or.inl ⟨by rfl, ?_⟩) hS ?_
      rotate_left
      · (intro wx hSx; go_simp; rfl)
      refine wpAnyH_take (i := 2) (v := ?_) rfl (by kernel_rfl) (by kernel_rfl) (by kernel_rfl) (fun _ _ _ h => h) (Or.inl ⟨by rfl, ?_⟩) hS ?_
      rotate_left
      · (intro wx hSx; go_simp; rfl)
      refine wpAnyH_take (i := 4) (v := ?_) rfl (by kernel_rfl) (by kernel_rfl) (by kernel_rfl) (fun _ _ _ h => h) (Or.inl ⟨by rfl, ?_⟩) hS ?_
      rotate_left
      · (intro wx hSx; go_simp; rfl)
      refine wpAnyH_ready (rs := [1]) (by kernel_rfl) (by simp) ?_
      refine AllReadyH.cons rfl (fun K hK2 => ?_) AllReadyH.nil
      go_simp
      refine hK2.out _ _ hS (fun _ => ?_)
      clear hK2
      refine wpAnyH_take (i := 3) (v := ?_) rfl (by kernel_rfl) (by kernel_rfl) (by kernel_rfl) (fun _ _ _ h => h) (Or.inl ⟨by rfl, ?_⟩) hS ?_
      rotate_left
      · (intro wx hSx; go_simp; rfl)
      refine wpAnyH_ready (rs := [5]) (by kernel_rfl) (by simp) ?_
      refine AllReadyH.cons rfl (fun K hK2 => ?_) AllReadyH.nil
      go_simp
      refine (HDN.out _ (Gr.drew (Gr.refl _))).mono ?_
      rintro e W' ⟨y2, r2, c2, rfl, e1, e2, e3, e4, e5, e6, e7⟩
      have z0 := e7.cell p0
      have z1 := e7.cell p1
      have z2 := e7.cell p2
      have y0 := e7.frozen p0 u0
      have y1 := e7.frozen p1 u1
      have hK3 : W'.heap[Dd]? = some (.deferred (some [])) := (e7.block Dd (Array.getElem?_eq_some_iff.1 hK).1).trans hK
      refine hK2.out _ _ ⟨z0, z2⟩ (fun hS3 => ?_)
      clear hK2
      refine wpAnyH_ready (rs := [6]) (by kernel_rfl) (by simp) ?_
      refine AllReadyH.cons rfl (fun K hK2 => ?_) AllReadyH.nil
      go_simp
      refine hK2.out _ _ ⟨setCell_at z0, setCell_ne (by dsimp only; omega) z2⟩ (fun hS4 => ?_)
      clear hK2
      refine wpAnyH_ready (rs := [7]) (by kernel_rfl) (by simp) ?_
      refine AllReadyH.cons rfl (fun K hK2 => ?_) AllReadyH.nil
      go_simp
      refine hK2.out _ _ ⟨setCell_ne (by dsimp only; omega) hS4.1, setCell_ne (by dsimp only; omega) hS4.2⟩ (fun hS5 => ?_)
      clear hK2
      refine wpAnyH_done (by kernel_rfl) ?_ _
      refine NoPanic.normal ?_
      have hle : w.heap.size + 1 < W.heap.size := World.block_lt_of_cell? W _ p1
      have hle2 : W1.heap.size ≠ w.heap.size := by omega
      have hle3 : W1.heap.size ≠ w.heap.size + 1 := by omega
      have hH : Hid (Hold ((W'.setCell ⟨w.heap.size, 0, none⟩ (.slice (some ⟨W1.heap.size, 0, none⟩) m m)).setCell ⟨w.heap.size + 1, 0, none⟩ (.slice y2 r2.length c2)) W1.heap.size 0 qs) := Lib.hid
        (hold_other (fun e => hle3 e.symm) (hold_other (fun e => hle2 e.symm) (HHQ.out.grow ((Gr.drew (Gr.refl W)).trans e7))))
      have hK4 := (KeepsOthers.setCell W' ⟨w.heap.size, 0, none⟩ (.slice (some ⟨W1.heap.size, 0, none⟩) m m)).same Dd _ hK3 rfl
      have hK5 := (KeepsOthers.setCell _ ⟨w.heap.size + 1, 0, none⟩ (.slice y2 r2.length c2)).same Dd _ hK4 rfl
      have x0 := setCell_ne (p := ⟨w.heap.size + 1, 0, none⟩) (v := .slice y2 r2.length c2) (by dsimp only; omega) (setCell_at (v := .slice (some ⟨W1.heap.size, 0, none⟩) m m) z0)
      have x1 := setCell_at (v := .slice y2 r2.length c2) (setCell_ne (p := ⟨w.heap.size, 0, none⟩) (v := .slice (some ⟨W1.heap.size, 0, none⟩) m m) (by dsimp only; omega) z1)
      have hO2 := Lib.hid (own_set (own_set e6 ⟨w.heap.size, 0, none⟩ (.slice (some ⟨W1.heap.size, 0, none⟩) m m) (show w.heap.size < W.heap.size by omega)) ⟨w.heap.size + 1, 0, none⟩ (.slice y2 r2.length c2) hle)
      have hGF := Lib.hid (((HB.out.drew.trans e7).setCell (p := ⟨w.heap.size, 0, none⟩) (Nat.le_refl _) (.slice (some ⟨W1.heap.size, 0, none⟩) m m)).setCell (p := ⟨w.heap.size + 1, 0, none⟩) (Nat.le_succ _) (.slice y2 r2.length c2))
      have E := Lib.hid (And.intro e1 (And.intro e2 (And.intro e3 (And.intro e4 e5))))
      clear hS hS3 hS4 hS5 z0 z1 z2 y0 y1 e1 e2 e3 e4 e5 e6 e7 hK3 hK4 p0 u0 p1 u1 p2 pX
      go_wp2
      refine ⟨by simp, .inl ⟨_, _, rfl, run_takeDeferred hK5, ?_⟩⟩
      have hc0 := cell_kept x0 (grownBy_putObj' _ Dd (.deferred none)) (fun r e => by cases e; exact ⟨_, hK5, rfl⟩)
      have hc1 := cell_kept x1 (grownBy_putObj' _ Dd (.deferred none)) (fun r e => by cases e; exact ⟨_, hK5, rfl⟩)
      have kp : ∀ (a : Addr) (v : Value), ((W'.setCell ⟨w.heap.size, 0, none⟩ (.slice (some ⟨W1.heap.size, 0, none⟩) m m)).setCell ⟨w.heap.size + 1, 0, none⟩ (.slice y2 r2.length c2)).cell? a = some v → _ ∧ _ := fun a v hv => And.intro
        (cell_kept hv (grownBy_putObj' _ Dd (.deferred none)) (fun r e => by cases e; exact ⟨_, hK5, rfl⟩)) (frozen_kept hv (grownBy_putObj' _ Dd (.deferred none)) (fun r e => by cases e; exact ⟨_, hK5, rfl⟩))
      have KP := Lib.hid kp
      clear kp
      refine ⟨.tuple #[.slice (some ⟨W1.heap.size, 0, none⟩) m m, .slice y2 r2.length c2], by simp [results, Try.results94, go_sem, hc0, hc1], ?_⟩
      obtain ⟨e1, e2, e3, e4, e5⟩ := E.out
      rw [HRT.out] at e2
      exact ⟨some ⟨W1.heap.size, 0, none⟩, y2, m, c2, qs, r2, by rw [HQL.out], by rw [HQL.out]; exact Nat.le_refl _, e1, by rw [HQL.out]; omega, by omega, (fun e => by cases e), e3, HQO.out, e4, HQV.out, e5.trans HRV2.out,
        (hold_keep hH.out KP.out).own (by omega), (own_keeps hO2.out KP.out).mono (by have h := hle; exact Nat.le_of_lt (Nat.lt_of_succ_lt h)), gr_trans hGF.out (belowK_b (w := w) (Nat.le_refl _) _ Dd _ _ hDw hK5 rfl rfl)⟩
    case stop =>
      rintro D c pre W _ _ h _
      exact h.elim
end Go.Proofs.Ytlciocebbckdcaa.Nk


/- The contract of natural's Div: where it divides. -/
namespace Go.Proofs.Ytlciocebbckdcaa.Nk
open Go.RowKit Go.Shelf Go.Proofs.Ytlciocebbckdcaa.Nm Go.Proofs.Ytlciocebbckdcaa.Ne Go.Proofs.Ytlciocebbckdcaa.Nf


/-- trim, for words of the call's own. -/
theorem trim_own (p : Option Addr) (l : List Nat) (cap B : Nat) (hn : l.length ≤ cap) (hs : l.length ≤ 1000) (hok : ok l) (w : World) (h : Ne.Own B w p l) :
    Calls Try.prog 95 #[.slice p l.length cap] w fun e w' => e = .returned (.slice p (digs (val l)).length cap) ∧ w' = w :=
  (trim_any p l cap hn (by omega) w h.rd).mono fun _ _ ⟨h1, h2⟩ => ⟨by rw [h1, trim_eq_digs hok], h2⟩
theorem trim_nr (p : Option Addr) (l : List Nat) (cap B : Nat) (hn : l.length ≤ cap) (hs : l.length ≤ 1000) (hp : p = none → l.length = 0 ∧ cap = 0) (hok : ok l) (w : World) (h : Ne.Own B w p l) :
    Nr B w p (digs (val l)).length cap (digs (val l)) := by
  have h1 := trim_eq_digs hok
  have h2 := trim_length_le l
  rw [h1] at h2
  have h3 : digs (val l) = l.take (digs (val l)).length := by
    rw [← h1]
    have : trim l <+: l := by
      unfold trim
      have := List.dropWhile_suffix (l := l.reverse) (· == 0)
      have := List.reverse_prefix.2 this
      rwa [List.reverse_reverse] at this
    exact List.prefix_iff_eq_take.1 this
  have ho : Ne.Own B w p (digs (val l)) := by rw [h3]; exact h.take _
  exact ⟨⟨rfl, by omega, fun e => ⟨by have := (hp e).1; omega, (hp e).2⟩, ho.rd, ok_digs _, by omega⟩, ho⟩

set_option maxRecDepth 100000 in
set_option maxHeartbeats 4000000 in
theorem Div_ok (p q : Option Addr) (n m c d : Nat) (l k : List Nat) (w : World) (hl : Nw w p n c l) (hk : Nw w q m d k) (hv1 : decide (valid l) = true) (hv2 : decide (valid k) = true) (hm : 0 < m) (hx : val k ≤ val l) :
    Calls Try.prog 45 #[.agg #[.slice p n c], .agg #[.slice q m d]] w (DivGave (val l / val k) (val l % val k) w) := by
  have HL := Lib.hid hl
  have HK := Lib.hid hk
  have HV1 := Lib.hid hv1
  have HV2 := Lib.hid hv2
  have HX := Lib.hid hx
  have hm0 : (m : Int) = 0 ↔ False := by
    refine ⟨fun h => ?_, False.elim⟩
    omega
  have hm1 : m ≠ 0 := by omega
  have hmn : m ≤ n := by
    have := length_le_of_val hl.ok (of_decide_eq_true hv2).2 hx
    rwa [hl.len, hk.len] at this
  have hn : n ≤ 64 := by
    have := (of_decide_eq_true hv1).1
    rwa [hl.len] at this
  have HMN := Lib.hid hmn
  have HN := Lib.hid hn
  have G0 := Lib.hid (((((Gr.refl w).alloc (.cells #[.slice p n c] 24)).alloc (.cells #[.slice q m d] 24)).alloc (.cells #[.slice none 0 0] 24)).alloc (.cells #[.slice none 0 0] 24))
  clear hl hk hv1 hv2 hx hmn hn
  go_enter Try.func45, Try.ntmps45
  go_wp2_with fail
  refine (Valid_n p n c l _ (HL.out.grow G0.out)).mono ?_
  rintro e w1 ⟨rfl, hg⟩
  rw [HV1.out]
  have c1 := hg.cell (p := ⟨w.heap.size, 0, none⟩) (v := .slice p n c) (by simp [go_sem])
  have c2 := hg.cell (p := ⟨w.heap.size + 1, 0, none⟩) (v := .slice q m d) (by simp [go_sem])
  have c3 := hg.cell (p := ⟨w.heap.size + 1 + 1, 0, none⟩) (v := .slice none 0 0) (by simp [go_sem])
  have f3 := hg.frozen (p := ⟨w.heap.size + 1 + 1, 0, none⟩) (v := .slice none 0 0) (by simp [go_sem]) (by simp [go_sem])
  have c4 := hg.cell (p := ⟨w.heap.size + 1 + 1 + 1, 0, none⟩) (v := .slice none 0 0) (by simp [go_sem])
  have f4 := hg.frozen (p := ⟨w.heap.size + 1 + 1 + 1, 0, none⟩) (v := .slice none 0 0) (by simp [go_sem]) (by simp [go_sem])
  have GA := Lib.hid (G0.out.trans hg)
  clear hg
  go_wp2_with fail
  refine (Valid_n q m d k _ (HK.out.grow GA.out)).mono ?_
  rintro e w2 ⟨rfl, hg⟩
  rw [HV2.out]
  have e1 := hg.cell c1
  have e2 := hg.cell c2
  have e3 := hg.cell c3
  have e4 := hg.cell c4
  have g3 := hg.frozen c3 f3
  have g4 := hg.frozen c4 f4
  have GB := Lib.hid (GA.out.trans hg)
  clear hg c1 c2 c3 c4 f3 f4
  clear GA G0
  go_wp2_with fail
  refine (Compare_ok p q n m c d l k _ (HL.out.grow GB.out) (HK.out.grow GB.out) HV1.out HV2.out).mono ?_
  rintro e w3 ⟨rfl, hg⟩
  have k1 := hg.cell e1
  have k2 := hg.cell e2
  have k3 := hg.cell e3
  have k4 := hg.cell e4
  have j3 := hg.frozen e3 g3
  have j4 := hg.frozen e4 g4
  have GC := Lib.hid (GB.out.trans hg)
  clear hg e1 e2 e3 e4 g3 g4 GB
  have ho : 0 ≤ ord (val l) (val k) := by
    unfold ord
    have := HX.out
    rw [if_neg (by omega)]
    split <;> omega
  generalize ord (val l) (val k) = O at *
  go_wp2_with fail
  refine (divide_any p q n m c d l k _ (HL.out.grow GC.out) (HK.out.grow GC.out) hm HMN.out HN.out (of_decide_eq_true HV2.out).2).mono ?_
  rintro e w4 ⟨p1, p2, cap1, cap2, r1, r2, rfl, r1c, r2c, r1s, r2s, r1n, r2n, r1k, r2k, r1v, r2v, r1o, r2o, hg⟩
  have m3 := hg.cell k3
  have m4 := hg.cell k4
  have mf3 := hg.frozen k3 j3
  have mf4 := hg.frozen k4 j4
  have hz : w.heap.size + 1 + 1 + 1 < w3.heap.size := World.block_lt_of_cell? w3 _ k4
  have GD := Lib.hid (GC.out.trans hg)
  have HR1 := Lib.hid (trim_nr p1 r1 cap1 _ r1c r1s r1n r1k w4 r1o)
  have HR2 := Lib.hid (trim_nr p2 r2 cap2 _ r2c r2s r2n r2k w4 r2o)
  have HT1 := Lib.hid (fun (w' : World) (h : Ne.Own w3.heap.size w' p1 r1) => trim_own p1 r1 cap1 _ r1c r1s r1k w' h)
  have HT2 := Lib.hid (fun (w' : World) (h : Ne.Own w3.heap.size w' p2 r2) => trim_own p2 r2 cap2 _ r2c r2s r2k w' h)
  rw [r1v] at HR1 HT1
  rw [r2v] at HR2 HT2
  have R1V := Lib.hid r1v
  have R2V := Lib.hid r2v
  have HO1 := Lib.hid r1o
  have HO2 := Lib.hid r2o
  clear hg k1 k2 k3 k4 j3 j4 r1c r2c r1s r2s r1n r2n r1k r2k r1v r2v r1o r2o
  have hne1 : Hid (∀ (x : Nat), x < w3.heap.size → ∀ y : Addr, p1 = some y → y.block ≠ x ∨ val (digs (val l / val k)) = 0) := Lib.hid (by
    intro x hx y hy
    rcases HO1.out with h | ⟨b, off, h2, h3, h4⟩
    · exact .inr (by rw [val_digs, ← R1V.out, h]; rfl)
    · rw [h2] at hy; cases hy; exact .inl (by dsimp only; omega))
  have hne2 : Hid (∀ (x : Nat), x < w3.heap.size → ∀ y : Addr, p2 = some y → y.block ≠ x ∨ val (digs (val l % val k)) = 0) := Lib.hid (by
    intro x hx y hy
    rcases HO2.out with h | ⟨b, off, h2, h3, h4⟩
    · exact .inr (by rw [val_digs, ← R2V.out, h]; rfl)
    · rw [h2] at hy; cases hy; exact .inl (by dsimp only; omega))
  have hle := GC.out.le
  go_wp2_with fail
  refine (HT1.out _ HO1.out).mono ?_
  rintro e w5 ⟨rfl, rfl⟩
  go_wp2_with fail
  refine (HT2.out _ HO2.out).mono ?_
  rintro e w6 ⟨rfl, rfl⟩
  go_wp2
  exact bodyPost_ret (v := .tuple #[.agg #[.slice p1 (digs (val l / val k)).length cap1], .agg #[.slice p2 (digs (val l % val k)).length cap2], .int .i64 0]) (by simp [results, Try.results45, go_sem, m3, m4]) rfl
    ⟨_, _, _, _, _, _, rfl, ((HR1.out.set' _ _ (hne1.out _ (by dsimp only; omega)) (tight_digs _)).set' _ _ (hne1.out _ (by dsimp only; omega)) (tight_digs _)).mono hle, ((HR2.out.set' _ _ (hne2.out _ (by dsimp only; omega)) (tight_digs _)).set' _ _ (hne2.out _ (by dsimp only; omega)) (tight_digs _)).mono hle, (GD.out.setCell (by simp; omega) _).setCell (by simp; omega) _⟩
end Go.Proofs.Ytlciocebbckdcaa.Nk


/- The contracts of great and of what it calls. -/
namespace Go.Proofs.Ytlciocebbckdcaa.Nk
open Go.RowKit Go.Shelf Go.Proofs.Ytlciocebbckdcaa.Nm Go.Proofs.Ytlciocebbckdcaa.Ne Go.Proofs.Ytlciocebbckdcaa.Nf

/-- Numbers side by side. -/
def Nats (W : World) (b off : Nat) (xs : List (Option Addr × Nat × Nat)) : Prop :=
  ∀ i, i < xs.length → W.cell? ⟨b, off + i, none⟩ = some (.slice (xs[i]?.getD (none, 0, 0)).1 (xs[i]?.getD (none, 0, 0)).2.1 (xs[i]?.getD (none, 0, 0)).2.2)
/-- None of the first k is great. -/
def Small (xs : List (Option Addr × Nat × Nat)) (k : Nat) : Prop := ∀ i, i < k → ¬ 100 < (xs[i]?.getD (none, 0, 0)).2.1

/-- One of the numbers is great. -/
def Great (xs : List (Option Addr × Nat × Nat)) : Prop := ∃ j, j < xs.length ∧ 100 < (xs[j]?.getD (none, 0, 0)).2.1
end Go.Proofs.Ytlciocebbckdcaa.Nk


/- The contracts of the reference's Valid and word. -/
namespace Go.Proofs.Ytlciocebbckdcaa.Nk
open Go.RowKit Go.Shelf Go.Proofs.Ytlciocebbckdcaa.Nm Go.Proofs.Ytlciocebbckdcaa.Ne Go.Proofs.Ytlciocebbckdcaa.Nf

end Go.Proofs.Ytlciocebbckdcaa.Nk


/- The contracts of the reference's sized and Same. -/
namespace Go.Proofs.Ytlciocebbckdcaa.Nk
open Go.RowKit Go.Shelf Go.Proofs.Ytlciocebbckdcaa.Nm Go.Proofs.Ytlciocebbckdcaa.Ne Go.Proofs.Ytlciocebbckdcaa.Nf

end Go.Proofs.Ytlciocebbckdcaa.Nk


/- The contract of the laws' is. -/
namespace Go.Proofs.Ytlciocebbckdcaa.Nk
open Go.RowKit Go.Shelf Go.Proofs.Ytlciocebbckdcaa.Nm Go.Proofs.Ytlciocebbckdcaa.Ne Go.Proofs.Ytlciocebbckdcaa.Nf

end Go.Proofs.Ytlciocebbckdcaa.Nk


/- The contracts of package natural said of values: which number, and which error. -/
namespace Go.Proofs.Ytlciocebbckdcaa.Nv
open Go.RowKit Go.Shelf Go.Proofs.Ytlciocebbckdcaa.Nm Go.Proofs.Ytlciocebbckdcaa.Ne Go.Proofs.Ytlciocebbckdcaa.Nf Go.Proofs.Ytlciocebbckdcaa.Nk

theorem dv {x : Nat} (h : x < pw 64) : decide (valid (digs x)) = true := decide_eq_true ⟨(digs_length_le x 64).2 h, tight_digs x⟩
theorem dv_small {x : Nat} (h : x < 18446744073709551616) : x < pw 64 := by
  have := pw_mono (show 2 ≤ 64 by decide)
  have : pw 2 = 18446744073709551616 := rfl
  omega
/-- What a function that hands back a natural number and an error number has handed back: a number, 0 beside an error. -/
def Gives (z c : Nat) (w : World) (e : Ending) (w' : World) : Prop :=
  ∃ (p : Option Addr) (n cap : Nat), e = .returned (.tuple #[.agg #[.slice p n cap], .int .i64 (c : Int)]) ∧ Nr w.heap.size w' p n cap (digs z) ∧ Gr w w'
theorem gave_gives {z : Nat} {w : World} {e : Ending} {w' : World} (h : Gave z w e w') : Gives z 0 w e w' := by
  obtain ⟨p, n, cap, h1, h2, h3⟩ := h
  exact ⟨p, n, cap, h1, h2, h3⟩
theorem failed_gives {c : Nat} {w : World} {e : Ending} {w' : World} (h : Failed c w e w') : Gives 0 c w e w' := by
  obtain ⟨h1, h2⟩ := h
  exact ⟨none, 0, 0, h1, nr_nil _ _, h2⟩
def Gives2 (x y c : Nat) (w : World) (e : Ending) (w' : World) : Prop :=
  ∃ (p q : Option Addr) (n cap m cap2 : Nat), e = .returned (.tuple #[.agg #[.slice p n cap], .agg #[.slice q m cap2], .int .i64 (c : Int)]) ∧ Nr w.heap.size w' p n cap (digs x) ∧ Nr w.heap.size w' q m cap2 (digs y) ∧ Gr w w'
theorem gave_gives2 {x y : Nat} {w : World} {e : Ending} {w' : World} (h : DivGave x y w e w') : Gives2 x y 0 w e w' := by
  obtain ⟨p, q, n, cap, m, cap2, h1, h2, h3, h4⟩ := h
  exact ⟨p, q, n, cap, m, cap2, h1, h2, h3, h4⟩
theorem failed_gives2 {c : Nat} {w : World} {e : Ending} {w' : World} (h : DivFailed c w e w') : Gives2 0 0 c w e w' := by
  obtain ⟨h1, h2⟩ := h
  exact ⟨none, none, 0, 0, 0, 0, h1, nr_nil _ _, nr_nil _ _, h2⟩

/-- z with error c is what op has given for a result x that may be too great. -/
def Fits (x z c : Nat) : Prop := x < pw 64 ∧ z = x ∧ c = 0 ∨ pw 64 ≤ x ∧ z = 0 ∧ c = 9
theorem fits_ex (x : Nat) : ∃ z c, Fits x z c := by
  rcases Nat.lt_or_ge x (pw 64) with h | h
  · exact ⟨x, 0, .inl ⟨h, rfl, rfl⟩⟩
  · exact ⟨0, 9, .inr ⟨h, rfl, rfl⟩⟩
theorem Fits.lt {x z c : Nat} (h : Fits x z c) : z < pw 64 := by
  rcases h with ⟨h, rfl, _⟩ | ⟨_, rfl, _⟩
  · exact h
  · exact pw_pos _
theorem Fits.code {x z c : Nat} (h : Fits x z c) : c = 0 ∨ c = 9 := by
  rcases h with ⟨_, _, h⟩ | ⟨_, _, h⟩
  · exact .inl h
  · exact .inr h
theorem Fits.ok {x z : Nat} (h : Fits x z 0) : z = x ∧ x < pw 64 := by
  rcases h with ⟨h, h1, _⟩ | ⟨_, _, h⟩
  · exact ⟨h1, h⟩
  · cases h
theorem Fits.of {x z c : Nat} (h : Fits x z c) (hx : x < pw 64) : z = x ∧ c = 0 := by
  rcases h with ⟨_, h1, h2⟩ | ⟨h, _⟩
  · exact ⟨h1, h2⟩
  · omega
theorem Fits.big {x z c : Nat} (h : Fits x z c) (hc : c ≠ 0) : z = 0 ∧ c = 9 ∧ pw 64 ≤ x := by
  rcases h with ⟨_, _, h2⟩ | ⟨h, h1, h2⟩
  · exact absurd h2 hc
  · exact ⟨h1, h2, h⟩

section
variable {p q : Option Addr} {n m c d x y : Nat} {w : World}
theorem Add_v (z e : Nat) (hS : Fits (x + y) z e) (hl : Nw w p n c (digs x)) (hk : Nw w q m d (digs y)) (hx : x < pw 64) (hy : y < pw 64) :
    Calls Try.prog 110 #[.agg #[.slice p n c], .agg #[.slice q m d]] w (Gives z e w) := by
  rcases hS with ⟨h, rfl, rfl⟩ | ⟨h, rfl, rfl⟩
  · exact (Add_ok p q n m c d _ _ w hl hk (dv hx) (dv hy) (by rw [val_digs, val_digs]; exact h)).mono fun e w' hg => gave_gives (by rw [val_digs, val_digs] at hg; exact hg)
  · exact (Add_big p q n m c d _ _ w hl hk (dv hx) (dv hy) (by rw [val_digs, val_digs]; exact h)).mono fun e w' hg => failed_gives hg
theorem Mul_v (z e : Nat) (hS : Fits (x * y) z e) (hl : Nw w p n c (digs x)) (hk : Nw w q m d (digs y)) (hx : x < pw 64) (hy : y < pw 64) :
    Calls Try.prog 48 #[.agg #[.slice p n c], .agg #[.slice q m d]] w (Gives z e w) := by
  rcases hS with ⟨h, rfl, rfl⟩ | ⟨h, rfl, rfl⟩
  · exact (Mul_ok p q n m c d _ _ w hl hk (dv hx) (dv hy) (by rw [val_digs, val_digs]; exact h)).mono fun e w' hg => gave_gives (by rw [val_digs, val_digs] at hg; exact hg)
  · exact (Mul_big p q n m c d _ _ w hl hk (dv hx) (dv hy) (by rw [val_digs, val_digs]; exact h)).mono fun e w' hg => failed_gives hg
theorem Sub_v (h : y ≤ x) (hl : Nw w p n c (digs x)) (hk : Nw w q m d (digs y)) (hx : x < pw 64) (hy : y < pw 64) :
    Calls Try.prog 111 #[.agg #[.slice p n c], .agg #[.slice q m d]] w (Gives (x - y) 0 w) :=
  (Sub_ok p q n m c d _ _ w hl hk (dv hx) (dv hy) (by rw [val_digs, val_digs]; exact h)).mono fun e w' hg => gave_gives (by rw [val_digs, val_digs] at hg; exact hg)
theorem Sub_v_neg (h : x < y) (hl : Nw w p n c (digs x)) (hk : Nw w q m d (digs y)) (hx : x < pw 64) (hy : y < pw 64) :
    Calls Try.prog 111 #[.agg #[.slice p n c], .agg #[.slice q m d]] w (Gives 0 2 w) :=
  (Sub_neg p q n m c d _ _ w hl hk (dv hx) (dv hy) (by rw [val_digs, val_digs]; exact h)).mono fun e w' hg => failed_gives hg
theorem Of_v (h : x < 9223372036854775808) : Calls Try.prog 126 #[.int .i64 x] w (Gives x 0 w) :=
  (Of_ok x h w).mono fun _ _ => gave_gives
theorem Div_v (h : 0 < y) (hl : Nw w p n c (digs x)) (hk : Nw w q m d (digs y)) (hx : x < pw 64) (hy : y < pw 64) :
    Calls Try.prog 45 #[.agg #[.slice p n c], .agg #[.slice q m d]] w (Gives2 (x / y) (x % y) 0 w) := by
  rcases Nat.lt_or_ge x y with h1 | h1
  · rw [Nat.div_eq_of_lt h1, Nat.mod_eq_of_lt h1]
    exact (Div_less p q n m c d _ _ w hl hk (dv hx) (dv hy) (by rw [val_digs, val_digs]; exact h1)).mono fun e w' hg => gave_gives2 (by rw [val_digs] at hg; exact hg)
  · have hm : 0 < m := by
      rcases Nat.eq_zero_or_pos m with h0 | h0
      · exfalso
        have := hk.len
        rw [h0] at this
        have e := val_digs y
        rw [List.eq_nil_of_length_eq_zero this] at e
        have : val [] = 0 := rfl
        omega
      · exact h0
    exact (Div_ok p q n m c d _ _ w hl hk (dv hx) (dv hy) hm (by rw [val_digs, val_digs]; exact h1)).mono fun e w' hg => gave_gives2 (by rw [val_digs, val_digs] at hg; exact hg)
theorem Div_v_zero (hl : Nw w p n c (digs x)) (hk : Nw w q m d (digs 0)) (hx : x < pw 64) :
    Calls Try.prog 45 #[.agg #[.slice p n c], .agg #[.slice q m d]] w (Gives2 0 0 10 w) := by
  rw [digs_zero] at hk
  have hm : 0 = m := hk.len
  subst hm
  exact (Div_zero p q n c d _ w hl hk (dv hx)).mono fun _ _ => failed_gives2
theorem Compare_v (hl : Nw w p n c (digs x)) (hk : Nw w q m d (digs y)) (hx : x < pw 64) (hy : y < pw 64) :
    Calls Try.prog 93 #[.agg #[.slice p n c], .agg #[.slice q m d]] w fun e w' => e = .returned (.int .i64 (ord x y)) ∧ Gr w w' :=
  (Compare_ok p q n m c d _ _ w hl hk (dv hx) (dv hy)).mono fun e w' hg => by rw [val_digs, val_digs] at hg; exact hg
theorem Valid_v (hl : Nw w p n c (digs x)) (hx : x < pw 64) :
    Calls Try.prog 80 #[.agg #[.slice p n c]] w fun e w' => e = .returned (.bool true) ∧ Gr w w' :=
  (Valid_n p n c _ w hl).mono fun e w' hg => by rw [dv hx] at hg; exact hg
/-- The number of bits. -/
def nb (x : Nat) : Nat := nbits (digs x)
theorem nb_le (x k : Nat) : nb x ≤ k ↔ x < 2 ^ k := by
  have := nbits_le (ok_digs x) (tight_digs x) k
  rwa [val_digs] at this
theorem Bits_v (hl : Nw w p n c (digs x)) (hx : x < pw 64) :
    Calls Try.prog 82 #[.agg #[.slice p n c]] w fun e w' => e = .returned (.int .i64 (nb x)) ∧ Gr w w' :=
  Bits_n p n c _ w hl (dv hx)
theorem Bit_v (i : Nat) (hi : i < 9223372036854775808) (hl : Nw w p n c (digs x)) (hx : x < pw 64) :
    Calls Try.prog 83 #[.agg #[.slice p n c], .int .i64 i] w fun e w' => e = .returned (.bool (x.testBit i)) ∧ Gr w w' :=
  (Bit_ok p n c _ i w hl (dv hx) hi).mono fun e w' hg => by rw [val_digs] at hg; exact hg
theorem Int_v (h : x < 9223372036854775808) (hl : Nw w p n c (digs x)) :
    Calls Try.prog 127 #[.agg #[.slice p n c]] w fun e w' => e = .returned (.tuple #[.int .i64 x, .int .i64 0]) ∧ Gr w w' := by
  have hb : nbits (digs x) ≤ 63 := (nb_le x 63).2 (by omega)
  exact (Int_ok p n c _ w hl (dv (dv_small (by omega))) (by omega)).mono fun e w' hg => by rw [val_digs] at hg; exact hg
end

/-- A valid argument is a value. -/
theorem nw_value {w : World} {p : Option Addr} {n c : Nat} {l : List Nat} (h : Nw w p n c l) (hv : decide (valid l) = true) : ∃ x, x < pw 64 ∧ l = digs x := by
  have hv' : valid l := of_decide_eq_true hv
  refine ⟨val l, Nat.lt_of_lt_of_le (val_lt h.ok) (pw_mono hv'.1), (digs_val h.ok hv'.2).symm⟩

/-- A slice that has been written out. -/
theorem nw_lit {w : World} {b n : Nat} {l : List Nat} (en : l.length = n) (hok : ok l) (hs : n ≤ 1048576) (hc : ∀ i, i < n → w.cell? ⟨b, i, none⟩ = some (.int .u32 ((l[i]?.getD 0 : Nat) : Int))) : Nw w (some ⟨b, 0, none⟩) n n l :=
  ⟨en, Nat.le_refl _, (fun e => by cases e), .inr ⟨b, 0, rfl, fun i hi => by rw [Nat.zero_add]; exact hc i (by omega)⟩, hok, hs⟩
end Go.Proofs.Ytlciocebbckdcaa.Nv


/- The contract of the reference's trim: a number of its own. -/
namespace Go.Proofs.Ytlciocebbckdcaa.Nr2
open Go.RowKit Go.Shelf Go.Proofs.Ytlciocebbckdcaa.Nm Go.Proofs.Ytlciocebbckdcaa.Ne Go.Proofs.Ytlciocebbckdcaa.Nf Go.Proofs.Ytlciocebbckdcaa.Nk Go.Proofs.Ytlciocebbckdcaa.Nv

/-- A number has been handed back. -/
def Num (x : Nat) (w : World) (e : Ending) (w' : World) : Prop :=
  ∃ (p : Option Addr) (n cap : Nat), e = .returned (.agg #[.slice p n cap]) ∧ Nr w.heap.size w' p n cap (digs x) ∧ Gr w w'

/-- What trim has, when the loop has ended at k. -/
theorem trim_done {l : List Nat} (hok : ok l) {k : Nat} (hk : k ≤ l.length) (h0 : ∀ i, k ≤ i → l[i]?.getD 0 = 0) (h1 : 0 < k → l[k - 1]?.getD 0 ≠ 0) : l.take k = digs (val l) := by
  rw [← trim_of_take l k hk h0 h1, trim_eq_digs hok]

theorem take_src {w w' : World} {a : Addr} {l : List Nat} {k : Nat} (h : Rd w (some a) l) (g : Gr w w') (hk : k ≤ l.length) :
    ∀ (j : Nat) (u : Value), (cw (l.take k))[j]? = some u → w'.cell? (a.add j) = some u := by
  intro j u hu
  have hj : j < (l.take k).length := by
    have := (List.getElem?_eq_some_iff.1 hu).1
    rwa [cw_length] at this
  have hj2 : j < k := by simp at hj; omega
  obtain ⟨b, off, ha, hc⟩ := (g.rd h).at (by omega)
  cases ha
  rw [addr_add, hc j (by omega), ← hu, cw_get hj, List.getElem?_take, if_pos hj2]

/-- A number of the call's own lies in none of the elder blocks. -/
theorem own_ne {B : Nat} {w : World} {p : Option Addr} {n c : Nat} {l : List Nat} (h : Nr (B + 1) w p n c l) {x : Addr} (e : p = some x) : x.block ≠ B ∨ val l = 0 := by
  rcases h.own with h0 | ⟨b, off, e2, hb, _⟩
  · right
    rw [h0]
    rfl
  · left
    rw [e] at e2
    cases e2
    show b ≠ B
    omega
end Go.Proofs.Ytlciocebbckdcaa.Nr2


/- The contracts of natmod's helpers. -/
namespace Go.Proofs.Ytlciocebbckdcaa.Mo
open Go.RowKit Go.Shelf Go.Proofs.Ytlciocebbckdcaa.Nm Go.Proofs.Ytlciocebbckdcaa.Ne Go.Proofs.Ytlciocebbckdcaa.Nf Go.Proofs.Ytlciocebbckdcaa.Nk Go.Proofs.Ytlciocebbckdcaa.Nv Go.Proofs.Ytlciocebbckdcaa.Nr2

set_option maxHeartbeats 2000000 in
theorem mplus_v {p q : Option Addr} {n m c d x y : Nat} {w : World} (hl : Nw w p n c (digs x)) (hk : Nw w q m d (digs y)) (hx : x < pw 64) (hy : y < pw 64) (hs : x + y < pw 64) :
    Calls Try.prog 72 #[.agg #[.slice p n c], .agg #[.slice q m d]] w (Num (x + y) w) := by
  have HS := Lib.hid (fun W (hW : Gr w W) => Add_v (w := W) (x + y) 0 (.inl ⟨hs, rfl, rfl⟩) (hl.grow hW) (hk.grow hW) hx hy)
  have G0 := Lib.hid ((((Gr.refl w).alloc (.cells #[.slice p n c] 24)).alloc (.cells #[.slice q m d] 24)).alloc (.cells #[.slice none 0 0] 24))
  obtain ⟨z, hz⟩ : ∃ z, x + y = z := ⟨_, rfl⟩
  rw [hz] at HS ⊢
  clear hl hk hx hy hs hz
  go_enter Try.func72, Try.ntmps72
  go_wp2_with fail
  refine (HS.out _ G0.out).mono ?_
  rintro e w1 ⟨p1, n1, c1, rfl, hr, hg⟩
  have k1 := hg.cell (p := ⟨w.heap.size + 1 + 1, 0, none⟩) (v := .slice none 0 0) (by simp [go_sem])
  have f1 := hg.frozen (p := ⟨w.heap.size + 1 + 1, 0, none⟩) (v := .slice none 0 0) (by simp [go_sem]) (by simp [go_sem])
  have al := ((Gr.refl w1).alloc (.cells #[.slice p1 n1 c1] 24))
  have k2 := al.cell k1
  have f2 := al.frozen k1 f1
  have HR := Lib.hid ((hr.mono (show w.heap.size + 1 + 1 + 1 ≤ _ by simp)).grow al)
  have GG := Lib.hid ((G0.out.trans hg).trans al)
  clear hr hg al
  go_wp2
  refine bodyPost_ret (v := .agg #[.slice p1 n1 c1]) (by simp [results, Try.results72, go_sem, k2]) rfl ⟨_, _, _, rfl, ?_, GG.out.setCell (by simp; omega) _⟩
  exact (HR.out.set' _ _ (fun x e => own_ne HR.out e) (tight_digs _)).mono (by omega)

set_option maxHeartbeats 2000000 in
theorem mminus_v {p q : Option Addr} {n m c d x y : Nat} {w : World} (hl : Nw w p n c (digs x)) (hk : Nw w q m d (digs y)) (hx : x < pw 64) (hy : y < pw 64) (hs : y ≤ x) :
    Calls Try.prog 74 #[.agg #[.slice p n c], .agg #[.slice q m d]] w (Num (x - y) w) := by
  have HS := Lib.hid (fun W (hW : Gr w W) => Sub_v (w := W) hs (hl.grow hW) (hk.grow hW) hx hy)
  have G0 := Lib.hid ((((Gr.refl w).alloc (.cells #[.slice p n c] 24)).alloc (.cells #[.slice q m d] 24)).alloc (.cells #[.slice none 0 0] 24))
  obtain ⟨z, hz⟩ : ∃ z, x - y = z := ⟨_, rfl⟩
  rw [hz] at HS ⊢
  clear hl hk hx hy hs hz
  go_enter Try.func74, Try.ntmps74
  go_wp2_with fail
  refine (HS.out _ G0.out).mono ?_
  rintro e w1 ⟨p1, n1, c1, rfl, hr, hg⟩
  have k1 := hg.cell (p := ⟨w.heap.size + 1 + 1, 0, none⟩) (v := .slice none 0 0) (by simp [go_sem])
  have f1 := hg.frozen (p := ⟨w.heap.size + 1 + 1, 0, none⟩) (v := .slice none 0 0) (by simp [go_sem]) (by simp [go_sem])
  have al := ((Gr.refl w1).alloc (.cells #[.slice p1 n1 c1] 24))
  have k2 := al.cell k1
  have f2 := al.frozen k1 f1
  have HR := Lib.hid ((hr.mono (show w.heap.size + 1 + 1 + 1 ≤ _ by simp)).grow al)
  have GG := Lib.hid ((G0.out.trans hg).trans al)
  clear hr hg al
  go_wp2
  refine bodyPost_ret (v := .agg #[.slice p1 n1 c1]) (by simp [results, Try.results74, go_sem, k2]) rfl ⟨_, _, _, rfl, ?_, GG.out.setCell (by simp; omega) _⟩
  exact (HR.out.set' _ _ (fun x e => own_ne HR.out e) (tight_digs _)).mono (by omega)

set_option maxHeartbeats 2000000 in
theorem mtimes_v {p q : Option Addr} {n m c d x y : Nat} {w : World} (hl : Nw w p n c (digs x)) (hk : Nw w q m d (digs y)) (hx : x < pw 64) (hy : y < pw 64) (hs : x * y < pw 64) :
    Calls Try.prog 79 #[.agg #[.slice p n c], .agg #[.slice q m d]] w (Num (x * y) w) := by
  have HS := Lib.hid (fun W (hW : Gr w W) => Mul_v (w := W) (x * y) 0 (.inl ⟨hs, rfl, rfl⟩) (hl.grow hW) (hk.grow hW) hx hy)
  have G0 := Lib.hid ((((Gr.refl w).alloc (.cells #[.slice p n c] 24)).alloc (.cells #[.slice q m d] 24)).alloc (.cells #[.slice none 0 0] 24))
  obtain ⟨z, hz⟩ : ∃ z, x * y = z := ⟨_, rfl⟩
  rw [hz] at HS ⊢
  clear hl hk hx hy hs hz
  go_enter Try.func79, Try.ntmps79
  go_wp2_with fail
  refine (HS.out _ G0.out).mono ?_
  rintro e w1 ⟨p1, n1, c1, rfl, hr, hg⟩
  have k1 := hg.cell (p := ⟨w.heap.size + 1 + 1, 0, none⟩) (v := .slice none 0 0) (by simp [go_sem])
  have f1 := hg.frozen (p := ⟨w.heap.size + 1 + 1, 0, none⟩) (v := .slice none 0 0) (by simp [go_sem]) (by simp [go_sem])
  have al := ((Gr.refl w1).alloc (.cells #[.slice p1 n1 c1] 24))
  have k2 := al.cell k1
  have f2 := al.frozen k1 f1
  have HR := Lib.hid ((hr.mono (show w.heap.size + 1 + 1 + 1 ≤ _ by simp)).grow al)
  have GG := Lib.hid ((G0.out.trans hg).trans al)
  clear hr hg al
  go_wp2
  refine bodyPost_ret (v := .agg #[.slice p1 n1 c1]) (by simp [results, Try.results79, go_sem, k2]) rfl ⟨_, _, _, rfl, ?_, GG.out.setCell (by simp; omega) _⟩
  exact (HR.out.set' _ _ (fun x e => own_ne HR.out e) (tight_digs _)).mono (by omega)

set_option maxHeartbeats 2000000 in
theorem mrest_v {p q : Option Addr} {n m c d x y : Nat} {w : World} (hl : Nw w p n c (digs x)) (hk : Nw w q m d (digs y)) (hx : x < pw 64) (hy : y < pw 64) (hs : 0 < y) :
    Calls Try.prog 71 #[.agg #[.slice p n c], .agg #[.slice q m d]] w (Num (x % y) w) := by
  have HS := Lib.hid (fun W (hW : Gr w W) => Div_v (w := W) hs (hl.grow hW) (hk.grow hW) hx hy)
  have G0 := Lib.hid ((((Gr.refl w).alloc (.cells #[.slice p n c] 24)).alloc (.cells #[.slice q m d] 24)).alloc (.cells #[.slice none 0 0] 24))
  obtain ⟨z, hz⟩ : ∃ z, x % y = z := ⟨_, rfl⟩
  rw [hz] at HS ⊢
  clear hl hk hx hy hs hz
  go_enter Try.func71, Try.ntmps71
  go_wp2_with fail
  refine (HS.out _ G0.out).mono ?_
  rintro e w1 ⟨p0, p1, n0, c0, n1, c1, rfl, hr0, hr, hg⟩
  have k1 := hg.cell (p := ⟨w.heap.size + 1 + 1, 0, none⟩) (v := .slice none 0 0) (by simp [go_sem])
  have f1 := hg.frozen (p := ⟨w.heap.size + 1 + 1, 0, none⟩) (v := .slice none 0 0) (by simp [go_sem]) (by simp [go_sem])
  have al := (((Gr.refl w1).alloc (.cells #[.slice p0 n0 c0] 24)).alloc (.cells #[.slice p1 n1 c1] 24))
  have k2 := al.cell k1
  have f2 := al.frozen k1 f1
  have HR := Lib.hid ((hr.mono (show w.heap.size + 1 + 1 + 1 ≤ _ by simp)).grow al)
  have GG := Lib.hid ((G0.out.trans hg).trans al)
  clear hr hg al hr0
  go_wp2
  refine bodyPost_ret (v := .agg #[.slice p1 n1 c1]) (by simp [results, Try.results71, go_sem, k2]) rfl ⟨_, _, _, rfl, ?_, GG.out.setCell (by simp; omega) _⟩
  exact (HR.out.set' _ _ (fun x e => own_ne HR.out e) (tight_digs _)).mono (by omega)

theorem ord_neg (x y : Nat) : decide (ord x y < 0) = decide (x < y) := by
  rcases Nat.lt_trichotomy x y with h | h | h
  · rw [ord_lt h]; simp [h]
  · subst h; rw [ord_eq]; simp
  · rw [ord_gt h, decide_eq_false (show ¬ x < y by omega)]; rfl
set_option maxHeartbeats 2000000 in
theorem mless_v {p q : Option Addr} {n m c d x y : Nat} {w : World} (hl : Nw w p n c (digs x)) (hk : Nw w q m d (digs y)) (hx : x < pw 64) (hy : y < pw 64) :
    Calls Try.prog 73 #[.agg #[.slice p n c], .agg #[.slice q m d]] w fun e w' => e = .returned (.bool (decide (x < y))) ∧ Gr w w' := by
  have HS := Lib.hid (fun W (hW : Gr w W) => Compare_v (w := W) (hl.grow hW) (hk.grow hW) hx hy)
  have G0 := Lib.hid (((Gr.refl w).alloc (.cells #[.slice p n c] 24)).alloc (.cells #[.slice q m d] 24))
  have HO := Lib.hid (ord_neg x y)
  clear hl hk hx hy
  go_enter Try.func73, Try.ntmps73
  go_wp2_with fail
  refine (HS.out _ G0.out).mono ?_
  rintro e w1 ⟨rfl, hg⟩
  have GG := Lib.hid (G0.out.trans hg)
  clear hg
  go_wp2
  go_ret
  exact ⟨by rw [HO.out]; rfl, GG.out⟩
/-- A modulus, told by its words. -/
def im (l : List Nat) : Bool := decide (valid l ∧ 0 < val l ∧ val l < pw 32)
theorem nb_pos (x : Nat) : 0 < nb x ↔ 0 < x := by
  have := nb_le x 0
  omega
theorem nb_1024 (x : Nat) : nb x ≤ 1024 ↔ x < pw 32 := by
  have h := nb_le x (32 * 32)
  rw [pw_eq]
  exact h
set_option maxHeartbeats 2000000 in
theorem isModulus_any {p : Option Addr} {n c : Nat} {l : List Nat} {w : World} (hl : Nw w p n c l) :
    Calls Try.prog 90 #[.agg #[.slice p n c]] w fun e w' => e = .returned (.bool (im l)) ∧ Gr w w' := by
  have hb : ∃ b : Nat, (∀ W, Gr w W → Calls Try.prog 82 #[.agg #[.slice p n c]] W fun e w' => e = .returned (.int .i64 (b : Int)) ∧ Gr W w') ∧ im l = decide (0 < b ∧ b ≤ 1024) := by
    cases hv : decide (valid l) with
    | false => exact ⟨0, fun W hW => Bits_bad_n p n c l W (hl.grow hW) hv, by unfold im; rw [decide_eq_false (fun h => of_decide_eq_false hv h.1)]; rfl⟩
    | true =>
      obtain ⟨x, hx, rfl⟩ := nw_value hl hv
      refine ⟨nb x, fun W hW => Bits_v (hl.grow hW) hx, ?_⟩
      unfold im
      rw [val_digs]
      exact decide_eq_decide.2 ⟨fun h => ⟨(nb_pos x).2 h.2.1, (nb_1024 x).2 h.2.2⟩, fun h => ⟨of_decide_eq_true hv, (nb_pos x).1 h.1, (nb_1024 x).1 h.2⟩⟩
  obtain ⟨b, HB, hi⟩ := hb
  have HS := Lib.hid HB
  rw [hi]
  have G0 := Lib.hid ((Gr.refl w).alloc (.cells #[.slice p n c] 24))
  clear hl hi HB
  rcases Nat.eq_zero_or_pos b with h | h
  · subst h
    go_enter Try.func90, Try.ntmps90
    go_wp2_with fail
    refine (HS.out _ G0.out).mono ?_
    rintro e w1 ⟨rfl, hg⟩
    have GG := Lib.hid (G0.out.trans hg)
    clear hg
    go_wp2
    go_ret
    exact ⟨rfl, GG.out⟩
  · have h0 : (0 : Int) < (b : Int) := by omega
    have HD : Hid (decide (0 < b ∧ b ≤ 1024) = decide ((b : Int) ≤ 1024)) := Lib.hid (decide_eq_decide.2 ⟨fun h => by omega, fun h' => by omega⟩)
    clear h
    go_enter Try.func90, Try.ntmps90
    go_wp2_with fail
    refine (HS.out _ G0.out).mono ?_
    rintro e w1 ⟨rfl, hg⟩
    have GG := Lib.hid (G0.out.trans hg)
    clear hg
    go_wp2
    go_ret
    exact ⟨by rw [HD.out]; rfl, GG.out⟩
set_option maxHeartbeats 2000000 in
theorem isZero_v {p : Option Addr} {n c x : Nat} {w : World} (hl : Nw w p n c (digs x)) :
    Calls Try.prog 86 #[.agg #[.slice p n c]] w fun e w' => e = .returned (.bool (decide (x = 0))) ∧ Gr w w' := by
  have hn : decide (x = 0) = decide ((n : Int) = 0) := by
    have := hl.len
    rcases Nat.eq_zero_or_pos x with h | h
    · subst h; rw [digs_zero] at this; subst this; rfl
    · rw [digs_pos (by omega)] at this
      rw [decide_eq_false (by omega), decide_eq_false]
      intro h0
      have : n = 0 := by omega
      subst this
      cases ‹_ = 0›
  have HN := Lib.hid hn
  have G0 := Lib.hid ((Gr.refl w).alloc (.cells #[.slice p n c] 24))
  clear hl hn
  go_enter Try.func86, Try.ntmps86
  go_wp2
  go_ret
  exact ⟨by rw [HN.out]; first | rfl | (rw [Bool.eq_iff_iff]; simp), G0.out⟩
set_option maxHeartbeats 2000000 in
theorem one_v (w : World) : Calls Try.prog 81 #[] w (Num 1 w) := by
  have h1 : digs 1 = [1] := by rw [digs_pos (by decide), show 1 / 4294967296 = 0 from rfl, digs_zero]
  have HN : Hid (Nr w.heap.size ((w.alloc (.cells #[.slice (some ⟨w.heap.size + 1, 0, none⟩) 1 1] 24)).alloc (.cells #[.int .u32 1] 50)) (some ⟨w.heap.size + 1, 0, none⟩) 1 1 (digs 1)) := Lib.hid (by
    rw [h1]
    refine ⟨nw_lit rfl (by simp only [ok_cons]; exact ⟨by decide, ok_nil⟩) (by decide) ?_, .inr ⟨w.heap.size + 1, 0, rfl, by omega, ?_⟩⟩
    · intro i hi
      match i, hi with
      | 0, _ => simp [go_sem]
    · intro i hi
      match i, hi with
      | 0, _ => simp [go_sem])
  have G0 := Lib.hid (((Gr.refl w).alloc (.cells #[.slice (some ⟨w.heap.size + 1, 0, none⟩) 1 1] 24)).alloc (.cells #[.int .u32 1] 50))
  clear h1
  go_enter Try.func81, Try.ntmps81
  go_wp2
  refine bodyPost_ret (v := .agg #[.slice (some ⟨w.heap.size + 1, 0, none⟩) 1 1]) (by simp [results, Try.results81, go_sem]) rfl ⟨_, _, _, rfl, HN.out, G0.out⟩
end Go.Proofs.Ytlciocebbckdcaa.Mo


/- The contract of natmod's check. -/
namespace Go.Proofs.Ytlciocebbckdcaa.Mo
open Go.RowKit Go.Shelf Go.Proofs.Ytlciocebbckdcaa.Nm Go.Proofs.Ytlciocebbckdcaa.Ne Go.Proofs.Ytlciocebbckdcaa.Nf Go.Proofs.Ytlciocebbckdcaa.Nk Go.Proofs.Ytlciocebbckdcaa.Nv Go.Proofs.Ytlciocebbckdcaa.Nr2

set_option maxHeartbeats 4000000 in
theorem check_arg {pa : Option Addr} {na ca : Nat} {pp : Option Addr} {np cp : Nat} {pb : Option Addr} {nb cb : Nat} {pq : Option Addr} {nq cq : Nat} {la lp lb lq : List Nat} {w : World} (ha : Nw w pa na ca la) (hp : Nw w pp np cp lp) (hb : Nw w pb nb cb lb) (hq : Nw w pq nq cq lq) (hv : (decide (valid la) && (decide (valid lb) && (im lp && im lq))) = false) :
    Calls Try.prog 70 #[.agg #[.slice pa na ca], .agg #[.slice pp np cp], .agg #[.slice pb nb cb], .agg #[.slice pq nq cq]] w fun e w' => e = .returned (.int .i64 1) ∧ Gr w w' := by
  have Ha := Lib.hid ha
  have Hp := Lib.hid hp
  have Hb := Lib.hid hb
  have Hq := Lib.hid hq
  clear ha hp hb hq
  have CA : Hid (decide (valid la) = false) ∨ (Hid (decide (valid la) = true) ∧ (Hid (decide (valid lb) = false) ∨ (Hid (decide (valid lb) = true) ∧ (Hid (im lp = false) ∨ (Hid (im lp = true) ∧ Hid (im lq = false)))))) := by
    cases h1 : decide (valid la) with
    | false => exact .inl rfl
    | true =>
      cases h2 : decide (valid lb) with
      | false => exact .inr ⟨rfl, .inl rfl⟩
      | true =>
        cases h3 : im lp with
        | false => exact .inr ⟨rfl, .inr ⟨rfl, .inl rfl⟩⟩
        | true => exact .inr ⟨rfl, .inr ⟨rfl, .inr ⟨rfl, by rw [h1, h2, h3] at hv; exact hv⟩⟩⟩
  clear hv
  rcases CA with F1 | ⟨F1, F2 | ⟨F2, F3 | ⟨F3, F4⟩⟩⟩

  · have G0 := Lib.hid (((((Gr.refl w).alloc (.cells #[.slice pa na ca] 24)).alloc (.cells #[.slice pp np cp] 24)).alloc (.cells #[.slice pb nb cb] 24)).alloc (.cells #[.slice pq nq cq] 24))
    have k_a : ((((w.alloc (.cells #[.slice pa na ca] 24)).alloc (.cells #[.slice pp np cp] 24)).alloc (.cells #[.slice pb nb cb] 24)).alloc (.cells #[.slice pq nq cq] 24)).cell? ⟨w.heap.size, 0, none⟩ = some (.slice pa na ca) := by simp [go_sem]
    have k_p : ((((w.alloc (.cells #[.slice pa na ca] 24)).alloc (.cells #[.slice pp np cp] 24)).alloc (.cells #[.slice pb nb cb] 24)).alloc (.cells #[.slice pq nq cq] 24)).cell? ⟨w.heap.size + 1, 0, none⟩ = some (.slice pp np cp) := by simp [go_sem]
    have k_b : ((((w.alloc (.cells #[.slice pa na ca] 24)).alloc (.cells #[.slice pp np cp] 24)).alloc (.cells #[.slice pb nb cb] 24)).alloc (.cells #[.slice pq nq cq] 24)).cell? ⟨w.heap.size + 1 + 1, 0, none⟩ = some (.slice pb nb cb) := by simp [go_sem]
    have k_q : ((((w.alloc (.cells #[.slice pa na ca] 24)).alloc (.cells #[.slice pp np cp] 24)).alloc (.cells #[.slice pb nb cb] 24)).alloc (.cells #[.slice pq nq cq] 24)).cell? ⟨w.heap.size + 1 + 1 + 1, 0, none⟩ = some (.slice pq nq cq) := by simp [go_sem]
    go_enter Try.func70, Try.ntmps70
    go_wp2_with fail
    refine (Valid_n pa na ca _ _ (Ha.out.grow G0.out)).mono ?_
    rintro e w1 ⟨rfl, hg⟩
    rw [F1.out]
    replace k_a := hg.cell k_a
    replace k_p := hg.cell k_p
    replace k_b := hg.cell k_b
    replace k_q := hg.cell k_q
    have G1 := Lib.hid (G0.out.trans hg)
    clear hg
    go_wp2
    go_ret
    exact ⟨rfl, G1.out⟩
  · have G0 := Lib.hid (((((Gr.refl w).alloc (.cells #[.slice pa na ca] 24)).alloc (.cells #[.slice pp np cp] 24)).alloc (.cells #[.slice pb nb cb] 24)).alloc (.cells #[.slice pq nq cq] 24))
    have k_a : ((((w.alloc (.cells #[.slice pa na ca] 24)).alloc (.cells #[.slice pp np cp] 24)).alloc (.cells #[.slice pb nb cb] 24)).alloc (.cells #[.slice pq nq cq] 24)).cell? ⟨w.heap.size, 0, none⟩ = some (.slice pa na ca) := by simp [go_sem]
    have k_p : ((((w.alloc (.cells #[.slice pa na ca] 24)).alloc (.cells #[.slice pp np cp] 24)).alloc (.cells #[.slice pb nb cb] 24)).alloc (.cells #[.slice pq nq cq] 24)).cell? ⟨w.heap.size + 1, 0, none⟩ = some (.slice pp np cp) := by simp [go_sem]
    have k_b : ((((w.alloc (.cells #[.slice pa na ca] 24)).alloc (.cells #[.slice pp np cp] 24)).alloc (.cells #[.slice pb nb cb] 24)).alloc (.cells #[.slice pq nq cq] 24)).cell? ⟨w.heap.size + 1 + 1, 0, none⟩ = some (.slice pb nb cb) := by simp [go_sem]
    have k_q : ((((w.alloc (.cells #[.slice pa na ca] 24)).alloc (.cells #[.slice pp np cp] 24)).alloc (.cells #[.slice pb nb cb] 24)).alloc (.cells #[.slice pq nq cq] 24)).cell? ⟨w.heap.size + 1 + 1 + 1, 0, none⟩ = some (.slice pq nq cq) := by simp [go_sem]
    go_enter Try.func70, Try.ntmps70
    go_wp2_with fail
    refine (Valid_n pa na ca _ _ (Ha.out.grow G0.out)).mono ?_
    rintro e w1 ⟨rfl, hg⟩
    rw [F1.out]
    replace k_a := hg.cell k_a
    replace k_p := hg.cell k_p
    replace k_b := hg.cell k_b
    replace k_q := hg.cell k_q
    have G1 := Lib.hid (G0.out.trans hg)
    clear hg
    go_wp2_with fail
    refine (Valid_n pb nb cb _ _ (Hb.out.grow G1.out)).mono ?_
    rintro e w2 ⟨rfl, hg⟩
    rw [F2.out]
    replace k_a := hg.cell k_a
    replace k_p := hg.cell k_p
    replace k_b := hg.cell k_b
    replace k_q := hg.cell k_q
    have G2 := Lib.hid (G1.out.trans hg)
    clear hg
    go_wp2
    go_ret
    exact ⟨rfl, G2.out⟩
  · have G0 := Lib.hid (((((Gr.refl w).alloc (.cells #[.slice pa na ca] 24)).alloc (.cells #[.slice pp np cp] 24)).alloc (.cells #[.slice pb nb cb] 24)).alloc (.cells #[.slice pq nq cq] 24))
    have k_a : ((((w.alloc (.cells #[.slice pa na ca] 24)).alloc (.cells #[.slice pp np cp] 24)).alloc (.cells #[.slice pb nb cb] 24)).alloc (.cells #[.slice pq nq cq] 24)).cell? ⟨w.heap.size, 0, none⟩ = some (.slice pa na ca) := by simp [go_sem]
    have k_p : ((((w.alloc (.cells #[.slice pa na ca] 24)).alloc (.cells #[.slice pp np cp] 24)).alloc (.cells #[.slice pb nb cb] 24)).alloc (.cells #[.slice pq nq cq] 24)).cell? ⟨w.heap.size + 1, 0, none⟩ = some (.slice pp np cp) := by simp [go_sem]
    have k_b : ((((w.alloc (.cells #[.slice pa na ca] 24)).alloc (.cells #[.slice pp np cp] 24)).alloc (.cells #[.slice pb nb cb] 24)).alloc (.cells #[.slice pq nq cq] 24)).cell? ⟨w.heap.size + 1 + 1, 0, none⟩ = some (.slice pb nb cb) := by simp [go_sem]
    have k_q : ((((w.alloc (.cells #[.slice pa na ca] 24)).alloc (.cells #[.slice pp np cp] 24)).alloc (.cells #[.slice pb nb cb] 24)).alloc (.cells #[.slice pq nq cq] 24)).cell? ⟨w.heap.size + 1 + 1 + 1, 0, none⟩ = some (.slice pq nq cq) := by simp [go_sem]
    go_enter Try.func70, Try.ntmps70
    go_wp2_with fail
    refine (Valid_n pa na ca _ _ (Ha.out.grow G0.out)).mono ?_
    rintro e w1 ⟨rfl, hg⟩
    rw [F1.out]
    replace k_a := hg.cell k_a
    replace k_p := hg.cell k_p
    replace k_b := hg.cell k_b
    replace k_q := hg.cell k_q
    have G1 := Lib.hid (G0.out.trans hg)
    clear hg
    go_wp2_with fail
    refine (Valid_n pb nb cb _ _ (Hb.out.grow G1.out)).mono ?_
    rintro e w2 ⟨rfl, hg⟩
    rw [F2.out]
    replace k_a := hg.cell k_a
    replace k_p := hg.cell k_p
    replace k_b := hg.cell k_b
    replace k_q := hg.cell k_q
    have G2 := Lib.hid (G1.out.trans hg)
    clear hg
    go_wp2_with fail
    refine (isModulus_any (Hp.out.grow G2.out)).mono ?_
    rintro e w3 ⟨rfl, hg⟩
    rw [F3.out]
    replace k_a := hg.cell k_a
    replace k_p := hg.cell k_p
    replace k_b := hg.cell k_b
    replace k_q := hg.cell k_q
    have G3 := Lib.hid (G2.out.trans hg)
    clear hg
    go_wp2
    go_ret
    exact ⟨rfl, G3.out⟩
  · have G0 := Lib.hid (((((Gr.refl w).alloc (.cells #[.slice pa na ca] 24)).alloc (.cells #[.slice pp np cp] 24)).alloc (.cells #[.slice pb nb cb] 24)).alloc (.cells #[.slice pq nq cq] 24))
    have k_a : ((((w.alloc (.cells #[.slice pa na ca] 24)).alloc (.cells #[.slice pp np cp] 24)).alloc (.cells #[.slice pb nb cb] 24)).alloc (.cells #[.slice pq nq cq] 24)).cell? ⟨w.heap.size, 0, none⟩ = some (.slice pa na ca) := by simp [go_sem]
    have k_p : ((((w.alloc (.cells #[.slice pa na ca] 24)).alloc (.cells #[.slice pp np cp] 24)).alloc (.cells #[.slice pb nb cb] 24)).alloc (.cells #[.slice pq nq cq] 24)).cell? ⟨w.heap.size + 1, 0, none⟩ = some (.slice pp np cp) := by simp [go_sem]
    have k_b : ((((w.alloc (.cells #[.slice pa na ca] 24)).alloc (.cells #[.slice pp np cp] 24)).alloc (.cells #[.slice pb nb cb] 24)).alloc (.cells #[.slice pq nq cq] 24)).cell? ⟨w.heap.size + 1 + 1, 0, none⟩ = some (.slice pb nb cb) := by simp [go_sem]
    have k_q : ((((w.alloc (.cells #[.slice pa na ca] 24)).alloc (.cells #[.slice pp np cp] 24)).alloc (.cells #[.slice pb nb cb] 24)).alloc (.cells #[.slice pq nq cq] 24)).cell? ⟨w.heap.size + 1 + 1 + 1, 0, none⟩ = some (.slice pq nq cq) := by simp [go_sem]
    go_enter Try.func70, Try.ntmps70
    go_wp2_with fail
    refine (Valid_n pa na ca _ _ (Ha.out.grow G0.out)).mono ?_
    rintro e w1 ⟨rfl, hg⟩
    rw [F1.out]
    replace k_a := hg.cell k_a
    replace k_p := hg.cell k_p
    replace k_b := hg.cell k_b
    replace k_q := hg.cell k_q
    have G1 := Lib.hid (G0.out.trans hg)
    clear hg
    go_wp2_with fail
    refine (Valid_n pb nb cb _ _ (Hb.out.grow G1.out)).mono ?_
    rintro e w2 ⟨rfl, hg⟩
    rw [F2.out]
    replace k_a := hg.cell k_a
    replace k_p := hg.cell k_p
    replace k_b := hg.cell k_b
    replace k_q := hg.cell k_q
    have G2 := Lib.hid (G1.out.trans hg)
    clear hg
    go_wp2_with fail
    refine (isModulus_any (Hp.out.grow G2.out)).mono ?_
    rintro e w3 ⟨rfl, hg⟩
    rw [F3.out]
    replace k_a := hg.cell k_a
    replace k_p := hg.cell k_p
    replace k_b := hg.cell k_b
    replace k_q := hg.cell k_q
    have G3 := Lib.hid (G2.out.trans hg)
    clear hg
    go_wp2_with fail
    refine (isModulus_any (Hq.out.grow G3.out)).mono ?_
    rintro e w4 ⟨rfl, hg⟩
    rw [F4.out]
    replace k_a := hg.cell k_a
    replace k_p := hg.cell k_p
    replace k_b := hg.cell k_b
    replace k_q := hg.cell k_q
    have G4 := Lib.hid (G3.out.trans hg)
    clear hg
    go_wp2
    go_ret
    exact ⟨rfl, G4.out⟩
theorem im_value {l : List Nat} {w : World} {p : Option Addr} {n c : Nat} (h : Nw w p n c l) (hi : im l = true) : ∃ x, 0 < x ∧ x < pw 32 ∧ l = digs x := by
  have h' := of_decide_eq_true hi
  obtain ⟨x, hx, rfl⟩ := nw_value h (decide_eq_true h'.1)
  rw [val_digs] at h'
  exact ⟨x, h'.2.1, h'.2.2, rfl⟩
theorem lt64 {x : Nat} (h : x < pw 32) : x < pw 64 := Nat.lt_of_lt_of_le h (pw_mono (by decide))
theorem im_digs {x : Nat} (h0 : 0 < x) (h : x < pw 32) : im (digs x) = true := decide_eq_true ⟨of_decide_eq_true (dv (lt64 h)), by rw [val_digs]; exact ⟨h0, h⟩⟩
set_option maxHeartbeats 4000000 in
theorem check_v {pa : Option Addr} {na ca : Nat} {pp : Option Addr} {np cp : Nat} {pb : Option Addr} {nb cb : Nat} {pq : Option Addr} {nq cq : Nat} {a p b q : Nat} {w : World} (ha : Nw w pa na ca (digs a)) (hp : Nw w pp np cp (digs p)) (hb : Nw w pb nb cb (digs b)) (hq : Nw w pq nq cq (digs q)) (va : a < pw 64) (vb : b < pw 64) (vp : 0 < p) (vp2 : p < pw 32) (vq : 0 < q) (vq2 : q < pw 32) :
    Calls Try.prog 70 #[.agg #[.slice pa na ca], .agg #[.slice pp np cp], .agg #[.slice pb nb cb], .agg #[.slice pq nq cq]] w fun e w' => e = .returned (.int .i64 (if a < p ∧ b < q then 0 else 2)) ∧ Gr w w' := by
  have Ha := Lib.hid ha
  have Hp := Lib.hid hp
  have Hb := Lib.hid hb
  have Hq := Lib.hid hq
  have F1 := Lib.hid (dv va)
  have F2 := Lib.hid (dv vb)
  have F3 := Lib.hid (im_digs vp vp2)
  have F4 := Lib.hid (im_digs vq vq2)
  have L1 := Lib.hid (fun W (hW : Gr w W) => mless_v (w := W) (ha.grow hW) (hp.grow hW) va (lt64 vp2))
  have L2 := Lib.hid (fun W (hW : Gr w W) => mless_v (w := W) (hb.grow hW) (hq.grow hW) vb (lt64 vq2))
  clear ha hp hb hq va vb vp vp2 vq vq2
  by_cases h1 : a < p
  · rw [decide_eq_true h1] at L1
    by_cases h2 : b < q
    · rw [decide_eq_true h2] at L2
      rw [if_pos ⟨h1, h2⟩]
      clear h1 h2
      have G0 := Lib.hid (((((Gr.refl w).alloc (.cells #[.slice pa na ca] 24)).alloc (.cells #[.slice pp np cp] 24)).alloc (.cells #[.slice pb nb cb] 24)).alloc (.cells #[.slice pq nq cq] 24))
      have k_a : ((((w.alloc (.cells #[.slice pa na ca] 24)).alloc (.cells #[.slice pp np cp] 24)).alloc (.cells #[.slice pb nb cb] 24)).alloc (.cells #[.slice pq nq cq] 24)).cell? ⟨w.heap.size, 0, none⟩ = some (.slice pa na ca) := by simp [go_sem]
      have k_p : ((((w.alloc (.cells #[.slice pa na ca] 24)).alloc (.cells #[.slice pp np cp] 24)).alloc (.cells #[.slice pb nb cb] 24)).alloc (.cells #[.slice pq nq cq] 24)).cell? ⟨w.heap.size + 1, 0, none⟩ = some (.slice pp np cp) := by simp [go_sem]
      have k_b : ((((w.alloc (.cells #[.slice pa na ca] 24)).alloc (.cells #[.slice pp np cp] 24)).alloc (.cells #[.slice pb nb cb] 24)).alloc (.cells #[.slice pq nq cq] 24)).cell? ⟨w.heap.size + 1 + 1, 0, none⟩ = some (.slice pb nb cb) := by simp [go_sem]
      have k_q : ((((w.alloc (.cells #[.slice pa na ca] 24)).alloc (.cells #[.slice pp np cp] 24)).alloc (.cells #[.slice pb nb cb] 24)).alloc (.cells #[.slice pq nq cq] 24)).cell? ⟨w.heap.size + 1 + 1 + 1, 0, none⟩ = some (.slice pq nq cq) := by simp [go_sem]
      go_enter Try.func70, Try.ntmps70
      go_wp2_with fail
      refine (Valid_n pa na ca _ _ (Ha.out.grow G0.out)).mono ?_
      rintro e w1 ⟨rfl, hg⟩
      rw [F1.out]
      replace k_a := hg.cell k_a
      replace k_p := hg.cell k_p
      replace k_b := hg.cell k_b
      replace k_q := hg.cell k_q
      have G1 := Lib.hid (G0.out.trans hg)
      clear hg
      go_wp2_with fail
      refine (Valid_n pb nb cb _ _ (Hb.out.grow G1.out)).mono ?_
      rintro e w2 ⟨rfl, hg⟩
      rw [F2.out]
      replace k_a := hg.cell k_a
      replace k_p := hg.cell k_p
      replace k_b := hg.cell k_b
      replace k_q := hg.cell k_q
      have G2 := Lib.hid (G1.out.trans hg)
      clear hg
      go_wp2_with fail
      refine (isModulus_any (Hp.out.grow G2.out)).mono ?_
      rintro e w3 ⟨rfl, hg⟩
      rw [F3.out]
      replace k_a := hg.cell k_a
      replace k_p := hg.cell k_p
      replace k_b := hg.cell k_b
      replace k_q := hg.cell k_q
      have G3 := Lib.hid (G2.out.trans hg)
      clear hg
      go_wp2_with fail
      refine (isModulus_any (Hq.out.grow G3.out)).mono ?_
      rintro e w4 ⟨rfl, hg⟩
      rw [F4.out]
      replace k_a := hg.cell k_a
      replace k_p := hg.cell k_p
      replace k_b := hg.cell k_b
      replace k_q := hg.cell k_q
      have G4 := Lib.hid (G3.out.trans hg)
      clear hg
      go_wp2_with fail
      refine (L1.out _ G4.out).mono ?_
      rintro e w5 ⟨rfl, hg⟩
      replace k_a := hg.cell k_a
      replace k_p := hg.cell k_p
      replace k_b := hg.cell k_b
      replace k_q := hg.cell k_q
      have G5 := Lib.hid (G4.out.trans hg)
      clear hg
      go_wp2_with fail
      refine (L2.out _ G5.out).mono ?_
      rintro e w6 ⟨rfl, hg⟩
      replace k_a := hg.cell k_a
      replace k_p := hg.cell k_p
      replace k_b := hg.cell k_b
      replace k_q := hg.cell k_q
      have G6 := Lib.hid (G5.out.trans hg)
      clear hg
      go_wp2
      go_ret
      exact ⟨rfl, G6.out⟩
    · rw [decide_eq_false h2] at L2
      rw [if_neg (fun h => h2 h.2)]
      clear h1 h2
      have G0 := Lib.hid (((((Gr.refl w).alloc (.cells #[.slice pa na ca] 24)).alloc (.cells #[.slice pp np cp] 24)).alloc (.cells #[.slice pb nb cb] 24)).alloc (.cells #[.slice pq nq cq] 24))
      have k_a : ((((w.alloc (.cells #[.slice pa na ca] 24)).alloc (.cells #[.slice pp np cp] 24)).alloc (.cells #[.slice pb nb cb] 24)).alloc (.cells #[.slice pq nq cq] 24)).cell? ⟨w.heap.size, 0, none⟩ = some (.slice pa na ca) := by simp [go_sem]
      have k_p : ((((w.alloc (.cells #[.slice pa na ca] 24)).alloc (.cells #[.slice pp np cp] 24)).alloc (.cells #[.slice pb nb cb] 24)).alloc (.cells #[.slice pq nq cq] 24)).cell? ⟨w.heap.size + 1, 0, none⟩ = some (.slice pp np cp) := by simp [go_sem]
      have k_b : ((((w.alloc (.cells #[.slice pa na ca] 24)).alloc (.cells #[.slice pp np cp] 24)).alloc (.cells #[.slice pb nb cb] 24)).alloc (.cells #[.slice pq nq cq] 24)).cell? ⟨w.heap.size + 1 + 1, 0, none⟩ = some (.slice pb nb cb) := by simp [go_sem]
      have k_q : ((((w.alloc (.cells #[.slice pa na ca] 24)).alloc (.cells #[.slice pp np cp] 24)).alloc (.cells #[.slice pb nb cb] 24)).alloc (.cells #[.slice pq nq cq] 24)).cell? ⟨w.heap.size + 1 + 1 + 1, 0, none⟩ = some (.slice pq nq cq) := by simp [go_sem]
      go_enter Try.func70, Try.ntmps70
      go_wp2_with fail
      refine (Valid_n pa na ca _ _ (Ha.out.grow G0.out)).mono ?_
      rintro e w1 ⟨rfl, hg⟩
      rw [F1.out]
      replace k_a := hg.cell k_a
      replace k_p := hg.cell k_p
      replace k_b := hg.cell k_b
      replace k_q := hg.cell k_q
      have G1 := Lib.hid (G0.out.trans hg)
      clear hg
      go_wp2_with fail
      refine (Valid_n pb nb cb _ _ (Hb.out.grow G1.out)).mono ?_
      rintro e w2 ⟨rfl, hg⟩
      rw [F2.out]
      replace k_a := hg.cell k_a
      replace k_p := hg.cell k_p
      replace k_b := hg.cell k_b
      replace k_q := hg.cell k_q
      have G2 := Lib.hid (G1.out.trans hg)
      clear hg
      go_wp2_with fail
      refine (isModulus_any (Hp.out.grow G2.out)).mono ?_
      rintro e w3 ⟨rfl, hg⟩
      rw [F3.out]
      replace k_a := hg.cell k_a
      replace k_p := hg.cell k_p
      replace k_b := hg.cell k_b
      replace k_q := hg.cell k_q
      have G3 := Lib.hid (G2.out.trans hg)
      clear hg
      go_wp2_with fail
      refine (isModulus_any (Hq.out.grow G3.out)).mono ?_
      rintro e w4 ⟨rfl, hg⟩
      rw [F4.out]
      replace k_a := hg.cell k_a
      replace k_p := hg.cell k_p
      replace k_b := hg.cell k_b
      replace k_q := hg.cell k_q
      have G4 := Lib.hid (G3.out.trans hg)
      clear hg
      go_wp2_with fail
      refine (L1.out _ G4.out).mono ?_
      rintro e w5 ⟨rfl, hg⟩
      replace k_a := hg.cell k_a
      replace k_p := hg.cell k_p
      replace k_b := hg.cell k_b
      replace k_q := hg.cell k_q
      have G5 := Lib.hid (G4.out.trans hg)
      clear hg
      go_wp2_with fail
      refine (L2.out _ G5.out).mono ?_
      rintro e w6 ⟨rfl, hg⟩
      replace k_a := hg.cell k_a
      replace k_p := hg.cell k_p
      replace k_b := hg.cell k_b
      replace k_q := hg.cell k_q
      have G6 := Lib.hid (G5.out.trans hg)
      clear hg
      go_wp2
      go_ret
      exact ⟨rfl, G6.out⟩
  · rw [decide_eq_false h1] at L1
    rw [if_neg (fun h => h1 h.1)]
    clear h1 L2
    have G0 := Lib.hid (((((Gr.refl w).alloc (.cells #[.slice pa na ca] 24)).alloc (.cells #[.slice pp np cp] 24)).alloc (.cells #[.slice pb nb cb] 24)).alloc (.cells #[.slice pq nq cq] 24))
    have k_a : ((((w.alloc (.cells #[.slice pa na ca] 24)).alloc (.cells #[.slice pp np cp] 24)).alloc (.cells #[.slice pb nb cb] 24)).alloc (.cells #[.slice pq nq cq] 24)).cell? ⟨w.heap.size, 0, none⟩ = some (.slice pa na ca) := by simp [go_sem]
    have k_p : ((((w.alloc (.cells #[.slice pa na ca] 24)).alloc (.cells #[.slice pp np cp] 24)).alloc (.cells #[.slice pb nb cb] 24)).alloc (.cells #[.slice pq nq cq] 24)).cell? ⟨w.heap.size + 1, 0, none⟩ = some (.slice pp np cp) := by simp [go_sem]
    have k_b : ((((w.alloc (.cells #[.slice pa na ca] 24)).alloc (.cells #[.slice pp np cp] 24)).alloc (.cells #[.slice pb nb cb] 24)).alloc (.cells #[.slice pq nq cq] 24)).cell? ⟨w.heap.size + 1 + 1, 0, none⟩ = some (.slice pb nb cb) := by simp [go_sem]
    have k_q : ((((w.alloc (.cells #[.slice pa na ca] 24)).alloc (.cells #[.slice pp np cp] 24)).alloc (.cells #[.slice pb nb cb] 24)).alloc (.cells #[.slice pq nq cq] 24)).cell? ⟨w.heap.size + 1 + 1 + 1, 0, none⟩ = some (.slice pq nq cq) := by simp [go_sem]
    go_enter Try.func70, Try.ntmps70
    go_wp2_with fail
    refine (Valid_n pa na ca _ _ (Ha.out.grow G0.out)).mono ?_
    rintro e w1 ⟨rfl, hg⟩
    rw [F1.out]
    replace k_a := hg.cell k_a
    replace k_p := hg.cell k_p
    replace k_b := hg.cell k_b
    replace k_q := hg.cell k_q
    have G1 := Lib.hid (G0.out.trans hg)
    clear hg
    go_wp2_with fail
    refine (Valid_n pb nb cb _ _ (Hb.out.grow G1.out)).mono ?_
    rintro e w2 ⟨rfl, hg⟩
    rw [F2.out]
    replace k_a := hg.cell k_a
    replace k_p := hg.cell k_p
    replace k_b := hg.cell k_b
    replace k_q := hg.cell k_q
    have G2 := Lib.hid (G1.out.trans hg)
    clear hg
    go_wp2_with fail
    refine (isModulus_any (Hp.out.grow G2.out)).mono ?_
    rintro e w3 ⟨rfl, hg⟩
    rw [F3.out]
    replace k_a := hg.cell k_a
    replace k_p := hg.cell k_p
    replace k_b := hg.cell k_b
    replace k_q := hg.cell k_q
    have G3 := Lib.hid (G2.out.trans hg)
    clear hg
    go_wp2_with fail
    refine (isModulus_any (Hq.out.grow G3.out)).mono ?_
    rintro e w4 ⟨rfl, hg⟩
    rw [F4.out]
    replace k_a := hg.cell k_a
    replace k_p := hg.cell k_p
    replace k_b := hg.cell k_b
    replace k_q := hg.cell k_q
    have G4 := Lib.hid (G3.out.trans hg)
    clear hg
    go_wp2_with fail
    refine (L1.out _ G4.out).mono ?_
    rintro e w5 ⟨rfl, hg⟩
    replace k_a := hg.cell k_a
    replace k_p := hg.cell k_p
    replace k_b := hg.cell k_b
    replace k_q := hg.cell k_q
    have G5 := Lib.hid (G4.out.trans hg)
    clear hg
    go_wp2
    go_ret
    exact ⟨rfl, G5.out⟩
end Go.Proofs.Ytlciocebbckdcaa.Mo


/- The contracts of natmod's Add, Sub and Mul. -/
namespace Go.Proofs.Ytlciocebbckdcaa.Mo
open Go.RowKit Go.Shelf Go.Proofs.Ytlciocebbckdcaa.Nm Go.Proofs.Ytlciocebbckdcaa.Ne Go.Proofs.Ytlciocebbckdcaa.Nf Go.Proofs.Ytlciocebbckdcaa.Nk Go.Proofs.Ytlciocebbckdcaa.Nv Go.Proofs.Ytlciocebbckdcaa.Nr2

/-- What check answers for a, p, b and q, at every world from w on. -/
def Chk (w : World) (a p b q : Value) (k : Int) : Prop := ∀ W, Gr w W → Calls Try.prog 70 #[a, p, b, q] W fun e w' => e = .returned (.int .i64 k) ∧ Gr W w'
theorem sum_lt {x y m : Nat} (hx : x < m) (hy : y < m) (hm : m < pw 32) : x + y < pw 64 := by
  have h1 : pw 64 = pw 32 * pw 32 := by rw [← pw_add]
  have h2 : 2 ≤ pw 32 := Nat.le_trans (by decide) (pw_mono (show 1 ≤ 32 by decide))
  have := Nat.mul_le_mul_right (pw 32) h2
  omega
theorem sum_lt2 {x m : Nat} (hx : x < m) (hm : m < pw 32) : x + m < pw 64 := by
  have h1 : pw 64 = pw 32 * pw 32 := by rw [← pw_add]
  have h2 : 2 ≤ pw 32 := Nat.le_trans (by decide) (pw_mono (show 1 ≤ 32 by decide))
  have := Nat.mul_le_mul_right (pw 32) h2
  omega
theorem mul_lt {x y m : Nat} (hx : x < m) (hy : y < m) (hm : m < pw 32) : x * y < pw 64 := by
  have h1 : pw 64 = pw 32 * pw 32 := by rw [← pw_add]
  rw [h1]
  exact Nat.mul_lt_mul'' (by omega) (by omega)

set_option maxHeartbeats 4000000 in
theorem mAdd_err {pa : Option Addr} {na ca : Nat} {pb : Option Addr} {nb cb : Nat} {pm : Option Addr} {nm cm : Nat} {k : Nat} {w : World} (hk : k = 1 ∨ k = 2) (hC : Chk w (.agg #[.slice pa na ca]) (.agg #[.slice pm nm cm]) (.agg #[.slice pb nb cb]) (.agg #[.slice pm nm cm]) (k : Int)) :
    Calls Try.prog 20 #[.agg #[.slice pa na ca], .agg #[.slice pb nb cb], .agg #[.slice pm nm cm]] w (Gives 0 k w) := by
  have HC := Lib.hid hC
  clear hC
  rcases hk with rfl | rfl

  · have G0 := Lib.hid (((((Gr.refl w).alloc (.cells #[.slice pa na ca] 24)).alloc (.cells #[.slice pb nb cb] 24)).alloc (.cells #[.slice pm nm cm] 24)).alloc (.cells #[.slice none 0 0] 24))
    have k_a : ((((w.alloc (.cells #[.slice pa na ca] 24)).alloc (.cells #[.slice pb nb cb] 24)).alloc (.cells #[.slice pm nm cm] 24)).alloc (.cells #[.slice none 0 0] 24)).cell? ⟨w.heap.size, 0, none⟩ = some (.slice pa na ca) := by simp [go_sem]
    have k_b : ((((w.alloc (.cells #[.slice pa na ca] 24)).alloc (.cells #[.slice pb nb cb] 24)).alloc (.cells #[.slice pm nm cm] 24)).alloc (.cells #[.slice none 0 0] 24)).cell? ⟨w.heap.size + 1, 0, none⟩ = some (.slice pb nb cb) := by simp [go_sem]
    have k_m : ((((w.alloc (.cells #[.slice pa na ca] 24)).alloc (.cells #[.slice pb nb cb] 24)).alloc (.cells #[.slice pm nm cm] 24)).alloc (.cells #[.slice none 0 0] 24)).cell? ⟨w.heap.size + 1 + 1, 0, none⟩ = some (.slice pm nm cm) := by simp [go_sem]
    have k_r : ((((w.alloc (.cells #[.slice pa na ca] 24)).alloc (.cells #[.slice pb nb cb] 24)).alloc (.cells #[.slice pm nm cm] 24)).alloc (.cells #[.slice none 0 0] 24)).cell? ⟨w.heap.size + 1 + 1 + 1, 0, none⟩ = some (.slice none 0 0) := by simp [go_sem]
    have f_r : ((((w.alloc (.cells #[.slice pa na ca] 24)).alloc (.cells #[.slice pb nb cb] 24)).alloc (.cells #[.slice pm nm cm] 24)).alloc (.cells #[.slice none 0 0] 24)).frozen? ⟨w.heap.size + 1 + 1 + 1, 0, none⟩ = false := by simp [go_sem]
    go_enter Try.func20, Try.ntmps20
    go_wp2_with fail
    refine (HC.out _ G0.out).mono ?_
    rintro e w1 ⟨rfl, hg⟩
    have f_r := hg.frozen k_r f_r
    replace k_a := hg.cell k_a
    replace k_b := hg.cell k_b
    replace k_m := hg.cell k_m
    replace k_r := hg.cell k_r
    have G1 := Lib.hid (G0.out.trans hg)
    clear hg
    go_wp2
    exact bodyPost_ret (v := .tuple #[.agg #[.slice none 0 0], .int .i64 1]) (by simp [results, Try.results20, go_sem, k_r]) rfl ⟨none, 0, 0, rfl, nr_nil _ _, G1.out.setCell (by simp; omega) _⟩
  · have G0 := Lib.hid (((((Gr.refl w).alloc (.cells #[.slice pa na ca] 24)).alloc (.cells #[.slice pb nb cb] 24)).alloc (.cells #[.slice pm nm cm] 24)).alloc (.cells #[.slice none 0 0] 24))
    have k_a : ((((w.alloc (.cells #[.slice pa na ca] 24)).alloc (.cells #[.slice pb nb cb] 24)).alloc (.cells #[.slice pm nm cm] 24)).alloc (.cells #[.slice none 0 0] 24)).cell? ⟨w.heap.size, 0, none⟩ = some (.slice pa na ca) := by simp [go_sem]
    have k_b : ((((w.alloc (.cells #[.slice pa na ca] 24)).alloc (.cells #[.slice pb nb cb] 24)).alloc (.cells #[.slice pm nm cm] 24)).alloc (.cells #[.slice none 0 0] 24)).cell? ⟨w.heap.size + 1, 0, none⟩ = some (.slice pb nb cb) := by simp [go_sem]
    have k_m : ((((w.alloc (.cells #[.slice pa na ca] 24)).alloc (.cells #[.slice pb nb cb] 24)).alloc (.cells #[.slice pm nm cm] 24)).alloc (.cells #[.slice none 0 0] 24)).cell? ⟨w.heap.size + 1 + 1, 0, none⟩ = some (.slice pm nm cm) := by simp [go_sem]
    have k_r : ((((w.alloc (.cells #[.slice pa na ca] 24)).alloc (.cells #[.slice pb nb cb] 24)).alloc (.cells #[.slice pm nm cm] 24)).alloc (.cells #[.slice none 0 0] 24)).cell? ⟨w.heap.size + 1 + 1 + 1, 0, none⟩ = some (.slice none 0 0) := by simp [go_sem]
    have f_r : ((((w.alloc (.cells #[.slice pa na ca] 24)).alloc (.cells #[.slice pb nb cb] 24)).alloc (.cells #[.slice pm nm cm] 24)).alloc (.cells #[.slice none 0 0] 24)).frozen? ⟨w.heap.size + 1 + 1 + 1, 0, none⟩ = false := by simp [go_sem]
    go_enter Try.func20, Try.ntmps20
    go_wp2_with fail
    refine (HC.out _ G0.out).mono ?_
    rintro e w1 ⟨rfl, hg⟩
    have f_r := hg.frozen k_r f_r
    replace k_a := hg.cell k_a
    replace k_b := hg.cell k_b
    replace k_m := hg.cell k_m
    replace k_r := hg.cell k_r
    have G1 := Lib.hid (G0.out.trans hg)
    clear hg
    go_wp2
    exact bodyPost_ret (v := .tuple #[.agg #[.slice none 0 0], .int .i64 2]) (by simp [results, Try.results20, go_sem, k_r]) rfl ⟨none, 0, 0, rfl, nr_nil _ _, G1.out.setCell (by simp; omega) _⟩
set_option maxHeartbeats 4000000 in
theorem mSub_err {pa : Option Addr} {na ca : Nat} {pb : Option Addr} {nb cb : Nat} {pm : Option Addr} {nm cm : Nat} {k : Nat} {w : World} (hk : k = 1 ∨ k = 2) (hC : Chk w (.agg #[.slice pa na ca]) (.agg #[.slice pm nm cm]) (.agg #[.slice pb nb cb]) (.agg #[.slice pm nm cm]) (k : Int)) :
    Calls Try.prog 21 #[.agg #[.slice pa na ca], .agg #[.slice pb nb cb], .agg #[.slice pm nm cm]] w (Gives 0 k w) := by
  have HC := Lib.hid hC
  clear hC
  rcases hk with rfl | rfl

  · have G0 := Lib.hid (((((Gr.refl w).alloc (.cells #[.slice pa na ca] 24)).alloc (.cells #[.slice pb nb cb] 24)).alloc (.cells #[.slice pm nm cm] 24)).alloc (.cells #[.slice none 0 0] 24))
    have k_a : ((((w.alloc (.cells #[.slice pa na ca] 24)).alloc (.cells #[.slice pb nb cb] 24)).alloc (.cells #[.slice pm nm cm] 24)).alloc (.cells #[.slice none 0 0] 24)).cell? ⟨w.heap.size, 0, none⟩ = some (.slice pa na ca) := by simp [go_sem]
    have k_b : ((((w.alloc (.cells #[.slice pa na ca] 24)).alloc (.cells #[.slice pb nb cb] 24)).alloc (.cells #[.slice pm nm cm] 24)).alloc (.cells #[.slice none 0 0] 24)).cell? ⟨w.heap.size + 1, 0, none⟩ = some (.slice pb nb cb) := by simp [go_sem]
    have k_m : ((((w.alloc (.cells #[.slice pa na ca] 24)).alloc (.cells #[.slice pb nb cb] 24)).alloc (.cells #[.slice pm nm cm] 24)).alloc (.cells #[.slice none 0 0] 24)).cell? ⟨w.heap.size + 1 + 1, 0, none⟩ = some (.slice pm nm cm) := by simp [go_sem]
    have k_r : ((((w.alloc (.cells #[.slice pa na ca] 24)).alloc (.cells #[.slice pb nb cb] 24)).alloc (.cells #[.slice pm nm cm] 24)).alloc (.cells #[.slice none 0 0] 24)).cell? ⟨w.heap.size + 1 + 1 + 1, 0, none⟩ = some (.slice none 0 0) := by simp [go_sem]
    have f_r : ((((w.alloc (.cells #[.slice pa na ca] 24)).alloc (.cells #[.slice pb nb cb] 24)).alloc (.cells #[.slice pm nm cm] 24)).alloc (.cells #[.slice none 0 0] 24)).frozen? ⟨w.heap.size + 1 + 1 + 1, 0, none⟩ = false := by simp [go_sem]
    have f_a : ((((w.alloc (.cells #[.slice pa na ca] 24)).alloc (.cells #[.slice pb nb cb] 24)).alloc (.cells #[.slice pm nm cm] 24)).alloc (.cells #[.slice none 0 0] 24)).frozen? ⟨w.heap.size, 0, none⟩ = false := by simp [go_sem]
    go_enter Try.func21, Try.ntmps21
    go_wp2_with fail
    refine (HC.out _ G0.out).mono ?_
    rintro e w1 ⟨rfl, hg⟩
    have f_r := hg.frozen k_r f_r
    have f_a := hg.frozen k_a f_a
    replace k_a := hg.cell k_a
    replace k_b := hg.cell k_b
    replace k_m := hg.cell k_m
    replace k_r := hg.cell k_r
    have G1 := Lib.hid (G0.out.trans hg)
    clear hg
    go_wp2
    exact bodyPost_ret (v := .tuple #[.agg #[.slice none 0 0], .int .i64 1]) (by simp [results, Try.results21, go_sem, k_r]) rfl ⟨none, 0, 0, rfl, nr_nil _ _, G1.out.setCell (by simp; omega) _⟩
  · have G0 := Lib.hid (((((Gr.refl w).alloc (.cells #[.slice pa na ca] 24)).alloc (.cells #[.slice pb nb cb] 24)).alloc (.cells #[.slice pm nm cm] 24)).alloc (.cells #[.slice none 0 0] 24))
    have k_a : ((((w.alloc (.cells #[.slice pa na ca] 24)).alloc (.cells #[.slice pb nb cb] 24)).alloc (.cells #[.slice pm nm cm] 24)).alloc (.cells #[.slice none 0 0] 24)).cell? ⟨w.heap.size, 0, none⟩ = some (.slice pa na ca) := by simp [go_sem]
    have k_b : ((((w.alloc (.cells #[.slice pa na ca] 24)).alloc (.cells #[.slice pb nb cb] 24)).alloc (.cells #[.slice pm nm cm] 24)).alloc (.cells #[.slice none 0 0] 24)).cell? ⟨w.heap.size + 1, 0, none⟩ = some (.slice pb nb cb) := by simp [go_sem]
    have k_m : ((((w.alloc (.cells #[.slice pa na ca] 24)).alloc (.cells #[.slice pb nb cb] 24)).alloc (.cells #[.slice pm nm cm] 24)).alloc (.cells #[.slice none 0 0] 24)).cell? ⟨w.heap.size + 1 + 1, 0, none⟩ = some (.slice pm nm cm) := by simp [go_sem]
    have k_r : ((((w.alloc (.cells #[.slice pa na ca] 24)).alloc (.cells #[.slice pb nb cb] 24)).alloc (.cells #[.slice pm nm cm] 24)).alloc (.cells #[.slice none 0 0] 24)).cell? ⟨w.heap.size + 1 + 1 + 1, 0, none⟩ = some (.slice none 0 0) := by simp [go_sem]
    have f_r : ((((w.alloc (.cells #[.slice pa na ca] 24)).alloc (.cells #[.slice pb nb cb] 24)).alloc (.cells #[.slice pm nm cm] 24)).alloc (.cells #[.slice none 0 0] 24)).frozen? ⟨w.heap.size + 1 + 1 + 1, 0, none⟩ = false := by simp [go_sem]
    have f_a : ((((w.alloc (.cells #[.slice pa na ca] 24)).alloc (.cells #[.slice pb nb cb] 24)).alloc (.cells #[.slice pm nm cm] 24)).alloc (.cells #[.slice none 0 0] 24)).frozen? ⟨w.heap.size, 0, none⟩ = false := by simp [go_sem]
    go_enter Try.func21, Try.ntmps21
    go_wp2_with fail
    refine (HC.out _ G0.out).mono ?_
    rintro e w1 ⟨rfl, hg⟩
    have f_r := hg.frozen k_r f_r
    have f_a := hg.frozen k_a f_a
    replace k_a := hg.cell k_a
    replace k_b := hg.cell k_b
    replace k_m := hg.cell k_m
    replace k_r := hg.cell k_r
    have G1 := Lib.hid (G0.out.trans hg)
    clear hg
    go_wp2
    exact bodyPost_ret (v := .tuple #[.agg #[.slice none 0 0], .int .i64 2]) (by simp [results, Try.results21, go_sem, k_r]) rfl ⟨none, 0, 0, rfl, nr_nil _ _, G1.out.setCell (by simp; omega) _⟩
set_option maxHeartbeats 4000000 in
theorem mMul_err {pa : Option Addr} {na ca : Nat} {pb : Option Addr} {nb cb : Nat} {pm : Option Addr} {nm cm : Nat} {k : Nat} {w : World} (hk : k = 1 ∨ k = 2) (hC : Chk w (.agg #[.slice pa na ca]) (.agg #[.slice pm nm cm]) (.agg #[.slice pb nb cb]) (.agg #[.slice pm nm cm]) (k : Int)) :
    Calls Try.prog 26 #[.agg #[.slice pa na ca], .agg #[.slice pb nb cb], .agg #[.slice pm nm cm]] w (Gives 0 k w) := by
  have HC := Lib.hid hC
  clear hC
  rcases hk with rfl | rfl

  · have G0 := Lib.hid (((((Gr.refl w).alloc (.cells #[.slice pa na ca] 24)).alloc (.cells #[.slice pb nb cb] 24)).alloc (.cells #[.slice pm nm cm] 24)).alloc (.cells #[.slice none 0 0] 24))
    have k_a : ((((w.alloc (.cells #[.slice pa na ca] 24)).alloc (.cells #[.slice pb nb cb] 24)).alloc (.cells #[.slice pm nm cm] 24)).alloc (.cells #[.slice none 0 0] 24)).cell? ⟨w.heap.size, 0, none⟩ = some (.slice pa na ca) := by simp [go_sem]
    have k_b : ((((w.alloc (.cells #[.slice pa na ca] 24)).alloc (.cells #[.slice pb nb cb] 24)).alloc (.cells #[.slice pm nm cm] 24)).alloc (.cells #[.slice none 0 0] 24)).cell? ⟨w.heap.size + 1, 0, none⟩ = some (.slice pb nb cb) := by simp [go_sem]
    have k_m : ((((w.alloc (.cells #[.slice pa na ca] 24)).alloc (.cells #[.slice pb nb cb] 24)).alloc (.cells #[.slice pm nm cm] 24)).alloc (.cells #[.slice none 0 0] 24)).cell? ⟨w.heap.size + 1 + 1, 0, none⟩ = some (.slice pm nm cm) := by simp [go_sem]
    have k_r : ((((w.alloc (.cells #[.slice pa na ca] 24)).alloc (.cells #[.slice pb nb cb] 24)).alloc (.cells #[.slice pm nm cm] 24)).alloc (.cells #[.slice none 0 0] 24)).cell? ⟨w.heap.size + 1 + 1 + 1, 0, none⟩ = some (.slice none 0 0) := by simp [go_sem]
    have f_r : ((((w.alloc (.cells #[.slice pa na ca] 24)).alloc (.cells #[.slice pb nb cb] 24)).alloc (.cells #[.slice pm nm cm] 24)).alloc (.cells #[.slice none 0 0] 24)).frozen? ⟨w.heap.size + 1 + 1 + 1, 0, none⟩ = false := by simp [go_sem]
    go_enter Try.func26, Try.ntmps26
    go_wp2_with fail
    refine (HC.out _ G0.out).mono ?_
    rintro e w1 ⟨rfl, hg⟩
    have f_r := hg.frozen k_r f_r
    replace k_a := hg.cell k_a
    replace k_b := hg.cell k_b
    replace k_m := hg.cell k_m
    replace k_r := hg.cell k_r
    have G1 := Lib.hid (G0.out.trans hg)
    clear hg
    go_wp2
    exact bodyPost_ret (v := .tuple #[.agg #[.slice none 0 0], .int .i64 1]) (by simp [results, Try.results26, go_sem, k_r]) rfl ⟨none, 0, 0, rfl, nr_nil _ _, G1.out.setCell (by simp; omega) _⟩
  · have G0 := Lib.hid (((((Gr.refl w).alloc (.cells #[.slice pa na ca] 24)).alloc (.cells #[.slice pb nb cb] 24)).alloc (.cells #[.slice pm nm cm] 24)).alloc (.cells #[.slice none 0 0] 24))
    have k_a : ((((w.alloc (.cells #[.slice pa na ca] 24)).alloc (.cells #[.slice pb nb cb] 24)).alloc (.cells #[.slice pm nm cm] 24)).alloc (.cells #[.slice none 0 0] 24)).cell? ⟨w.heap.size, 0, none⟩ = some (.slice pa na ca) := by simp [go_sem]
    have k_b : ((((w.alloc (.cells #[.slice pa na ca] 24)).alloc (.cells #[.slice pb nb cb] 24)).alloc (.cells #[.slice pm nm cm] 24)).alloc (.cells #[.slice none 0 0] 24)).cell? ⟨w.heap.size + 1, 0, none⟩ = some (.slice pb nb cb) := by simp [go_sem]
    have k_m : ((((w.alloc (.cells #[.slice pa na ca] 24)).alloc (.cells #[.slice pb nb cb] 24)).alloc (.cells #[.slice pm nm cm] 24)).alloc (.cells #[.slice none 0 0] 24)).cell? ⟨w.heap.size + 1 + 1, 0, none⟩ = some (.slice pm nm cm) := by simp [go_sem]
    have k_r : ((((w.alloc (.cells #[.slice pa na ca] 24)).alloc (.cells #[.slice pb nb cb] 24)).alloc (.cells #[.slice pm nm cm] 24)).alloc (.cells #[.slice none 0 0] 24)).cell? ⟨w.heap.size + 1 + 1 + 1, 0, none⟩ = some (.slice none 0 0) := by simp [go_sem]
    have f_r : ((((w.alloc (.cells #[.slice pa na ca] 24)).alloc (.cells #[.slice pb nb cb] 24)).alloc (.cells #[.slice pm nm cm] 24)).alloc (.cells #[.slice none 0 0] 24)).frozen? ⟨w.heap.size + 1 + 1 + 1, 0, none⟩ = false := by simp [go_sem]
    go_enter Try.func26, Try.ntmps26
    go_wp2_with fail
    refine (HC.out _ G0.out).mono ?_
    rintro e w1 ⟨rfl, hg⟩
    have f_r := hg.frozen k_r f_r
    replace k_a := hg.cell k_a
    replace k_b := hg.cell k_b
    replace k_m := hg.cell k_m
    replace k_r := hg.cell k_r
    have G1 := Lib.hid (G0.out.trans hg)
    clear hg
    go_wp2
    exact bodyPost_ret (v := .tuple #[.agg #[.slice none 0 0], .int .i64 2]) (by simp [results, Try.results26, go_sem, k_r]) rfl ⟨none, 0, 0, rfl, nr_nil _ _, G1.out.setCell (by simp; omega) _⟩
set_option maxRecDepth 100000 in
set_option maxHeartbeats 8000000 in
theorem mAdd_ok {pa : Option Addr} {na ca : Nat} {pb : Option Addr} {nb cb : Nat} {pm : Option Addr} {nm cm : Nat} {x y m : Nat} {w : World} (ha : Nw w pa na ca (digs x)) (hb : Nw w pb nb cb (digs y)) (hm : Nw w pm nm cm (digs m)) (hx : x < m) (hy : y < m) (vm : m < pw 32) (hC : Chk w (.agg #[.slice pa na ca]) (.agg #[.slice pm nm cm]) (.agg #[.slice pb nb cb]) (.agg #[.slice pm nm cm]) 0) :
    Calls Try.prog 20 #[.agg #[.slice pa na ca], .agg #[.slice pb nb cb], .agg #[.slice pm nm cm]] w (Gives ((x + y) % m) 0 w) := by
  have HC := Lib.hid hC
  have HP := Lib.hid (fun W (hW : Gr w W) => mplus_v (w := W) (ha.grow hW) (hb.grow hW) (Nat.lt_trans hx (lt64 vm)) (Nat.lt_trans hy (lt64 vm)) (sum_lt hx hy vm))
  have HR := Lib.hid (fun W p1 n1 c1 (h1 : Nw W p1 n1 c1 (digs (x + y))) (hW : Gr w W) => mrest_v (w := W) h1 (hm.grow hW) (sum_lt hx hy vm) (lt64 vm) (Nat.lt_of_le_of_lt (Nat.zero_le _) hx))
  obtain ⟨s, hs⟩ : ∃ s, x + y = s := ⟨_, rfl⟩
  obtain ⟨z, hz⟩ : ∃ z, s % m = z := ⟨_, rfl⟩
  rw [hs] at HP HR ⊢
  rw [hz] at HR ⊢
  clear ha hb hm hx hy vm hC hs hz
  have G0 := Lib.hid (((((Gr.refl w).alloc (.cells #[.slice pa na ca] 24)).alloc (.cells #[.slice pb nb cb] 24)).alloc (.cells #[.slice pm nm cm] 24)).alloc (.cells #[.slice none 0 0] 24))
  have k_a : ((((w.alloc (.cells #[.slice pa na ca] 24)).alloc (.cells #[.slice pb nb cb] 24)).alloc (.cells #[.slice pm nm cm] 24)).alloc (.cells #[.slice none 0 0] 24)).cell? ⟨w.heap.size, 0, none⟩ = some (.slice pa na ca) := by simp [go_sem]
  have k_b : ((((w.alloc (.cells #[.slice pa na ca] 24)).alloc (.cells #[.slice pb nb cb] 24)).alloc (.cells #[.slice pm nm cm] 24)).alloc (.cells #[.slice none 0 0] 24)).cell? ⟨w.heap.size + 1, 0, none⟩ = some (.slice pb nb cb) := by simp [go_sem]
  have k_m : ((((w.alloc (.cells #[.slice pa na ca] 24)).alloc (.cells #[.slice pb nb cb] 24)).alloc (.cells #[.slice pm nm cm] 24)).alloc (.cells #[.slice none 0 0] 24)).cell? ⟨w.heap.size + 1 + 1, 0, none⟩ = some (.slice pm nm cm) := by simp [go_sem]
  have k_r : ((((w.alloc (.cells #[.slice pa na ca] 24)).alloc (.cells #[.slice pb nb cb] 24)).alloc (.cells #[.slice pm nm cm] 24)).alloc (.cells #[.slice none 0 0] 24)).cell? ⟨w.heap.size + 1 + 1 + 1, 0, none⟩ = some (.slice none 0 0) := by simp [go_sem]
  have f_r : ((((w.alloc (.cells #[.slice pa na ca] 24)).alloc (.cells #[.slice pb nb cb] 24)).alloc (.cells #[.slice pm nm cm] 24)).alloc (.cells #[.slice none 0 0] 24)).frozen? ⟨w.heap.size + 1 + 1 + 1, 0, none⟩ = false := by simp [go_sem]
  go_enter Try.func20, Try.ntmps20
  go_wp2_with fail
  refine (HC.out _ G0.out).mono ?_
  rintro e w1 ⟨rfl, hg⟩
  have f_r := hg.frozen k_r f_r
  replace k_a := hg.cell k_a
  replace k_b := hg.cell k_b
  replace k_m := hg.cell k_m
  replace k_r := hg.cell k_r
  have G1 := Lib.hid (G0.out.trans hg)
  clear hg
  have K_a : w1.drew.cell? ⟨w.heap.size, 0, none⟩ = some (.slice pa na ca) := k_a
  have K_b : w1.drew.cell? ⟨w.heap.size + 1, 0, none⟩ = some (.slice pb nb cb) := k_b
  have K_m : w1.drew.cell? ⟨w.heap.size + 1 + 1, 0, none⟩ = some (.slice pm nm cm) := k_m
  have K_r : w1.drew.cell? ⟨w.heap.size + 1 + 1 + 1, 0, none⟩ = some (.slice none 0 0) := k_r
  have F_r : w1.drew.frozen? ⟨w.heap.size + 1 + 1 + 1, 0, none⟩ = false := f_r
  have GD : Gr w w1.drew := G1.out.drew
  have hb1 : w.heap.size + 1 + 1 + 1 < w1.heap.size := World.block_lt_of_cell? _ _ k_r
  go_upto_region 4 with fail
  clear k_a k_b k_m k_r f_r
  first
  | (go_region_held3 (fun W' => W'.cell? ⟨w.heap.size, 0, none⟩ = some (.slice pa na ca) ∧ W'.cell? ⟨w.heap.size + 1, 0, none⟩ = some (.slice pb nb cb) ∧ W'.cell? ⟨w.heap.size + 1 + 1, 0, none⟩ = some (.slice pm nm cm) ∧ Gr w W')
      (first | exact ⟨K_a, K_b, K_m, GD⟩ | (refine ⟨?_, ?_, ?_, ?_⟩ <;> assumption) | (refine ⟨?_, ?_, ?_, ?_⟩ <;> first | (refine setCell_ne ?_ ?_ <;> first | assumption | (simp; done) | (dsimp only; omega)) | (refine Gr.setCell ?_ ?_ _ <;> first | assumption | (simp; done) | (dsimp only; omega))))
      (first
      | (go_at_call 72; refine (HP.out _ ?_).mono ?_; assumption; rintro e y1 ⟨p1, n1, c1, rfl, hr1, hg1⟩; have z_f := hg1.frozen (p := ⟨w.heap.size + 1 + 1 + 1, 0, none⟩) (v := .slice none 0 0) (by assumption) (by assumption); have z_a := hg1.cell (p := ⟨w.heap.size, 0, none⟩) (v := .slice pa na ca) (by assumption); have z_b := hg1.cell (p := ⟨w.heap.size + 1, 0, none⟩) (v := .slice pb nb cb) (by assumption); have z_m := hg1.cell (p := ⟨w.heap.size + 1 + 1, 0, none⟩) (v := .slice pm nm cm) (by assumption); have z_r := hg1.cell (p := ⟨w.heap.size + 1 + 1 + 1, 0, none⟩) (v := .slice none 0 0) (by assumption); have g1 : Gr w y1 := Gr.trans (by assumption) hg1)
      | (go_at_call 71; refine (HR.out _ _ _ _ ?_ ?_).mono ?_; exact hr1.toNw; assumption; rintro e y2 ⟨p2, n2, c2, rfl, hr2, hg2⟩; have x_f := hg2.frozen (p := ⟨w.heap.size + 1 + 1 + 1, 0, none⟩) (v := .slice none 0 0) (by assumption) (by assumption); have x_a := hg2.cell (p := ⟨w.heap.size, 0, none⟩) (v := .slice pa na ca) (by assumption); have x_b := hg2.cell (p := ⟨w.heap.size + 1, 0, none⟩) (v := .slice pb nb cb) (by assumption); have x_m := hg2.cell (p := ⟨w.heap.size + 1 + 1, 0, none⟩) (v := .slice pm nm cm) (by assumption); have x_r := hg2.cell (p := ⟨w.heap.size + 1 + 1 + 1, 0, none⟩) (v := .slice none 0 0) (by assumption); have g2 : Gr w y2 := Gr.trans (by assumption) hg2)))
  | fail
  have HR2 := Lib.hid (hr2.mono (Nat.le_trans (show w.heap.size + 1 + 1 + 1 + 1 ≤ w1.heap.size by omega) (show w1.heap.size ≤ y1.heap.size from hg1.le)))
  clear K_a K_b K_m K_r F_r z_a z_b z_m z_r z_f x_a x_b x_m
  have k_r := x_r
  go_wp2
  refine bodyPost_ret (v := .tuple #[.agg #[.slice p2 n2 c2], .int .i64 0]) (by simp [results, Try.results20, go_sem, k_r]) rfl ⟨_, _, _, rfl, ?_, g2.setCell (by simp; omega) _⟩
  exact (HR2.out.set' _ _ (fun x e => own_ne HR2.out e) (tight_digs _)).mono (by omega)
set_option maxRecDepth 100000 in
set_option maxHeartbeats 8000000 in
theorem mMul_ok {pa : Option Addr} {na ca : Nat} {pb : Option Addr} {nb cb : Nat} {pm : Option Addr} {nm cm : Nat} {x y m : Nat} {w : World} (ha : Nw w pa na ca (digs x)) (hb : Nw w pb nb cb (digs y)) (hm : Nw w pm nm cm (digs m)) (hx : x < m) (hy : y < m) (vm : m < pw 32) (hC : Chk w (.agg #[.slice pa na ca]) (.agg #[.slice pm nm cm]) (.agg #[.slice pb nb cb]) (.agg #[.slice pm nm cm]) 0) :
    Calls Try.prog 26 #[.agg #[.slice pa na ca], .agg #[.slice pb nb cb], .agg #[.slice pm nm cm]] w (Gives ((x * y) % m) 0 w) := by
  have HC := Lib.hid hC
  have HP := Lib.hid (fun W (hW : Gr w W) => mtimes_v (w := W) (ha.grow hW) (hb.grow hW) (Nat.lt_trans hx (lt64 vm)) (Nat.lt_trans hy (lt64 vm)) (mul_lt hx hy vm))
  have HR := Lib.hid (fun W p1 n1 c1 (h1 : Nw W p1 n1 c1 (digs (x * y))) (hW : Gr w W) => mrest_v (w := W) h1 (hm.grow hW) (mul_lt hx hy vm) (lt64 vm) (Nat.lt_of_le_of_lt (Nat.zero_le _) hx))
  obtain ⟨s, hs⟩ : ∃ s, x * y = s := ⟨_, rfl⟩
  obtain ⟨z, hz⟩ : ∃ z, s % m = z := ⟨_, rfl⟩
  rw [hs] at HP HR ⊢
  rw [hz] at HR ⊢
  clear ha hb hm hx hy vm hC hs hz
  have G0 := Lib.hid (((((Gr.refl w).alloc (.cells #[.slice pa na ca] 24)).alloc (.cells #[.slice pb nb cb] 24)).alloc (.cells #[.slice pm nm cm] 24)).alloc (.cells #[.slice none 0 0] 24))
  have k_a : ((((w.alloc (.cells #[.slice pa na ca] 24)).alloc (.cells #[.slice pb nb cb] 24)).alloc (.cells #[.slice pm nm cm] 24)).alloc (.cells #[.slice none 0 0] 24)).cell? ⟨w.heap.size, 0, none⟩ = some (.slice pa na ca) := by simp [go_sem]
  have k_b : ((((w.alloc (.cells #[.slice pa na ca] 24)).alloc (.cells #[.slice pb nb cb] 24)).alloc (.cells #[.slice pm nm cm] 24)).alloc (.cells #[.slice none 0 0] 24)).cell? ⟨w.heap.size + 1, 0, none⟩ = some (.slice pb nb cb) := by simp [go_sem]
  have k_m : ((((w.alloc (.cells #[.slice pa na ca] 24)).alloc (.cells #[.slice pb nb cb] 24)).alloc (.cells #[.slice pm nm cm] 24)).alloc (.cells #[.slice none 0 0] 24)).cell? ⟨w.heap.size + 1 + 1, 0, none⟩ = some (.slice pm nm cm) := by simp [go_sem]
  have k_r : ((((w.alloc (.cells #[.slice pa na ca] 24)).alloc (.cells #[.slice pb nb cb] 24)).alloc (.cells #[.slice pm nm cm] 24)).alloc (.cells #[.slice none 0 0] 24)).cell? ⟨w.heap.size + 1 + 1 + 1, 0, none⟩ = some (.slice none 0 0) := by simp [go_sem]
  have f_r : ((((w.alloc (.cells #[.slice pa na ca] 24)).alloc (.cells #[.slice pb nb cb] 24)).alloc (.cells #[.slice pm nm cm] 24)).alloc (.cells #[.slice none 0 0] 24)).frozen? ⟨w.heap.size + 1 + 1 + 1, 0, none⟩ = false := by simp [go_sem]
  go_enter Try.func26, Try.ntmps26
  go_wp2_with fail
  refine (HC.out _ G0.out).mono ?_
  rintro e w1 ⟨rfl, hg⟩
  have f_r := hg.frozen k_r f_r
  replace k_a := hg.cell k_a
  replace k_b := hg.cell k_b
  replace k_m := hg.cell k_m
  replace k_r := hg.cell k_r
  have G1 := Lib.hid (G0.out.trans hg)
  clear hg
  have K_a : w1.drew.cell? ⟨w.heap.size, 0, none⟩ = some (.slice pa na ca) := k_a
  have K_b : w1.drew.cell? ⟨w.heap.size + 1, 0, none⟩ = some (.slice pb nb cb) := k_b
  have K_m : w1.drew.cell? ⟨w.heap.size + 1 + 1, 0, none⟩ = some (.slice pm nm cm) := k_m
  have K_r : w1.drew.cell? ⟨w.heap.size + 1 + 1 + 1, 0, none⟩ = some (.slice none 0 0) := k_r
  have F_r : w1.drew.frozen? ⟨w.heap.size + 1 + 1 + 1, 0, none⟩ = false := f_r
  have GD : Gr w w1.drew := G1.out.drew
  have hb1 : w.heap.size + 1 + 1 + 1 < w1.heap.size := World.block_lt_of_cell? _ _ k_r
  go_upto_region 4 with fail
  clear k_a k_b k_m k_r f_r
  first
  | (go_region_held3 (fun W' => W'.cell? ⟨w.heap.size, 0, none⟩ = some (.slice pa na ca) ∧ W'.cell? ⟨w.heap.size + 1, 0, none⟩ = some (.slice pb nb cb) ∧ W'.cell? ⟨w.heap.size + 1 + 1, 0, none⟩ = some (.slice pm nm cm) ∧ Gr w W')
      (first | exact ⟨K_a, K_b, K_m, GD⟩ | (refine ⟨?_, ?_, ?_, ?_⟩ <;> assumption) | (refine ⟨?_, ?_, ?_, ?_⟩ <;> first | (refine setCell_ne ?_ ?_ <;> first | assumption | (simp; done) | (dsimp only; omega)) | (refine Gr.setCell ?_ ?_ _ <;> first | assumption | (simp; done) | (dsimp only; omega))))
      (first
      | (go_at_call 79; refine (HP.out _ ?_).mono ?_; assumption; rintro e y1 ⟨p1, n1, c1, rfl, hr1, hg1⟩; have z_f := hg1.frozen (p := ⟨w.heap.size + 1 + 1 + 1, 0, none⟩) (v := .slice none 0 0) (by assumption) (by assumption); have z_a := hg1.cell (p := ⟨w.heap.size, 0, none⟩) (v := .slice pa na ca) (by assumption); have z_b := hg1.cell (p := ⟨w.heap.size + 1, 0, none⟩) (v := .slice pb nb cb) (by assumption); have z_m := hg1.cell (p := ⟨w.heap.size + 1 + 1, 0, none⟩) (v := .slice pm nm cm) (by assumption); have z_r := hg1.cell (p := ⟨w.heap.size + 1 + 1 + 1, 0, none⟩) (v := .slice none 0 0) (by assumption); have g1 : Gr w y1 := Gr.trans (by assumption) hg1)
      | (go_at_call 71; refine (HR.out _ _ _ _ ?_ ?_).mono ?_; exact hr1.toNw; assumption; rintro e y2 ⟨p2, n2, c2, rfl, hr2, hg2⟩; have x_f := hg2.frozen (p := ⟨w.heap.size + 1 + 1 + 1, 0, none⟩) (v := .slice none 0 0) (by assumption) (by assumption); have x_a := hg2.cell (p := ⟨w.heap.size, 0, none⟩) (v := .slice pa na ca) (by assumption); have x_b := hg2.cell (p := ⟨w.heap.size + 1, 0, none⟩) (v := .slice pb nb cb) (by assumption); have x_m := hg2.cell (p := ⟨w.heap.size + 1 + 1, 0, none⟩) (v := .slice pm nm cm) (by assumption); have x_r := hg2.cell (p := ⟨w.heap.size + 1 + 1 + 1, 0, none⟩) (v := .slice none 0 0) (by assumption); have g2 : Gr w y2 := Gr.trans (by assumption) hg2)))
  | fail
  have HR2 := Lib.hid (hr2.mono (Nat.le_trans (show w.heap.size + 1 + 1 + 1 + 1 ≤ w1.heap.size by omega) (show w1.heap.size ≤ y1.heap.size from hg1.le)))
  clear K_a K_b K_m K_r F_r z_a z_b z_m z_r z_f x_a x_b x_m
  have k_r := x_r
  go_wp2
  refine bodyPost_ret (v := .tuple #[.agg #[.slice p2 n2 c2], .int .i64 0]) (by simp [results, Try.results26, go_sem, k_r]) rfl ⟨_, _, _, rfl, ?_, g2.setCell (by simp; omega) _⟩
  exact (HR2.out.set' _ _ (fun x e => own_ne HR2.out e) (tight_digs _)).mono (by omega)
theorem own_lt {B b : Nat} {w : World} {p : Option Addr} {n c : Nat} {l : List Nat} (h : Nr B w p n c l) (hb : b < B) {x : Addr} (e : p = some x) : x.block ≠ b ∨ val l = 0 := by
  rcases h.own with h0 | ⟨b', off, e2, hb', _⟩
  · right; rw [h0]; rfl
  · left
    rw [e] at e2
    cases e2
    show b' ≠ b
    omega
set_option maxRecDepth 100000 in
set_option maxHeartbeats 8000000 in
theorem mSub_neg {pa : Option Addr} {na ca : Nat} {pb : Option Addr} {nb cb : Nat} {pm : Option Addr} {nm cm : Nat} {x y m : Nat} {w : World} (ha : Nw w pa na ca (digs x)) (hb : Nw w pb nb cb (digs y)) (hm : Nw w pm nm cm (digs m)) (hx : x < m) (hy : y < m) (vm : m < pw 32) (hC : Chk w (.agg #[.slice pa na ca]) (.agg #[.slice pm nm cm]) (.agg #[.slice pb nb cb]) (.agg #[.slice pm nm cm]) 0) (h : x < y) :
    Calls Try.prog 21 #[.agg #[.slice pa na ca], .agg #[.slice pb nb cb], .agg #[.slice pm nm cm]] w (Gives (x + m - y) 0 w) := by
  have HC := Lib.hid hC
  have HL := Lib.hid (fun W (hW : Gr w W) => mless_v (w := W) (ha.grow hW) (hb.grow hW) (Nat.lt_trans hx (lt64 vm)) (Nat.lt_trans hy (lt64 vm)))
  rw [decide_eq_true h] at HL
  have hs : x + m < pw 64 := sum_lt2 hx vm
  have HP := Lib.hid (fun W (hW : Gr w W) => mplus_v (w := W) (ha.grow hW) (hm.grow hW) (Nat.lt_trans hx (lt64 vm)) (lt64 vm) hs)
  have HM := Lib.hid (fun W p1 n1 c1 (h1 : Nw W p1 n1 c1 (digs (x + m))) (h2 : Nw W pb nb cb (digs y)) => mminus_v (w := W) h1 h2 hs (Nat.lt_trans hy (lt64 vm)) (Nat.le_trans (Nat.le_of_lt hy) (Nat.le_add_left m x)))
  have HB := Lib.hid hb
  obtain ⟨s, hs'⟩ : ∃ s, x + m = s := ⟨_, rfl⟩
  obtain ⟨z, hz⟩ : ∃ z, s - y = z := ⟨_, rfl⟩
  rw [hs'] at HP HM ⊢
  rw [hz] at HM ⊢
  clear ha hb hm hx hy vm hC hs hs' hz h
  have G0 := Lib.hid (((((Gr.refl w).alloc (.cells #[.slice pa na ca] 24)).alloc (.cells #[.slice pb nb cb] 24)).alloc (.cells #[.slice pm nm cm] 24)).alloc (.cells #[.slice none 0 0] 24))
  have k_a : ((((w.alloc (.cells #[.slice pa na ca] 24)).alloc (.cells #[.slice pb nb cb] 24)).alloc (.cells #[.slice pm nm cm] 24)).alloc (.cells #[.slice none 0 0] 24)).cell? ⟨w.heap.size, 0, none⟩ = some (.slice pa na ca) := by simp [go_sem]
  have k_b : ((((w.alloc (.cells #[.slice pa na ca] 24)).alloc (.cells #[.slice pb nb cb] 24)).alloc (.cells #[.slice pm nm cm] 24)).alloc (.cells #[.slice none 0 0] 24)).cell? ⟨w.heap.size + 1, 0, none⟩ = some (.slice pb nb cb) := by simp [go_sem]
  have k_m : ((((w.alloc (.cells #[.slice pa na ca] 24)).alloc (.cells #[.slice pb nb cb] 24)).alloc (.cells #[.slice pm nm cm] 24)).alloc (.cells #[.slice none 0 0] 24)).cell? ⟨w.heap.size + 1 + 1, 0, none⟩ = some (.slice pm nm cm) := by simp [go_sem]
  have k_r : ((((w.alloc (.cells #[.slice pa na ca] 24)).alloc (.cells #[.slice pb nb cb] 24)).alloc (.cells #[.slice pm nm cm] 24)).alloc (.cells #[.slice none 0 0] 24)).cell? ⟨w.heap.size + 1 + 1 + 1, 0, none⟩ = some (.slice none 0 0) := by simp [go_sem]
  have f_r : ((((w.alloc (.cells #[.slice pa na ca] 24)).alloc (.cells #[.slice pb nb cb] 24)).alloc (.cells #[.slice pm nm cm] 24)).alloc (.cells #[.slice none 0 0] 24)).frozen? ⟨w.heap.size + 1 + 1 + 1, 0, none⟩ = false := by simp [go_sem]
  have f_a : ((((w.alloc (.cells #[.slice pa na ca] 24)).alloc (.cells #[.slice pb nb cb] 24)).alloc (.cells #[.slice pm nm cm] 24)).alloc (.cells #[.slice none 0 0] 24)).frozen? ⟨w.heap.size, 0, none⟩ = false := by simp [go_sem]
  go_enter Try.func21, Try.ntmps21
  go_wp2_with fail
  refine (HC.out _ G0.out).mono ?_
  rintro e w1 ⟨rfl, hg⟩
  have f_r := hg.frozen k_r f_r
  have f_a := hg.frozen k_a f_a
  replace k_a := hg.cell k_a
  replace k_b := hg.cell k_b
  replace k_m := hg.cell k_m
  replace k_r := hg.cell k_r
  have G1 := Lib.hid (G0.out.trans hg)
  clear hg
  go_wp2_with fail
  refine (HL.out _ G1.out).mono ?_
  rintro e w2 ⟨rfl, hg⟩
  have f_r := hg.frozen k_r f_r
  have f_a := hg.frozen k_a f_a
  replace k_a := hg.cell k_a
  replace k_b := hg.cell k_b
  replace k_m := hg.cell k_m
  replace k_r := hg.cell k_r
  have G2 := Lib.hid (G1.out.trans hg)
  clear hg
  go_wp2_with fail
  have hb2 : w.heap.size + 1 + 1 + 1 < w2.heap.size := World.block_lt_of_cell? _ _ k_r
  refine (HP.out _ G2.out).mono ?_
  rintro e w3 ⟨p1, n1, c1, rfl, hr, hg⟩
  have f_r := hg.frozen k_r f_r
  have f_a := hg.frozen k_a f_a
  replace k_a := hg.cell k_a
  replace k_b := hg.cell k_b
  replace k_m := hg.cell k_m
  replace k_r := hg.cell k_r
  have G3 := Lib.hid (G2.out.trans hg)
  clear hg
  have HR1 : Hid (Nr (w.heap.size + 1) w3 p1 n1 c1 (digs s)) := Lib.hid (hr.mono (Nat.le_trans (Nat.le_succ_of_le (Nat.le_succ_of_le (Nat.le_succ _))) hb2))
  clear hr
  obtain ⟨W3, hW3⟩ : ∃ W3, w3.setCell ⟨w.heap.size, 0, none⟩ (.slice p1 n1 c1) = W3 := ⟨_, rfl⟩
  have HN1 : Hid (Nw W3 p1 n1 c1 (digs s)) := Lib.hid (by rw [← hW3]; exact (HR1.out.set' _ _ (fun x e => own_lt HR1.out (Nat.lt_succ_self _) e) (tight_digs _)).toNw)
  have G4 : Hid (Gr w W3) := Lib.hid (by rw [← hW3]; exact G3.out.setCell (Nat.le_refl _) _)
  have HNB : Hid (Nw W3 pb nb cb (digs y)) := Lib.hid (HB.out.grow G4.out)
  have l_b : W3.cell? ⟨w.heap.size + 1, 0, none⟩ = some (.slice pb nb cb) := by rw [← hW3]; exact setCell_ne (by simp; try omega) k_b
  have l_m : W3.cell? ⟨w.heap.size + 1 + 1, 0, none⟩ = some (.slice pm nm cm) := by rw [← hW3]; exact setCell_ne (by simp; try omega) k_m
  have l_r : W3.cell? ⟨w.heap.size + 1 + 1 + 1, 0, none⟩ = some (.slice none 0 0) := by rw [← hW3]; exact setCell_ne (by simp; try omega) k_r
  have l_a : W3.cell? ⟨w.heap.size, 0, none⟩ = some (.slice p1 n1 c1) := by rw [← hW3]; exact setCell_at k_a
  have l_f : W3.frozen? ⟨w.heap.size + 1 + 1 + 1, 0, none⟩ = false := by rw [← hW3]; exact setCell_frozen f_r
  have hW := Lib.hid hW3
  clear hW3
  go_wp2_with fail
  have hW3 := hW.out
  simp only [hW3]
  clear hW3 k_a k_b k_m k_r f_r
  refine (HM.out _ _ _ _ HN1.out HNB.out).mono ?_
  rintro e w4 ⟨p2, n2, c2, rfl, hr2, hg⟩
  have f_r := hg.frozen l_r l_f
  have k_r := hg.cell l_r
  have hl : w.heap.size + 1 + 1 + 1 < W3.heap.size := World.block_lt_of_cell? _ _ l_r
  have G5 := Lib.hid (G4.out.trans hg)
  have HR2 := Lib.hid (hr2.mono (show w.heap.size + 1 + 1 + 1 + 1 ≤ _ from hl))
  clear hg hr2 l_a l_b l_m l_r l_f hl
  go_wp2
  refine bodyPost_ret (v := .tuple #[.agg #[.slice p2 n2 c2], .int .i64 0]) (by simp [results, Try.results21, go_sem, k_r]) rfl ⟨_, _, _, rfl, ?_, G5.out.setCell (by simp; omega) _⟩
  exact (HR2.out.set' _ _ (fun x e => own_ne HR2.out e) (tight_digs _)).mono (by omega)
set_option maxRecDepth 100000 in
set_option maxHeartbeats 8000000 in
theorem mSub_pos {pa : Option Addr} {na ca : Nat} {pb : Option Addr} {nb cb : Nat} {pm : Option Addr} {nm cm : Nat} {x y m : Nat} {w : World} (ha : Nw w pa na ca (digs x)) (hb : Nw w pb nb cb (digs y)) (_hm : Nw w pm nm cm (digs m)) (hx : x < m) (hy : y < m) (vm : m < pw 32) (hC : Chk w (.agg #[.slice pa na ca]) (.agg #[.slice pm nm cm]) (.agg #[.slice pb nb cb]) (.agg #[.slice pm nm cm]) 0) (h : y ≤ x) :
    Calls Try.prog 21 #[.agg #[.slice pa na ca], .agg #[.slice pb nb cb], .agg #[.slice pm nm cm]] w (Gives (x - y) 0 w) := by
  have HC := Lib.hid hC
  have HL := Lib.hid (fun W (hW : Gr w W) => mless_v (w := W) (ha.grow hW) (hb.grow hW) (Nat.lt_trans hx (lt64 vm)) (Nat.lt_trans hy (lt64 vm)))
  rw [decide_eq_false (Nat.not_lt.2 h)] at HL
  have HM := Lib.hid (fun W (hW : Gr w W) => mminus_v (w := W) (ha.grow hW) (hb.grow hW) (Nat.lt_trans hx (lt64 vm)) (Nat.lt_trans hy (lt64 vm)) h)
  obtain ⟨z, hz⟩ : ∃ z, x - y = z := ⟨_, rfl⟩
  rw [hz] at HM ⊢
  clear ha hb _hm hx hy vm hC h hz
  have G0 := Lib.hid (((((Gr.refl w).alloc (.cells #[.slice pa na ca] 24)).alloc (.cells #[.slice pb nb cb] 24)).alloc (.cells #[.slice pm nm cm] 24)).alloc (.cells #[.slice none 0 0] 24))
  have k_a : ((((w.alloc (.cells #[.slice pa na ca] 24)).alloc (.cells #[.slice pb nb cb] 24)).alloc (.cells #[.slice pm nm cm] 24)).alloc (.cells #[.slice none 0 0] 24)).cell? ⟨w.heap.size, 0, none⟩ = some (.slice pa na ca) := by simp [go_sem]
  have k_b : ((((w.alloc (.cells #[.slice pa na ca] 24)).alloc (.cells #[.slice pb nb cb] 24)).alloc (.cells #[.slice pm nm cm] 24)).alloc (.cells #[.slice none 0 0] 24)).cell? ⟨w.heap.size + 1, 0, none⟩ = some (.slice pb nb cb) := by simp [go_sem]
  have k_m : ((((w.alloc (.cells #[.slice pa na ca] 24)).alloc (.cells #[.slice pb nb cb] 24)).alloc (.cells #[.slice pm nm cm] 24)).alloc (.cells #[.slice none 0 0] 24)).cell? ⟨w.heap.size + 1 + 1, 0, none⟩ = some (.slice pm nm cm) := by simp [go_sem]
  have k_r : ((((w.alloc (.cells #[.slice pa na ca] 24)).alloc (.cells #[.slice pb nb cb] 24)).alloc (.cells #[.slice pm nm cm] 24)).alloc (.cells #[.slice none 0 0] 24)).cell? ⟨w.heap.size + 1 + 1 + 1, 0, none⟩ = some (.slice none 0 0) := by simp [go_sem]
  have f_r : ((((w.alloc (.cells #[.slice pa na ca] 24)).alloc (.cells #[.slice pb nb cb] 24)).alloc (.cells #[.slice pm nm cm] 24)).alloc (.cells #[.slice none 0 0] 24)).frozen? ⟨w.heap.size + 1 + 1 + 1, 0, none⟩ = false := by simp [go_sem]
  have f_a : ((((w.alloc (.cells #[.slice pa na ca] 24)).alloc (.cells #[.slice pb nb cb] 24)).alloc (.cells #[.slice pm nm cm] 24)).alloc (.cells #[.slice none 0 0] 24)).frozen? ⟨w.heap.size, 0, none⟩ = false := by simp [go_sem]
  go_enter Try.func21, Try.ntmps21
  go_wp2_with fail
  refine (HC.out _ G0.out).mono ?_
  rintro e w1 ⟨rfl, hg⟩
  have f_r := hg.frozen k_r f_r
  have f_a := hg.frozen k_a f_a
  replace k_a := hg.cell k_a
  replace k_b := hg.cell k_b
  replace k_m := hg.cell k_m
  replace k_r := hg.cell k_r
  have G1 := Lib.hid (G0.out.trans hg)
  clear hg
  go_wp2_with fail
  refine (HL.out _ G1.out).mono ?_
  rintro e w2 ⟨rfl, hg⟩
  have f_r := hg.frozen k_r f_r
  have f_a := hg.frozen k_a f_a
  replace k_a := hg.cell k_a
  replace k_b := hg.cell k_b
  replace k_m := hg.cell k_m
  replace k_r := hg.cell k_r
  have G2 := Lib.hid (G1.out.trans hg)
  clear hg
  have hb2 : w.heap.size + 1 + 1 + 1 < w2.heap.size := World.block_lt_of_cell? _ _ k_r
  go_wp2_with fail
  refine (HM.out _ G2.out).mono ?_
  rintro e w3 ⟨p1, n1, c1, rfl, hr, hg⟩
  have f_r := hg.frozen k_r f_r
  replace k_a := hg.cell k_a
  replace k_b := hg.cell k_b
  replace k_m := hg.cell k_m
  replace k_r := hg.cell k_r
  have G3 := Lib.hid (G2.out.trans hg)
  clear hg
  have HR1 := Lib.hid (hr.mono (show w.heap.size + 1 + 1 + 1 + 1 ≤ _ from hb2))
  clear hr
  go_wp2
  refine bodyPost_ret (v := .tuple #[.agg #[.slice p1 n1 c1], .int .i64 0]) (by simp [results, Try.results21, go_sem, k_r]) rfl ⟨_, _, _, rfl, ?_, G3.out.setCell (by simp; omega) _⟩
  exact (HR1.out.set' _ _ (fun x e => own_ne HR1.out e) (tight_digs _)).mono (by omega)
theorem mSub_ok {pa : Option Addr} {na ca : Nat} {pb : Option Addr} {nb cb : Nat} {pm : Option Addr} {nm cm : Nat} {x y m : Nat} {w : World} (ha : Nw w pa na ca (digs x)) (hb : Nw w pb nb cb (digs y)) (hm : Nw w pm nm cm (digs m)) (hx : x < m) (hy : y < m) (vm : m < pw 32) (hC : Chk w (.agg #[.slice pa na ca]) (.agg #[.slice pm nm cm]) (.agg #[.slice pb nb cb]) (.agg #[.slice pm nm cm]) 0) :
    Calls Try.prog 21 #[.agg #[.slice pa na ca], .agg #[.slice pb nb cb], .agg #[.slice pm nm cm]] w (Gives ((x + m - y) % m) 0 w) := by
  rcases Nat.lt_or_ge x y with h | h
  · rw [Nat.mod_eq_of_lt (show x + m - y < m by omega)]
    exact mSub_neg ha hb hm hx hy vm hC h
  · rw [show x + m - y = x - y + m by omega, Nat.add_mod_right, Nat.mod_eq_of_lt (show x - y < m by omega)]
    exact mSub_pos ha hb hm hx hy vm hC h

end Go.Proofs.Ytlciocebbckdcaa.Mo


/- The contract of natmod's Gcd. -/
namespace Go.Proofs.Ytlciocebbckdcaa.Mo
open Go.RowKit Go.Shelf Go.Proofs.Ytlciocebbckdcaa.Nm Go.Proofs.Ytlciocebbckdcaa.Ne Go.Proofs.Ytlciocebbckdcaa.Nf Go.Proofs.Ytlciocebbckdcaa.Nk Go.Proofs.Ytlciocebbckdcaa.Nv Go.Proofs.Ytlciocebbckdcaa.Nr2

/-- Words that do not lie in the blocks from lo up to hi. -/
def Nx (lo hi : Nat) (W : World) (p : Option Addr) (n c : Nat) (l : List Nat) : Prop := Nw W p n c l ∧ ∀ x : Addr, p = some x → x.block < lo ∨ hi ≤ x.block ∨ l = []
theorem Nx.arg {w : World} {p : Option Addr} {n c : Nat} {l : List Nat} (h : Nw w p n c l) (hi : Nat) : Nx w.heap.size hi w p n c l := by
  refine ⟨h, fun x e => ?_⟩
  by_cases h0 : l = []
  · exact .inr (.inr h0)
  · have hp : 0 < l.length := List.length_pos_iff.2 h0
    obtain ⟨b, off, e2, hc⟩ := h.rd.at hp
    rw [e] at e2
    cases e2
    exact .inl (World.block_lt_of_cell? w _ (hc 0 hp))
theorem Nx.nr {lo hi : Nat} {W : World} {p : Option Addr} {n c : Nat} {l : List Nat} (h : Nr hi W p n c l) : Nx lo hi W p n c l := by
  refine ⟨h.toNw, fun x e => ?_⟩
  rcases h.own with h0 | ⟨b, off, e2, hb, _⟩
  · exact .inr (.inr h0)
  · rw [e] at e2
    cases e2
    exact .inr (.inl hb)
theorem Nx.grow {lo hi : Nat} {W W' : World} {p : Option Addr} {n c : Nat} {l : List Nat} (h : Nx lo hi W p n c l) (g : Gr W W') : Nx lo hi W' p n c l := ⟨h.1.grow g, h.2⟩
theorem Nx.set {lo hi : Nat} {W : World} {p : Option Addr} {n c : Nat} {l : List Nat} (h : Nx lo hi W p n c l) {a : Addr} (h1 : lo ≤ a.block) (h2 : a.block < hi) (v : Value) : Nx lo hi (W.setCell a v) p n c l := by
  refine ⟨?_, h.2⟩
  by_cases h0 : l = []
  · subst h0
    exact ⟨h.1.len, h.1.le, h.1.nil, .inl rfl, h.1.ok, h.1.small⟩
  · refine h.1.set a v fun x e => ?_
    rcases h.2 x e with h3 | h3 | h3
    · omega
    · omega
    · exact absurd h3 h0
/-- The number that a cell holds. -/
def wordAt (W : World) (a : Addr) : Nat := match W.cell? a with
  | some (.int _ v) => v.toNat
  | _ => 0
def numAt (W : World) (b : Addr) : Nat := match W.cell? b with
  | some (.slice (some a) n _) => val ((List.range n).map fun i => wordAt W ⟨a.block, a.off + i, none⟩)
  | _ => 0
theorem numAt_eq {W : World} {b : Addr} {p : Option Addr} {n c : Nat} {l : List Nat} (h1 : W.cell? b = some (.slice p n c)) (h2 : Nw W p n c l) : numAt W b = val l := by
  unfold numAt
  rw [h1]
  cases p with
  | none =>
    have := h2.len
    rw [(h2.nil rfl).1] at this
    rw [List.eq_nil_of_length_eq_zero this]
    rfl
  | some a =>
    show val _ = val l
    congr 1
    by_cases h0 : l = []
    · subst h0
      have := h2.len
      simp only [List.length_nil] at this
      subst this
      rfl
    · obtain ⟨b', off, e, hc⟩ := h2.rd.at (List.length_pos_iff.2 h0)
      cases e
      refine List.ext_getElem (by simp [h2.len]) ?_
      intro i hi1 hi2
      have := hc i hi2
      simp only [List.getElem_map, List.getElem_range, wordAt]
      rw [this]
      simp [hi2]

set_option maxHeartbeats 4000000 in
theorem mGcd_bad {p q : Option Addr} {n m c d : Nat} {l k : List Nat} {w : World} (hl : Nw w p n c l) (hk : Nw w q m d k) (hv : (decide (valid l) && decide (valid k)) = false) :
    Calls Try.prog 31 #[.agg #[.slice p n c], .agg #[.slice q m d]] w (Gives 0 1 w) := by
  have HL := Lib.hid hl
  have HK := Lib.hid hk
  have G0 := Lib.hid ((((Gr.refl w).alloc (.cells #[.slice p n c] 24)).alloc (.cells #[.slice q m d] 24)).alloc (.cells #[.slice none 0 0] 24))
  have CA : Hid (decide (valid l) = false) ∨ Hid (decide (valid l) = true) ∧ Hid (decide (valid k) = false) := by
    cases h1 : decide (valid l) with
    | false => exact .inl rfl
    | true => exact .inr ⟨rfl, by rw [h1] at hv; exact hv⟩
  clear hl hk hv
  rcases CA with F1 | ⟨F1, F2⟩
  · go_enter Try.func31, Try.ntmps31
    go_wp2_with fail
    refine (Valid_n p n c l _ (HL.out.grow G0.out)).mono ?_
    rintro e w1 ⟨rfl, hg⟩
    rw [F1.out]
    have k_r := hg.cell (p := ⟨w.heap.size + 1 + 1, 0, none⟩) (v := .slice none 0 0) (by simp [go_sem])
    have f_r := hg.frozen (p := ⟨w.heap.size + 1 + 1, 0, none⟩) (v := .slice none 0 0) (by simp [go_sem]) (by simp [go_sem])
    have G1 := Lib.hid (G0.out.trans hg)
    clear hg
    go_wp2
    exact bodyPost_ret (v := .tuple #[.agg #[.slice none 0 0], .int .i64 1]) (by simp [results, Try.results31, go_sem, k_r]) rfl ⟨none, 0, 0, rfl, nr_nil _ _, G1.out.setCell (by simp; omega) _⟩
  · go_enter Try.func31, Try.ntmps31
    go_wp2_with fail
    refine (Valid_n p n c l _ (HL.out.grow G0.out)).mono ?_
    rintro e w1 ⟨rfl, hg⟩
    rw [F1.out]
    have k_b := hg.cell (p := ⟨w.heap.size + 1, 0, none⟩) (v := .slice q m d) (by simp [go_sem])
    have k_r := hg.cell (p := ⟨w.heap.size + 1 + 1, 0, none⟩) (v := .slice none 0 0) (by simp [go_sem])
    have f_r := hg.frozen (p := ⟨w.heap.size + 1 + 1, 0, none⟩) (v := .slice none 0 0) (by simp [go_sem]) (by simp [go_sem])
    have G1 := Lib.hid (G0.out.trans hg)
    clear hg
    go_wp2_with fail
    refine (Valid_n q m d k _ (HK.out.grow G1.out)).mono ?_
    rintro e w2 ⟨rfl, hg⟩
    rw [F2.out]
    have f_r := hg.frozen k_r f_r
    replace k_r := hg.cell k_r
    have G2 := Lib.hid (G1.out.trans hg)
    clear hg k_b
    go_wp2
    exact bodyPost_ret (v := .tuple #[.agg #[.slice none 0 0], .int .i64 1]) (by simp [results, Try.results31, go_sem, k_r]) rfl ⟨none, 0, 0, rfl, nr_nil _ _, G2.out.setCell (by simp; omega) _⟩

set_option maxRecDepth 100000 in
set_option maxHeartbeats 8000000 in
theorem mGcd_ok {p q : Option Addr} {n m c d x y : Nat} {w : World} (hl : Nw w p n c (digs x)) (hk : Nw w q m d (digs y)) (hx : x < pw 64) (hy : y < pw 64) :
    Calls Try.prog 31 #[.agg #[.slice p n c], .agg #[.slice q m d]] w (Gives (Nat.gcd x y) 0 w) := by
  have HXA := Lib.hid (Nx.arg hl (w.heap.size + 3))
  have HYA := Lib.hid (Nx.arg hk (w.heap.size + 3))
  have F1 := Lib.hid (fun W (hW : Gr w W) => Valid_v (w := W) (hl.grow hW) hx)
  have F2 := Lib.hid (fun W (hW : Gr w W) => Valid_v (w := W) (hk.grow hW) hy)
  have HX := Lib.hid hx
  have HY := Lib.hid hy
  have G0 := Lib.hid ((((Gr.refl w).alloc (.cells #[.slice p n c] 24)).alloc (.cells #[.slice q m d] 24)).alloc (.cells #[.slice none 0 0] 24))
  clear hl hk hx hy
  go_enter Try.func31, Try.ntmps31
  go_wp2_with fail
  refine (F1.out _ G0.out).mono ?_
  rintro e w1 ⟨rfl, hg⟩
  have k_a := hg.cell (p := ⟨w.heap.size, 0, none⟩) (v := .slice p n c) (by simp [go_sem])
  have k_b := hg.cell (p := ⟨w.heap.size + 1, 0, none⟩) (v := .slice q m d) (by simp [go_sem])
  have k_r := hg.cell (p := ⟨w.heap.size + 1 + 1, 0, none⟩) (v := .slice none 0 0) (by simp [go_sem])
  have f_a := hg.frozen (p := ⟨w.heap.size, 0, none⟩) (v := .slice p n c) (by simp [go_sem]) (by simp [go_sem])
  have f_b := hg.frozen (p := ⟨w.heap.size + 1, 0, none⟩) (v := .slice q m d) (by simp [go_sem]) (by simp [go_sem])
  have f_r := hg.frozen (p := ⟨w.heap.size + 1 + 1, 0, none⟩) (v := .slice none 0 0) (by simp [go_sem]) (by simp [go_sem])
  have G1 := Lib.hid (G0.out.trans hg)
  clear hg
  go_wp2_with fail
  refine (F2.out _ G1.out).mono ?_
  rintro e w2 ⟨rfl, hg⟩
  have K_a := Lib.hid (hg.cell k_a)
  have K_b := Lib.hid (hg.cell k_b)
  have K_r := Lib.hid (hg.cell k_r)
  have F_a := Lib.hid (hg.frozen k_a f_a)
  have F_b := Lib.hid (hg.frozen k_b f_b)
  have F_r := Lib.hid (hg.frozen k_r f_r)
  have G2 := Lib.hid (G1.out.trans hg)
  clear hg k_a k_b k_r f_a f_b f_r
  go_wp2
  go_loopw [] (fun wr => ∃ (x' y' : Nat) (p1 p2 : Option Addr) (n1 c1 n2 c2 : Nat), Hid (x' < pw 64) ∧ Hid (y' < pw 64) ∧ Hid (Nat.gcd x' y' = Nat.gcd x y) ∧ Hid (wr.cell? ⟨w.heap.size, 0, none⟩ = some (.slice p1 n1 c1)) ∧ Hid (wr.cell? ⟨w.heap.size + 1, 0, none⟩ = some (.slice p2 n2 c2)) ∧ Hid (wr.cell? ⟨w.heap.size + 1 + 1, 0, none⟩ = some (.slice none 0 0)) ∧ Hid (wr.frozen? ⟨w.heap.size, 0, none⟩ = false) ∧ Hid (wr.frozen? ⟨w.heap.size + 1, 0, none⟩ = false) ∧ Hid (wr.frozen? ⟨w.heap.size + 1 + 1, 0, none⟩ = false) ∧ Hid (Nx w.heap.size (w.heap.size + 3) wr p1 n1 c1 (digs x')) ∧ Hid (Nx w.heap.size (w.heap.size + 3) wr p2 n2 c2 (digs y')) ∧ Hid (Gr w wr)) (fun wr => numAt wr ⟨w.heap.size + 1, 0, none⟩)
  case atStart => exact ⟨x, y, p, q, n, c, m, d, HX, HY, rfl, K_a, K_b, K_r, F_a, F_b, F_r, HXA.out.grow G2.out, HYA.out.grow G2.out, G2⟩
  case round =>
    clear K_a K_b K_r F_a F_b F_r G2 G1 G0 HXA HYA F1 F2 HX HY
    obtain ⟨x', y', p1, p2, n1, c1, n2, c2, HX, HY, HGC, K_a, K_b, K_r, F_a, F_b, F_r, NX, NY, G⟩ := hrel
    have k_b := K_b.out
    go_wp2_with fail
    refine (isZero_v NY.out.1).mono ?_
    rintro e w3 ⟨rfl, hg⟩
    have HMe := Lib.hid ((numAt_eq K_b.out NY.out.1).trans (val_digs y'))
    have k_a := hg.cell K_a.out
    replace k_b := hg.cell K_b.out
    have k_r := hg.cell K_r.out
    have f_a := hg.frozen K_a.out F_a.out
    have f_b := hg.frozen K_b.out F_b.out
    have f_r := hg.frozen K_r.out F_r.out
    replace NX := Lib.hid (NX.out.grow hg)
    replace NY := Lib.hid (NY.out.grow hg)
    replace G := Lib.hid (G.out.trans hg)
    have HSZ : Hid (w.heap.size + 3 ≤ w3.heap.size) := Lib.hid (World.block_lt_of_cell? _ _ k_r)
    clear hg K_a K_b K_r F_a F_b F_r
    by_cases h : y' = 0
    · subst h
      have HXG : Hid (x' = Nat.gcd x y) := Lib.hid (by rw [← HGC.out, Nat.gcd_zero_right])
      go_wp2_with fail
      refine (clone_any p1 (digs x') n1 c1 NX.out.1.len NX.out.1.small NX.out.1.nil w3 NX.out.1.rd).mono ?_
      rintro e w4 ⟨p5, cap, rfl, hle, hnil, hown, hg⟩
      have f_r := hg.frozen k_r f_r
      replace k_r := hg.cell k_r
      have HN : Hid (Nr (w.heap.size + 3) w4 p5 (digs x').length cap (digs x')) := Lib.hid ⟨⟨rfl, hle, fun e => ⟨by rw [(hnil e).1]; rfl, (hnil e).2⟩, hown.rd, ok_digs x', by rw [NX.out.1.len]; exact NX.out.1.small⟩, hown.mono HSZ.out⟩
      have GG := Lib.hid (G.out.trans hg)
      clear hle hnil hown hg k_a k_b f_a f_b
      obtain ⟨L, hL⟩ : ∃ L, (digs x').length = L := ⟨_, rfl⟩
      rw [hL] at HN ⊢
      clear hL
      go_wp2
      refine bodyPost_ret (v := .tuple #[.agg #[.slice p5 L cap], .int .i64 0]) (by simp [results, Try.results31, go_sem, k_r]) rfl ⟨_, _, _, rfl, ?_, GG.out.setCell (by simp; omega) _⟩
      rw [← HXG.out]
      exact (HN.out.set' _ _ (fun x e => own_lt HN.out (by simp) e) (tight_digs _)).mono (by omega)
    · have h0 : decide (y' = 0) = false := decide_eq_false h
      rw [h0]
      have HYP := Lib.hid (Nat.pos_of_ne_zero h)
      clear h h0
      go_upto_region 4 with fail
      have Z_a : w3.drew.cell? ⟨w.heap.size, 0, none⟩ = some (.slice p1 n1 c1) := k_a
      have Z_b : w3.drew.cell? ⟨w.heap.size + 1, 0, none⟩ = some (.slice p2 n2 c2) := k_b
      have Z_r : w3.drew.cell? ⟨w.heap.size + 1 + 1, 0, none⟩ = some (.slice none 0 0) := k_r
      have V_a : w3.drew.frozen? ⟨w.heap.size, 0, none⟩ = false := f_a
      have V_b : w3.drew.frozen? ⟨w.heap.size + 1, 0, none⟩ = false := f_b
      have V_r : w3.drew.frozen? ⟨w.heap.size + 1 + 1, 0, none⟩ = false := f_r
      have GD := Lib.hid (Gr.refl w3).drew
      clear k_a k_b k_r f_a f_b f_r
      go_region_with (go_at_call 71; refine (mrest_v (NX.out.1.grow GD.out) (NY.out.1.grow GD.out) HX.out HY.out HYP.out).mono ?_; rintro e y1 ⟨p3, n3, c3, rfl, hr, hg1⟩; have z_a := hg1.cell Z_a; have z_b := hg1.cell Z_b; have z_r := hg1.cell Z_r; have v_a := hg1.frozen Z_a V_a; have v_b := hg1.frozen Z_b V_b; have v_r := hg1.frozen Z_r V_r; have g1 := Lib.hid (GD.out.trans hg1); have R1 := Lib.hid (hr.mono HSZ.out); clear hr hg1)
      all_goals
        have HLT := Lib.hid (Nat.mod_lt x' HYP.out)
        have HXY := Lib.hid (Nat.lt_trans HLT.out HY.out)
        have HGC2 : Hid (Nat.gcd y' (x' % y') = Nat.gcd x y) := Lib.hid (by rw [← HGC.out, Nat.gcd_comm x' y', Nat.gcd_rec y' x', Nat.gcd_comm y'])
        go_wp2
        go_roundw
        case rel =>
          refine ⟨y', x' % y', p2, p3, n2, c2, n3, c3, HY, HXY, HGC2, ?_, ?_, ?_, setCell_frozen (setCell_frozen v_a), setCell_frozen (setCell_frozen v_b), setCell_frozen (setCell_frozen v_r), ((NY.out.grow g1.out).set (by dsimp only; omega) (by dsimp only; omega) _).set (by dsimp only; omega) (by dsimp only; omega) _, ((Nx.nr R1.out).set (by dsimp only; omega) (by dsimp only; omega) _).set (by dsimp only; omega) (by dsimp only; omega) _, ((G.out.trans g1.out).setCell (by dsimp only; omega) _).setCell (by dsimp only; omega) _⟩
          · first | exact setCell_ne (by dsimp only; omega) (setCell_at z_a) | exact setCell_at (setCell_ne (by dsimp only; omega) z_a)
          · first | exact setCell_at (setCell_ne (by dsimp only; omega) z_b) | exact setCell_ne (by dsimp only; omega) (setCell_at z_b)
          · exact setCell_ne (by dsimp only; omega) (setCell_ne (by dsimp only; omega) z_r)
        case measure =>
          rw [HMe.out]
          first
          | (rw [numAt_eq (setCell_at (setCell_ne (by dsimp only; omega) z_b)) (((Nx.nr (lo := w.heap.size) R1.out).set (by dsimp only; omega) (by dsimp only; omega) _).set (by dsimp only; omega) (by dsimp only; omega) _).1, val_digs]; exact HLT.out)
          | (rw [numAt_eq (setCell_ne (by dsimp only; omega) (setCell_at z_b)) (((Nx.nr (lo := w.heap.size) R1.out).set (by dsimp only; omega) (by dsimp only; omega) _).set (by dsimp only; omega) (by dsimp only; omega) _).1, val_digs]; exact HLT.out)
end Go.Proofs.Ytlciocebbckdcaa.Mo


/- Euclid's algorithm with the signs kept apart, as plain numbers. -/
namespace Go.Proofs.Ytlciocebbckdcaa.Mo

def sg (n : Bool) : Int := if n then -1 else 1
theorem sg_not (n : Bool) : sg (!n) = - sg n := by cases n <;> rfl
structure EInv (a m r0 x0 : Nat) (n0 : Bool) (r1 x1 : Nat) (n1 : Bool) : Prop where
  gcd : Nat.gcd r0 r1 = Nat.gcd a m
  det : x0 * r1 + x1 * r0 = m
  last : (m : Int) ∣ (r0 : Int) - sg n0 * ((x0 : Int) * a)
  back : (m : Int) ∣ (r0 : Int) - sg (!n1) * ((x0 : Int) * a)
  now : (m : Int) ∣ (r1 : Int) - sg n1 * ((x1 : Int) * a)
  le0 : x0 ≤ m
  small : r0 ≤ m
  lt : r1 < r0
  one : m = 1 → x0 = 0 ∧ n0 = false ∧ r1 = 0
theorem EInv.start {a m : Nat} (h : a < m) : EInv a m m 0 false a 1 false :=
  ⟨Nat.gcd_comm m a, by simp, ⟨1, by simp⟩, ⟨1, by simp⟩, ⟨0, by simp [sg]⟩, Nat.zero_le _, Nat.le_refl _, h, fun e => ⟨rfl, rfl, by omega⟩⟩
theorem EInv.fits {a m r0 x0 r1 x1 : Nat} {n0 n1 : Bool} (h : EInv a m r0 x0 n0 r1 x1 n1) (h1 : 0 < r1) : x1 ≤ m ∧ r0 / r1 * x1 ≤ m ∧ x0 + r0 / r1 * x1 ≤ m := by
  have hd := h.det
  have hlt := h.lt
  have e1 : x1 ≤ x1 * r0 := Nat.le_mul_of_pos_right _ (by omega)
  have e2 : r0 / r1 * r1 ≤ r0 := Nat.div_mul_le_self r0 r1
  have e3 : x1 * (r0 / r1 * r1) ≤ x1 * r0 := Nat.mul_le_mul_left _ e2
  have e4 : r0 / r1 * x1 ≤ x1 * (r0 / r1 * r1) := by
    rw [Nat.mul_comm (r0 / r1) x1]
    exact Nat.mul_le_mul_left _ (Nat.le_mul_of_pos_right _ h1)
  have e5 : x0 ≤ x0 * r1 := Nat.le_mul_of_pos_right _ h1
  exact ⟨by omega, by omega, by omega⟩
theorem EInv.step {a m r0 x0 r1 x1 : Nat} {n0 n1 : Bool} (h : EInv a m r0 x0 n0 r1 x1 n1) (h1 : 0 < r1) : EInv a m r1 x1 n1 (r0 % r1) (x0 + r0 / r1 * x1) (!n1) := by
  have hq := Nat.div_add_mod r0 r1
  refine ⟨?_, ?_, h.now, by rw [Bool.not_not]; exact h.now, ?_, (h.fits h1).1, Nat.le_of_lt (Nat.lt_of_lt_of_le h.lt h.small), Nat.mod_lt _ h1, fun e => ?_⟩
  · rw [← h.gcd, Nat.gcd_comm r0 r1, Nat.gcd_rec r1 r0, Nat.gcd_comm r1]
  · have hd := h.det
    rw [Nat.add_mul]
    have e1 : r0 / r1 * x1 * r1 = x1 * (r1 * (r0 / r1)) := by rw [Nat.mul_comm (r0 / r1) x1, Nat.mul_assoc, Nat.mul_comm r1]
    have e2 : x1 * r0 = x1 * (r1 * (r0 / r1)) + x1 * (r0 % r1) := by rw [← Nat.mul_add, hq]
    omega
  · obtain ⟨u, hu⟩ := h.back
    obtain ⟨v, hv⟩ := h.now
    refine ⟨u - (r0 / r1 : Nat) * v, ?_⟩
    have hq2 : (r0 : Int) = r1 * (r0 / r1 : Nat) + (r0 % r1 : Nat) := by exact_mod_cast hq.symm
    rw [Int.mul_sub, ← hu, show (m : Int) * ((r0 / r1 : Nat) * v) = (r0 / r1 : Nat) * (m * v) by rw [← Int.mul_assoc, Int.mul_comm (m : Int), Int.mul_assoc], ← hv, sg_not]
    generalize hQ : ((r0 / r1 : Nat) : Int) = Q at hq2 ⊢
    have hc : ((x0 + r0 / r1 * x1 : Nat) : Int) = x0 + Q * x1 := by rw [← hQ]; push_cast; rfl
    rw [hc, hq2]
    generalize sg n1 = s
    have e1 : -s * ((↑x0 + Q * ↑x1) * (a : Int)) = -s * (↑x0 * ↑a) + -s * (Q * ↑x1 * ↑a) := by rw [Int.add_mul, Int.mul_add]
    have e2 : Q * (↑r1 - s * (↑x1 * (a : Int))) = r1 * Q + -s * (Q * ↑x1 * ↑a) := by
      rw [Int.mul_sub, Int.mul_comm Q ↑r1, Int.sub_eq_add_neg]
      congr 1
      rw [Int.neg_mul, ← Int.mul_assoc Q s, Int.mul_comm Q s, Int.mul_assoc s, Int.mul_assoc Q]
    rw [e1, e2]
    omega
  · have := (h.one e).2.2
    omega
theorem EInv.gcd_end {a m r0 x0 x1 : Nat} {n0 n1 : Bool} (h : EInv a m r0 x0 n0 0 x1 n1) : r0 = Nat.gcd a m := by have := h.gcd; rwa [Nat.gcd_zero_right] at this
/-- What is found. -/
def IsInv (a m z : Nat) : Prop := z < m ∧ a * z % m = 1 % m
theorem isInv_of {a m z : Nat} (hz : z < m) (h : (m : Int) ∣ 1 - (a : Int) * z) : IsInv a m z := by
  refine ⟨hz, ?_⟩
  have h1 : ((1 : Int) - (a : Int) * z) % m = 0 := Int.emod_eq_zero_of_dvd h
  have h2 := Int.emod_eq_emod_iff_emod_sub_eq_zero.2 h1
  exact_mod_cast h2.symm
theorem not_dvd_one {m : Nat} (h : m ≠ 1) (k : Int) : (1 : Int) ≠ m * k := by
  intro e
  have : (m : Int) ∣ 1 := ⟨k, e⟩
  have h2 : m ∣ 1 := by exact_mod_cast this
  exact h (Nat.dvd_one.1 h2)
theorem EInv.inv_end {a m x0 x1 : Nat} {n0 n1 : Bool} (hm : 0 < m) (h : EInv a m 1 x0 n0 0 x1 n1) : IsInv a m (if n0 then m - x0 else x0) := by
  by_cases h1 : m = 1
  · obtain ⟨rfl, rfl, _⟩ := h.one h1
    subst h1
    exact ⟨by decide, by simp⟩
  · have hle := h.le0
    obtain ⟨k, hk⟩ := h.last
    have h0 : x0 ≠ 0 := by
      intro e
      subst e
      exact not_dvd_one h1 k (by simpa using hk)
    cases n0 with
    | true =>
      simp only [if_true]
      refine isInv_of (by omega) ⟨k - a, ?_⟩
      have e : ((m - x0 : Nat) : Int) = m - x0 := by omega
      rw [e, Int.mul_sub, Int.mul_sub, ← hk, Int.mul_comm (m : Int) a]
      simp only [sg, if_true]
      rw [Int.mul_comm (x0 : Int) a]
      omega
    | false =>
      have hne : x0 ≠ m := by
        intro e
        subst e
        have : (1 : Int) = x0 * (k + a) := by
          rw [Int.mul_add, ← hk]
          simp only [sg, Bool.false_eq_true, if_false]
          omega
        exact not_dvd_one h1 _ this
      show IsInv a m x0
      refine isInv_of (by omega) ⟨k, ?_⟩
      rw [← hk]
      simp only [sg, Bool.false_eq_true, if_false]
      rw [Int.mul_comm (x0 : Int) a]
      omega
end Go.Proofs.Ytlciocebbckdcaa.Mo


/- Words that do not lie in a block; the three cells of a step. -/
namespace Go.Proofs.Ytlciocebbckdcaa.Kr
open Go Go.RowKit Go.Proofs.Ytlciocebbckdcaa.Nm Go.Proofs.Ytlciocebbckdcaa.Ne Go.Proofs.Ytlciocebbckdcaa.Nf Go.Proofs.Ytlciocebbckdcaa.Nk Go.Proofs.Ytlciocebbckdcaa.Nr2

/-- Words that do not lie in block b. -/
def Av (b : Nat) (p : Option Addr) (l : List Nat) : Prop := ∀ x : Addr, p = some x → x.block ≠ b ∨ l = []
theorem av_new {W : World} {p : Option Addr} {n c b : Nat} {l : List Nat} (h : Nw W p n c l) (hb : W.heap.size ≤ b) : Av b p l := by
  intro x e
  by_cases h0 : l = []
  · exact .inr h0
  · obtain ⟨b', off, e2, hc⟩ := h.rd.at (List.length_pos_iff.2 h0)
    rw [e] at e2
    cases e2
    have := World.block_lt_of_cell? W _ (hc 0 (List.length_pos_iff.2 h0))
    exact .inl (by dsimp only at this ⊢; omega)
theorem av_nr {D b : Nat} {W : World} {p : Option Addr} {n c : Nat} {l : List Nat} (h : Nr D W p n c l) (hb : b < D) : Av b p l := by
  intro x e
  rcases h.own with h0 | ⟨b', off, e2, hb', _⟩
  · exact .inr h0
  · rw [e] at e2
    cases e2
    exact .inl (by dsimp only; omega)
theorem av_nil (b : Nat) (p : Option Addr) : Av b p [] := fun _ _ => .inr rfl
theorem av_none (b : Nat) (l : List Nat) : Av b none l := fun _ e => by cases e
theorem nw_none (W : World) : Nw W none 0 0 (digs 0) := by
  rw [digs_zero]
  exact ⟨rfl, Nat.le_refl _, fun _ => ⟨rfl, rfl⟩, .inl rfl, ok_nil, by decide⟩
theorem nw_put {W : World} {p : Option Addr} {n c : Nat} {l : List Nat} (h : Nw W p n c l) {a : Addr} (ha : Av a.block p l) (v : Value) : Nw (W.setCell a v) p n c l := by
  by_cases h0 : l = []
  · subst h0
    exact ⟨h.len, h.le, h.nil, .inl rfl, h.ok, h.small⟩
  · exact h.set a v fun x e => (ha x e).resolve_right h0
/-- W' is W but for writes into block b. -/
structure Off (b : Nat) (W W' : World) : Prop where
  cell : ∀ (a : Addr) (v : Value), a.block ≠ b → W.cell? a = some v → W'.cell? a = some v
  frz : ∀ (a : Addr), W.frozen? a = false → W'.frozen? a = false
  gr : ∀ w0 : World, w0.heap.size ≤ b → Gr w0 W → Gr w0 W'
  size : W'.heap.size = W.heap.size
  nw : ∀ (p : Option Addr) (n c : Nat) (l : List Nat), Av b p l → Nw W p n c l → Nw W' p n c l
theorem Off.refl (b : Nat) (W : World) : Off b W W := ⟨fun _ _ _ h => h, fun _ h => h, fun _ _ h => h, rfl, fun _ _ _ _ _ h => h⟩
theorem Off.set {b : Nat} {W W' : World} (h : Off b W W') (o : Nat) (v : Value) : Off b W (W'.setCell ⟨b, o, none⟩ v) :=
  ⟨fun a u hne hc => setCell_ne (fun e => hne e.symm) (h.cell a u hne hc), fun a hf => setCell_frozen (h.frz a hf), fun w0 h0 hg => (h.gr w0 h0 hg).setCell h0 v,
    (World.size_setCell ..).trans h.size, fun p n c l ha hw => nw_put (h.nw p n c l ha hw) ha v⟩
/-- The three cells of a step. -/
structure Stp (W : World) (B : Nat) (v0 v1 v2 : Value) : Prop where
  c0 : W.cell? ⟨B, 0, none⟩ = some v0
  c1 : W.cell? ⟨B, 1, none⟩ = some v1
  c2 : W.cell? ⟨B, 2, none⟩ = some v2
  f0 : W.frozen? ⟨B, 0, none⟩ = false
  f1 : W.frozen? ⟨B, 1, none⟩ = false
  f2 : W.frozen? ⟨B, 2, none⟩ = false
theorem Stp.grow {W W' : World} {B : Nat} {v0 v1 v2 : Value} (h : Stp W B v0 v1 v2) (g : Gr W W') : Stp W' B v0 v1 v2 :=
  ⟨g.cell h.c0, g.cell h.c1, g.cell h.c2, g.frozen h.c0 h.f0, g.frozen h.c1 h.f1, g.frozen h.c2 h.f2⟩
theorem Stp.put {W : World} {B : Nat} {v0 v1 v2 : Value} (h : Stp W B v0 v1 v2) (u0 u1 u2 : Value) : Stp (((W.setCell ⟨B, 0, none⟩ u0).setCell ⟨B, 1, none⟩ u1).setCell ⟨B, 2, none⟩ u2) B u0 u1 u2 := by
  have h0 : (W.setCell ⟨B, 0, none⟩ u0).cell? ⟨B, 0, none⟩ = some u0 := setCell_at h.c0
  have h1 : (W.setCell ⟨B, 0, none⟩ u0).cell? ⟨B, 1, none⟩ = some v1 := (World.cell?_setCell_other _ _ _ _ (by simp)).trans h.c1
  have h2 : (W.setCell ⟨B, 0, none⟩ u0).cell? ⟨B, 2, none⟩ = some v2 := (World.cell?_setCell_other _ _ _ _ (by simp)).trans h.c2
  have i0 : ((W.setCell ⟨B, 0, none⟩ u0).setCell ⟨B, 1, none⟩ u1).cell? ⟨B, 0, none⟩ = some u0 := (World.cell?_setCell_other _ _ _ _ (by simp)).trans h0
  have i1 : ((W.setCell ⟨B, 0, none⟩ u0).setCell ⟨B, 1, none⟩ u1).cell? ⟨B, 1, none⟩ = some u1 := setCell_at h1
  have i2 : ((W.setCell ⟨B, 0, none⟩ u0).setCell ⟨B, 1, none⟩ u1).cell? ⟨B, 2, none⟩ = some v2 := (World.cell?_setCell_other _ _ _ _ (by simp)).trans h2
  exact ⟨(World.cell?_setCell_other _ _ _ _ (by simp)).trans i0, (World.cell?_setCell_other _ _ _ _ (by simp)).trans i1, setCell_at i2, setCell_frozen (setCell_frozen (setCell_frozen h.f0)), setCell_frozen (setCell_frozen (setCell_frozen h.f1)), setCell_frozen (setCell_frozen (setCell_frozen h.f2))⟩
theorem Stp.off {W W' : World} {b B : Nat} {v0 v1 v2 : Value} (h : Stp W B v0 v1 v2) (o : Off b W W') (hne : B ≠ b) : Stp W' B v0 v1 v2 :=
  ⟨o.cell _ _ hne h.c0, o.cell _ _ hne h.c1, o.cell _ _ hne h.c2, o.frz _ h.f0, o.frz _ h.f1, o.frz _ h.f2⟩
theorem Stp.lt {W : World} {B : Nat} {v0 v1 v2 : Value} (h : Stp W B v0 v1 v2) : B < W.heap.size := World.block_lt_of_cell? _ _ h.c0

/-- A value that is no integer. -/
def noInt : Value → Bool
  | .int _ _ => false
  | _ => true
theorem nw_off {W : World} {p : Option Addr} {n c : Nat} {l : List Nat} (h : Nw W p n c l) {a : Addr} {v0 : Value} (hk : W.cell? a = some v0) (hv : noInt v0 = true) (v : Value) : Nw (W.setCell a v) p n c l := by
  refine ⟨h.len, h.le, h.nil, ?_, h.ok, h.small⟩
  rcases h.rd with h0 | ⟨b, off, rfl, hc⟩
  · exact .inl h0
  · refine .inr ⟨b, off, rfl, fun i hi => ?_⟩
    rw [World.cell?_setCell_other _ _ _ _ (fun e => ?_)]
    · exact hc i hi
    · have h1 := hc i hi
      rw [← e, hk] at h1
      cases h1
      cases hv
/-- A number has been handed back (its words may be anybody's). -/
def Has (z : Nat) (w : World) (e : Ending) (w' : World) : Prop :=
  ∃ (p : Option Addr) (n c : Nat), e = .returned (.agg #[.slice p n c]) ∧ Nw w' p n c (digs z) ∧ Gr w w'
theorem num_has {z : Nat} {w : World} {e : Ending} {w' : World} (h : Num z w e w') : Has z w e w' := by
  obtain ⟨p, n, c, h1, h2, h3⟩ := h
  exact ⟨p, n, c, h1, h2.toNw, h3⟩
/-- A number and an error number. -/
def HasE (z k : Nat) (w : World) (e : Ending) (w' : World) : Prop :=
  ∃ (p : Option Addr) (n c : Nat), e = .returned (.tuple #[.agg #[.slice p n c], .int .i64 (k : Int)]) ∧ Nw w' p n c (digs z) ∧ Gr w w'
theorem gives_has {z k : Nat} {w : World} {e : Ending} {w' : World} (h : Nv.Gives z k w e w') : HasE z k w e w' := by
  obtain ⟨p, n, c, h1, h2, h3⟩ := h
  exact ⟨p, n, c, h1, h2.toNw, h3⟩
end Go.Proofs.Ytlciocebbckdcaa.Kr
