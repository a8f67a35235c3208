/- A part of the proofs, joined of smaller texts: Ndivide, Ndiv, Ngreat, Nref, Nref2, Nis, Nv, Nrtrim, Ma, Mb, Mc, Md, Me, Kmem, Nrof, Nequal, Nrcmp, Nrbld, Kst, Kr2, Kr3, Fb, Fc, Fd, Fe, Ff, Fg, Fh, Fl, Fs, Fj. -/
import Derived.Test.YtlciocebbckdcaaPn1
import Derived.Laws.AppendOwnNone
import Derived.Deep.RegionHeld3
import Derived.Deep.Cut
import Derived.Deep.Onto
import Derived.Deep.AppendLies
import Derived.Shelf.RegionOpenPlain
import Derived.Deep.LoopGhost
import Derived.Sort.WalkB12
import Derived.Lib.SlicesMore
import Derived.Laws.Concat
import Derived.Laws.IdiomStrings

/- The contract of natural's divide: Knuth's algorithm D. -/
namespace Go.Proofs.Ytlciocebbckdcaa.Nk
open Go.RowKit Go.Shelf Go.Proofs.Ytlciocebbckdcaa.Nm Go.Proofs.Ytlciocebbckdcaa.Ne Go.Proofs.Ytlciocebbckdcaa.Nf

attribute [local go_sem] Oper.semAt_some

/-- What divide has handed back. -/
def DivAt (l k : List Nat) (w : World) (e : Ending) (w' : World) : Prop :=
  ∃ (p1 p2 : Option Addr) (c1 c2 : Nat) (r1 r2 : List Nat), e = .returned (.tuple #[.slice p1 r1.length c1, .slice p2 r2.length c2]) ∧ r1.length ≤ c1 ∧ r2.length ≤ c2 ∧ r1.length ≤ 1000 ∧ r2.length ≤ 1000 ∧ (p1 = none → r1.length = 0 ∧ c1 = 0) ∧ (p2 = none → r2.length = 0 ∧ c2 = 0) ∧ ok r1 ∧ ok r2 ∧
    val r1 = val l / val k ∧ val r2 = val l % val k ∧ Ne.Own w.heap.size w' p1 r1 ∧ Ne.Own w.heap.size w' p2 r2 ∧ Gr w w'

/-- Behind the shifts: the boxes, the shifted words. -/
def Shifted (w : World) (n n2 t : Nat) (l k : List Nat) (s8 : Value) (W : World) : Prop :=
  ∃ (X gr gb cr cb : Nat) (R D : List Nat), s8 = .pointer (some ⟨X, 0, none⟩) ∧ X ≠ gr ∧ X ≠ gb ∧ gr ≠ gb ∧ w.heap.size + 1 + 1 < X ∧ w.heap.size + 1 + 1 < gr ∧ w.heap.size + 1 + 1 < gb ∧
    (W.cell? ⟨w.heap.size, 0, none⟩ = some (.slice none 0 0) ∧ W.frozen? ⟨w.heap.size, 0, none⟩ = false) ∧ (W.cell? ⟨w.heap.size + 1, 0, none⟩ = some (.slice (some ⟨gr, 0, none⟩) (n + 1) cr) ∧ W.frozen? ⟨w.heap.size + 1, 0, none⟩ = false) ∧
    W.cell? ⟨w.heap.size + 1 + 1, 0, none⟩ = some (.int .i64 n2) ∧ W.cell? ⟨X, 0, none⟩ = some (.slice (some ⟨gb, 0, none⟩) n2 cb) ∧
    R.length = n + 1 ∧ D.length = n2 + 1 ∧ n + 1 ≤ cr ∧ n2 + 1 ≤ cb ∧ ok R ∧ ok D ∧ val R = val l * 2 ^ t ∧ val D = val k * 2 ^ t ∧ Hold W gr 0 R ∧ Hold W gb 0 D ∧ Gr w W

theorem own_keeps {B : Nat} {W W' : World} {p : Option Addr} {l : List Nat} (h : Ne.Own B W p l) (k : ∀ (a : Addr) (v : Value), W.cell? a = some v → W'.cell? a = some v ∧ W'.frozen? a = W.frozen? a) : Ne.Own B W' p l := by
  rcases h with rfl | ⟨b, off, rfl, hb, hc⟩
  · exact .inl rfl
  · exact .inr ⟨b, off, rfl, hb, fun i hi => ⟨(k _ _ (hc i hi).1).1, (k _ _ (hc i hi).1).2.trans (hc i hi).2⟩⟩
theorem own_set {B : Nat} {W : World} {p : Option Addr} {l : List Nat} (h : Ne.Own B W p l) (a : Addr) (v : Value) (ha : a.block < B) : Ne.Own B (W.setCell a v) p l := by
  rcases h with rfl | ⟨b, off, rfl, hb, hc⟩
  · exact .inl rfl
  · exact .inr ⟨b, off, rfl, hb, fun i hi => ⟨setCell_ne (by dsimp only; omega) (hc i hi).1, setCell_frozen (hc i hi).2⟩⟩
theorem ib_of {j c : Nat} (h : j + 1 + 1 ≤ c) : (j : Int) + 1 ≤ (c : Int) := by omega

set_option maxRecDepth 100000 in
set_option maxHeartbeats 8000000 in
theorem divide_any (p q : Option Addr) (n m c d : Nat) (l k : List Nat) (w : World) (hl : Nw w p n c l) (hk : Nw w q m d k) (hm0 : 0 < m) (hmn : m ≤ n) (hn : n ≤ 64) (htk : Nm.tight k) :
    Calls Try.prog 94 #[.slice p n c, .slice q m d] w (DivAt l k w) := by
  obtain ⟨j, rfl⟩ : ∃ j, m = j + 1 := ⟨m - 1, by omega⟩
  have HL := Lib.hid hl
  have HK := Lib.hid hk
  have HTK := Lib.hid htk
  have G0 := Lib.hid ((((Gr.refl w).alloc (.cells #[.slice none 0 0] 22)).alloc (.cells #[.slice none 0 0] 22)).alloc (.cells #[.int .i64 ((j : Int) + 1)] 3))
  obtain ⟨b, off, rfl, hc⟩ := hk.rd.at (by rw [hk.len]; omega)
  have hcj := hc j (by rw [hk.len]; omega)
  have hb : b < w.heap.size := World.block_lt_of_cell? w _ hcj
  have hb2 : b < w.heap.size + 1 := by omega
  have hb3 : b < w.heap.size + 1 + 1 := by omega
  have hx := ok_get hk.ok j
  have hx0 : k[j]?.getD 0 ≠ 0 := by
    rcases htk with h | h
    · rw [hk.len] at h; omega
    · rw [hk.len] at h; exact h
  have hbl := Lib.bitLen_le (k[j]?.getD 0) 32 (by omega) (by omega)
  have hb1 := (Lib.bitLenAux_bounds 64 (k[j]?.getD 0) (by omega) hx0).1
  change 1 ≤ Lib.bitLen _ at hb1
  have hb2' := (Lib.bitLenAux_bounds 64 (k[j]?.getD 0) (by omega) hx0).2.2
  change _ < 2 ^ Lib.bitLen _ at hb2'
  have HKT : Hid (val k * 2 ^ (32 - Lib.bitLen (k[j]?.getD 0)) < pw (j + 1)) := Lib.hid (shift_fits hk.ok hk.len rfl hb2' hbl rfl)
  clear hb2'
  have HLZ := Lib.hid (fun w => Nb.leading32 ((k[j]?.getD 0 : Nat) : Int) w (by omega) (by omega))
  simp only [Int.toNat_natCast] at HLZ
  generalize k[j]?.getD 0 = x at *
  generalize Lib.bitLen x = B at *
  obtain ⟨t, ht⟩ : ∃ t : Nat, t = 32 - B := ⟨_, rfl⟩
  rw [← ht] at HKT
  have ht32 : t < 32 := by omega
  have HT : Hid ((32 : Int) - (B : Int) = (t : Int)) := Lib.hid (by omega)
  rw [HT.out] at HLZ
  clear hl hk htk hc hx hx0 hbl hb1 ht HT
  have HU1 := Lib.hid (fun W (hW : Gr w W) => up_small p l n c t ht32 W (HL.out.grow hW))
  have HU2 := Lib.hid (fun W (hW : Gr w W) => up_small (some ⟨b, off, none⟩) k (j + 1) d t ht32 W (HK.out.grow hW))
  refine (callsIn_wide (n := 3)).1 ?_
  have t1 : Fence.wide.fn 131 := trivial
  have h1 : 1 ≤ 3 := by decide
  refine callsIn_of_wp_marks Try.func94 rfl trivial ?_ rfl
  simp only [Try.ntmps94, List.size_toArray, List.length_cons, List.length_nil, Nat.reduceAdd, Nat.reduceSub, Array.replicate_succ, Array.replicate_zero, List.push_toArray, List.append_toArray, List.nil_append, List.cons_append]
  refine wpIn_wide.2 ?_
  go_wp2_with fail
  refine (HLZ.out _).mono ?_
  rintro e w1 ⟨rfl, rfl⟩
  go_upto_region 3 with fail
  go_cut [8] from 18 to 25 (fun s8 W => Shifted w n (j + 1) t l k s8 W)
  case first =>
    have G00 := G0.out
    have ib0 : (0 : Int) ≤ (j : Int) + 1 := by omega
    have Z0 : (((w.alloc (.cells #[.slice none 0 0] 22)).alloc (.cells #[.slice none 0 0] 22)).alloc (.cells #[.int .i64 ((j : Int) + 1)] 3)).drew.cell? ⟨w.heap.size, 0, none⟩ = some (.slice none 0 0) := by simp [go_sem]
    have Z1 : (((w.alloc (.cells #[.slice none 0 0] 22)).alloc (.cells #[.slice none 0 0] 22)).alloc (.cells #[.int .i64 ((j : Int) + 1)] 3)).drew.cell? ⟨w.heap.size + 1, 0, none⟩ = some (.slice none 0 0) := by simp [go_sem]
    have Z2 : (((w.alloc (.cells #[.slice none 0 0] 22)).alloc (.cells #[.slice none 0 0] 22)).alloc (.cells #[.int .i64 ((j : Int) + 1)] 3)).drew.cell? ⟨w.heap.size + 1 + 1, 0, none⟩ = some (.int .i64 ((j : Int) + 1)) := by simp [go_sem]
    have Y0 : (((w.alloc (.cells #[.slice none 0 0] 22)).alloc (.cells #[.slice none 0 0] 22)).alloc (.cells #[.int .i64 ((j : Int) + 1)] 3)).drew.frozen? ⟨w.heap.size, 0, none⟩ = false := by simp [go_sem]
    have Y1 : (((w.alloc (.cells #[.slice none 0 0] 22)).alloc (.cells #[.slice none 0 0] 22)).alloc (.cells #[.int .i64 ((j : Int) + 1)] 3)).drew.frozen? ⟨w.heap.size + 1, 0, none⟩ = false := by simp [go_sem]
    have ZXa : ((((w.alloc (.cells #[.slice none 0 0] 22)).alloc (.cells #[.slice none 0 0] 22)).alloc (.cells #[.int .i64 ((j : Int) + 1)] 3)).drew.alloc (.cells #[.slice none 0 0] 22)).cell? ⟨w.heap.size + 1 + 1 + 1, 0, none⟩ = some (.slice none 0 0) := by simp [go_sem]
    have ZXb : ((((w.alloc (.cells #[.slice none 0 0] 22)).alloc (.cells #[.slice none 0 0] 22)).alloc (.cells #[.int .i64 ((j : Int) + 1)] 3)).alloc (.cells #[.slice none 0 0] 22)).drew.cell? ⟨w.heap.size + 1 + 1 + 1, 0, none⟩ = some (.slice none 0 0) := by simp [go_sem]
    have YXa : ((((w.alloc (.cells #[.slice none 0 0] 22)).alloc (.cells #[.slice none 0 0] 22)).alloc (.cells #[.int .i64 ((j : Int) + 1)] 3)).drew.alloc (.cells #[.slice none 0 0] 22)).frozen? ⟨w.heap.size + 1 + 1 + 1, 0, none⟩ = false := by simp [go_sem]
    have YXb : ((((w.alloc (.cells #[.slice none 0 0] 22)).alloc (.cells #[.slice none 0 0] 22)).alloc (.cells #[.int .i64 ((j : Int) + 1)] 3)).alloc (.cells #[.slice none 0 0] 22)).drew.frozen? ⟨w.heap.size + 1 + 1 + 1, 0, none⟩ = false := by simp [go_sem]
    have ZX2 : ((((w.alloc (.cells #[.slice none 0 0] 22)).alloc (.cells #[.slice none 0 0] 22)).alloc (.cells #[.int .i64 ((j : Int) + 1)] 3)).alloc (.cells #[.slice none 0 0] 22)).drew.cell? ⟨w.heap.size + 1 + 1, 0, none⟩ = some (.int .i64 ((j : Int) + 1)) := by simp [go_sem]
    go_region_held3 (fun w' => w'.cell? ⟨w.heap.size + 1 + 1, 0, none⟩ = some (.int .i64 ((j : Int) + 1)) ∧ Gr w w')
      (first | exact ⟨Z2, G00.drew⟩ | (constructor <;> assumption) | (constructor; (repeat' (first | assumption | exact Z2 | refine alloc_cell ?_ | refine setCell_ne ?_ ?_ | refine drew_cell ?_ | (simp; done) | (dsimp only; omega))); (repeat' (first | assumption | exact G00.drew | refine Gr.alloc ?_ _ | refine Gr.setCell ?_ ?_ _ | refine Gr.drew ?_ | (simp; done) | (dsimp only; omega) | omega))))
      (first
      | (go_at_call_of 117 c; refine (HU1.out _ ?_).mono ?_; (first | exact G00 | exact G00.drew | exact Gr.alloc G00.drew _ | exact (Gr.alloc G00 _).drew | assumption | (refine Gr.alloc ?_ _; assumption)); rintro e w' ⟨ga, ca, ra, rfl, ea1, ea2, ea3, ea4, ea5, ea6, ea7⟩; (first | (have za0 := ea7.cell Z0; have za1 := ea7.cell Z1; have za2 := ea7.cell Z2; have ya0 := ea7.frozen Z0 Y0; have ya1 := ea7.frozen Z1 Y1; have gag := Gr.trans G00.drew ea7) | (have za0 := ea7.cell (Gr.cell ((Gr.refl _).alloc _) Z0); have za1 := ea7.cell (Gr.cell ((Gr.refl _).alloc _) Z1); have za2 := ea7.cell (Gr.cell ((Gr.refl _).alloc _) Z2); have ya0 := ea7.frozen (Gr.cell ((Gr.refl _).alloc _) Z0) (Gr.frozen ((Gr.refl _).alloc _) Z0 Y0); have ya1 := ea7.frozen (Gr.cell ((Gr.refl _).alloc _) Z1) (Gr.frozen ((Gr.refl _).alloc _) Z1 Y1); have gag := Gr.trans (Gr.alloc G00.drew _) ea7) | (have za0 := ea7.cell zb0; have za1 := ea7.cell zb1; have za2 := ea7.cell zb2; have ya0 := ea7.frozen zb0 yb0; have ya1 := ea7.frozen zb1 yb1; have gag := Gr.trans gbg ea7) | (have za0 := ea7.cell (Gr.cell ((Gr.refl _).alloc _) zb0); have za1 := ea7.cell (Gr.cell ((Gr.refl _).alloc _) zb1); have za2 := ea7.cell (Gr.cell ((Gr.refl _).alloc _) zb2); have ya0 := ea7.frozen (Gr.cell ((Gr.refl _).alloc _) zb0) (Gr.frozen ((Gr.refl _).alloc _) zb0 yb0); have ya1 := ea7.frozen (Gr.cell ((Gr.refl _).alloc _) zb1) (Gr.frozen ((Gr.refl _).alloc _) zb1 yb1); have gag := Gr.trans (Gr.alloc gbg _) ea7)); (first | (have zxa := ea7.cell ZXa; have yxa := ea7.frozen ZXa YXa) | (have zxa := ea7.cell ZXb; have yxa := ea7.frozen ZXb YXb) | (have zxa := ea7.cell (cell_new1 _ _ _ _ rfl); have yxa := ea7.frozen (cell_new1 _ _ _ _ rfl) (frozen_new1 _ _ _)) | (have zxa := ea7.cell zxb; have yxa := ea7.frozen zxb yxb) | skip); (first | (have txa := World.block_lt_of_cell? _ _ zxa) | skip); have ta0 : w.heap.size < w'.heap.size := World.block_lt_of_cell? _ _ za0; have ta1 : w.heap.size + 1 < w'.heap.size := World.block_lt_of_cell? _ _ za1; have ta2 : w.heap.size + 1 + 1 < w'.heap.size := World.block_lt_of_cell? _ _ za2; have na1 : (w'.heap.size = w.heap.size + 1) = False := eq_false (Nat.ne_of_gt ta1); have na2 : (w.heap.size + 1 = w'.heap.size) = False := eq_false (Nat.ne_of_lt ta1); have na3 : (w'.heap.size = w.heap.size + 1 + 1) = False := eq_false (Nat.ne_of_gt ta2); have na4 : (w.heap.size + 1 + 1 = w'.heap.size) = False := eq_false (Nat.ne_of_lt ta2))
      | (go_at_call_of 117 d; refine (HU2.out _ ?_).mono ?_; (first | exact G00 | exact G00.drew | exact Gr.alloc G00.drew _ | exact (Gr.alloc G00 _).drew | assumption | (refine Gr.alloc ?_ _; assumption)); rintro e w' ⟨gb, cb, rb, rfl, eb1, eb2, eb3, eb4, eb5, eb6, eb7⟩; (first | (have zb0 := eb7.cell Z0; have zb1 := eb7.cell Z1; have zb2 := eb7.cell Z2; have yb0 := eb7.frozen Z0 Y0; have yb1 := eb7.frozen Z1 Y1; have gbg := Gr.trans G00.drew eb7) | (have zb0 := eb7.cell (Gr.cell ((Gr.refl _).alloc _) Z0); have zb1 := eb7.cell (Gr.cell ((Gr.refl _).alloc _) Z1); have zb2 := eb7.cell (Gr.cell ((Gr.refl _).alloc _) Z2); have yb0 := eb7.frozen (Gr.cell ((Gr.refl _).alloc _) Z0) (Gr.frozen ((Gr.refl _).alloc _) Z0 Y0); have yb1 := eb7.frozen (Gr.cell ((Gr.refl _).alloc _) Z1) (Gr.frozen ((Gr.refl _).alloc _) Z1 Y1); have gbg := Gr.trans (Gr.alloc G00.drew _) eb7) | (have zb0 := eb7.cell za0; have zb1 := eb7.cell za1; have zb2 := eb7.cell za2; have yb0 := eb7.frozen za0 ya0; have yb1 := eb7.frozen za1 ya1; have gbg := Gr.trans gag eb7) | (have zb0 := eb7.cell (Gr.cell ((Gr.refl _).alloc _) za0); have zb1 := eb7.cell (Gr.cell ((Gr.refl _).alloc _) za1); have zb2 := eb7.cell (Gr.cell ((Gr.refl _).alloc _) za2); have yb0 := eb7.frozen (Gr.cell ((Gr.refl _).alloc _) za0) (Gr.frozen ((Gr.refl _).alloc _) za0 ya0); have yb1 := eb7.frozen (Gr.cell ((Gr.refl _).alloc _) za1) (Gr.frozen ((Gr.refl _).alloc _) za1 ya1); have gbg := Gr.trans (Gr.alloc gag _) eb7)); (first | (have zxb := eb7.cell ZXa; have yxb := eb7.frozen ZXa YXa) | (have zxb := eb7.cell ZXb; have yxb := eb7.frozen ZXb YXb) | (have zxb := eb7.cell (cell_new1 _ _ _ _ rfl); have yxb := eb7.frozen (cell_new1 _ _ _ _ rfl) (frozen_new1 _ _ _)) | (have zxb := eb7.cell zxa; have yxb := eb7.frozen zxa yxa) | skip); (first | (have txb := World.block_lt_of_cell? _ _ zxb) | skip); have tb0 : w.heap.size < w'.heap.size := World.block_lt_of_cell? _ _ zb0; have tb1 : w.heap.size + 1 < w'.heap.size := World.block_lt_of_cell? _ _ zb1; have tb2 : w.heap.size + 1 + 1 < w'.heap.size := World.block_lt_of_cell? _ _ zb2; have nb1 : (w'.heap.size = w.heap.size + 1) = False := eq_false (Nat.ne_of_gt tb1); have nb2 : (w.heap.size + 1 = w'.heap.size) = False := eq_false (Nat.ne_of_lt tb1); have nb3 : (w'.heap.size = w.heap.size + 1 + 1) = False := eq_false (Nat.ne_of_gt tb2); have nb4 : (w.heap.size + 1 + 1 = w'.heap.size) = False := eq_false (Nat.ne_of_lt tb2); have ib := ib_of eb2))
    all_goals
      have la := hold_lt ea6 (by omega)
      have lb := hold_lt eb6 (by omega)
      have hga : Hold w' ga 0 ra := by
        first
          | exact ea6.grow eb7
          | exact (hold_alloc ea6).grow eb7
      have l1 := ea7.le
      have l2 := eb7.le
      try simp at l1
      try simp at l2
      try simp at ea5
      try simp at eb5
      have h10 : w.heap.size + 1 ≠ w.heap.size := by omega
      have h12 : w.heap.size + 1 ≠ w.heap.size + 1 + 1 := by omega
      have h1a : w.heap.size + 1 ≠ ga := by omega
      have h1b : w.heap.size + 1 ≠ gb := by omega
      have hw1 : w.heap.size ≤ w.heap.size + 1 := by omega
      go_wp2_with fail
      go_meet
      refine ⟨_, ga, gb, ca, cb, ra, rb, rfl, ?_, ?_, ?_, ?_, ?_, ?_, ⟨?_, ?_⟩, ⟨?_, ?_⟩, ?_, ?_, ea1, eb1, ea2, eb2, ea3, eb3, ea4, eb4, ?_, ?_, ?_⟩
      · omega
      · omega
      · omega
      · omega
      · omega
      · omega
      · first
          | exact alloc_cell (setCell_ne h10 zb0)
          | (refine setCell_ne ?_ (setCell_ne h10 zb0); dsimp only; omega)
      · first
          | exact alloc_frozen (setCell_ne h10 zb0) (setCell_frozen yb0)
          | exact setCell_frozen (setCell_frozen yb0)
      · first
          | exact alloc_cell (setCell_at zb1)
          | (refine setCell_ne ?_ (setCell_at zb1); dsimp only; omega)
      · first
          | exact alloc_frozen (setCell_at zb1) (setCell_frozen yb1)
          | exact setCell_frozen (setCell_frozen yb1)
      · first
          | exact alloc_cell (setCell_ne h12 zb2)
          | (refine setCell_ne ?_ (setCell_ne h12 zb2); dsimp only; omega)
      · first
          | exact cell_newS _ _ _ _ _ _ rfl
          | (refine setCell_at (setCell_ne ?_ zxb); dsimp only; omega)
      · first
          | exact hold_alloc (hold_other h1a hga)
          | (refine hold_other ?_ (hold_other h1a hga); dsimp only; omega)
      · first
          | exact hold_alloc (hold_other h1b eb6)
          | (refine hold_other ?_ (hold_other h1b eb6); dsimp only; omega)
      · first
          | exact Gr.alloc (Gr.setCell gbg hw1 _) _
          | (refine Gr.setCell (Gr.setCell gbg hw1 _) ?_ _; dsimp only; omega)
  case rest =>
    obtain ⟨X, gr, gb, cr, cb, R, D, rfl, hXr, hXb, hrb, hXw, hrw, hbw, ⟨b0, f0⟩, ⟨b1, f1⟩, b2, bX, hRl, hDl, hRc, hDc, hRo, hDo, hRv, hDv, hHR, hHD, hG⟩ := hcut
    obtain ⟨i0, hi, hz0, hz1, hz2⟩ := info_parts infoW
    obtain ⟨m, hm⟩ : ∃ m : Nat, m = n - j := ⟨_, rfl⟩
    have hmi : (n : Int) - ((j : Int) + 1) + 1 = (m : Int) := by omega
    have hm1 : 1 ≤ m := by omega
    have hm64 : m ≤ 64 := by omega
    have HM := Lib.hid hm
    have HRL := Lib.hid hRl
    have HDL := Lib.hid hDl
    have HRO := Lib.hid hRo
    have HDO := Lib.hid hDo
    have HRV := Lib.hid hRv
    have HDV := Lib.hid hDv
    have HHR := Lib.hid hHR
    have HHD := Lib.hid hHD
    have HG := Lib.hid hG
    clear hRl hDl hRo hDo hRv hDv hHR hHD hG hm HU1 HU2 HLZ G0 hcj
    generalize wc = W1 at *
    have hXlt := World.block_lt_of_cell? W1 _ bX
    go_wp2_with (first
      | (refine wpList_make_full (o := ⟨some 31, _, _, _, _, _⟩) _ rfl _ _ _ rfl W1.heap.size 50 i0 (.int .u32 0) 1 Try.underlying22 hi hz0 hz1 .i64 .i64 _ _ m rfl rfl rfl rfl (by rw [hz2]; omega) (by unfold maxLen; omega) (Nat.le_refl _) ?_; intro w3 hown hgrow; have k0 := (Gr.grown hgrow).cell b0; have k1 := (Gr.grown hgrow).cell b1; have k2 := (Gr.grown hgrow).cell b2; have kX := (Gr.grown hgrow).cell bX; have g0 := (Gr.grown hgrow).frozen b0 f0; have g1 := (Gr.grown hgrow).frozen b1 f1; have HO := Lib.hid (hold_made hown); have G3 := Lib.hid (Gr.grown hgrow); clear hown hgrow))
    have hgq : W1.heap.size < w3.heap.size := hold_lt HO.out (by simp; omega)
    go_wp2_with fail
    refine (callsIn_wide.1 (back_in Fence.wide 2 trivial rfl _ _ _ _)).mono ?_
    rintro e w4 ⟨rfl, rfl⟩
    go_wp2_with fail
    have hX1 : X < W1.heap.size := hXlt
    have hgr1 := hold_lt HHR.out (by rw [HRL.out]; omega)
    have hgb1 := hold_lt HHD.out (by rw [HDL.out]; omega)
    have hn0 : w.heap.size ≠ W1.heap.size := by omega
    have HD2 : Hid (val (D.take (j + 1)) = val k * 2 ^ t) := Lib.hid (by rw [take_val' (by rw [HDL.out]; omega) (by rw [HDV.out]; exact HKT.out)]; exact HDV.out)
    have HZ : Hid (Hold ((w3.setCell ⟨w.heap.size, 0, none⟩ (.slice (some ⟨W1.heap.size, 0, none⟩) m m)).alloc (.cells #[.slice (some ⟨W1.heap.size, 0, none⟩) m m] 22)) W1.heap.size 0 (List.replicate m 0)) := Lib.hid (hold_alloc (hold_other hn0 HO.out))
    have HS : Hid (Src w3.heap.size (some ⟨W1.heap.size, 0, none⟩) m m (fun _ _ => True) ((w3.setCell ⟨w.heap.size, 0, none⟩ (.slice (some ⟨W1.heap.size, 0, none⟩) m m)).alloc (.cells #[.slice (some ⟨W1.heap.size, 0, none⟩) m m] 22))) := Lib.hid
      ⟨cell_newS _ _ _ _ _ _ rfl, .inr ⟨W1.heap.size, 0, rfl, fun i hi => ⟨_, trivial, (HZ.out i (by simp; omega)).1⟩⟩⟩
    have HI0 : Hid (DivI w W1.heap.size gr gb X m (n + 1) (j + 1) cr cb R (D.take (j + 1)) [] ((w3.setCell ⟨w.heap.size, 0, none⟩ (.slice (some ⟨W1.heap.size, 0, none⟩) m m)).alloc (.cells #[.slice (some ⟨W1.heap.size, 0, none⟩) m m] 22))) := Lib.hid
      ⟨⟨⟨alloc_cell (setCell_at k0), alloc_frozen (setCell_at k0) (setCell_frozen g0)⟩, ⟨alloc_cell (setCell_ne (by dsimp only; omega) k1), alloc_frozen (setCell_ne (by dsimp only; omega) k1) (setCell_frozen g1)⟩, alloc_cell (setCell_ne (by dsimp only; omega) k2), alloc_cell (setCell_ne (by dsimp only; omega) kX)⟩,
        ⟨List.replicate m 0, R, by simp, HRL.out, ok_replicate _, HRO.out, HZ.out, hold_alloc (hold_other (by dsimp only; omega) (HHR.out.grow G3.out)), hold_alloc (hold_other (by dsimp only; omega) (hold_take (HHD.out.grow G3.out) _)), fun _ => DivN.start (by rw [HD2.out, HRV.out]; exact div_start HL.out.ok HL.out.len HK.out.len HTK.out HM.out (by omega))⟩, Gr.alloc (Gr.setCell (HG.out.trans G3.out) (by dsimp only; omega) _) _⟩
    have hwW : w.heap.size ≤ ((w3.setCell ⟨w.heap.size, 0, none⟩ (.slice (some ⟨W1.heap.size, 0, none⟩) m m)).alloc (.cells #[.slice (some ⟨W1.heap.size, 0, none⟩) m m] 22)).heap.size := HI0.out.2.2.le
    refine (wpIn_wide (n := 3)).1 ?_
    refine wpIn_rangeFunc_ownG rfl h1 (gf := 131) (lb := #[.pointer (some ⟨w3.heap.size, 0, none⟩)]) rfl trivial (enters_of Try.func131 (by kernel_rfl) rfl)
      (back_stops Fence.wide (3 - 1) trivial rfl (by decide) w3.heap.size (some ⟨W1.heap.size, 0, none⟩) m m (by omega) (fun _ _ => True) _ HS.out) (fun h k s => k (h s)) src_b (Below.refl _ _) (fun _ => rfl)
      (DivI w W1.heap.size gr gb X m (n + 1) (j + 1) cr cb R (D.take (j + 1))) (fun _ _ _ => False) (divI_own hwW) (fun _ _ _ _ _ hs _ _ => hs) HI0.out ?a1 ?assign ?body ?done ?stop
    case assign =>
      intro l x W K hK
      unfold en
      gi_wp2
      exact hK
    case body =>
      rintro l2 pre ⟨i, v⟩ W ⟨⟨⟨p0, u0⟩, ⟨p1, u1⟩, p2, pX⟩, ⟨qs, r, hql, hrl, hqo, hro, hhq, hhr, hhd, hN⟩, hB⟩ hlt
      have hjm : cl m i < m := cl_lt (by omega)
      obtain ⟨jj, hjj⟩ : ∃ jj, cl m i = jj := ⟨_, rfl⟩
      rw [hjj] at hjm ⊢
      have HJ := Lib.hid hjj
      have hmn2 : m + (j + 1) = n + 1 := by have := HM.out; omega
      have hwl : ((r.drop jj).take (j + 1 + 1)).length = j + 1 + 1 := by simp; omega
      have hDl : (D.take (j + 1)).length = j + 1 := by rw [List.length_take, HDL.out]; omega
      have HTD : Hid (Calls Try.prog 118 #[.slice (some ⟨gr, jj, none⟩) (j + 1 + 1) (cr - jj), .slice (some ⟨gb, 0, none⟩) (j + 1) cb] W.drew (DigitAt gr jj ((r.drop jj).take (j + 1 + 1)) (D.take (j + 1)) W.drew)) := Lib.hid
        (takeDigit_any gr jj (j + 1 + 1) (cr - jj) gb 0 (j + 1) cb _ _ hwl hDl rfl (by omega) (by omega) (ok_take (ok_drop hro _) _) (ok_take HDO.out _) (fun e => hrb e.symm) W.drew (hold_window hhr (by omega)) hhd)
      have hcq := hhq jj (by omega)
      rw [Nat.zero_add] at hcq
      obtain ⟨y, hy⟩ : ∃ y, qs[jj]?.getD 0 = y := ⟨_, rfl⟩
      rw [hy] at hcq
      obtain ⟨cq, fq⟩ := hcq
      have HSTEP := Lib.hid (fun (q : Nat) (s : List Nat) (W' : World) => divI_step (w := w) (W := W) (W' := W') (gq := W1.heap.size) (gr := gr) (gb := gb) (X := X) (Bs := w3.heap.size) (m := m) (n1 := n + 1) (n2 := j + 1) (cr := cr) (cb := cb) (B := ((w3.setCell ⟨w.heap.size, 0, none⟩ (.slice (some ⟨W1.heap.size, 0, none⟩) m m)).alloc (.cells #[.slice (some ⟨W1.heap.size, 0, none⟩) m m] 22)).heap.size) (i := i) (v := v) (jj := jj) (q := q) (R := R) (D := D.take (j + 1)) (qs := qs) (r := r) (s := s) (pre := pre)
        hjj hjm (by omega) hrw (by omega) (by omega) hrb (by omega) hXr (by omega) (by omega) p0 u0 p1 u1 p2 pX hql hrl hqo hro hhq hhr hhd hN hB hlt hmn2.symm (by rw [HD2.out]; exact HKT.out))
      have HWR : Hid (∀ W' : World, Wr gr jj (j + 1 + 1) W.drew W' → Wr gr jj (j + 1 + 1) W W') := Lib.hid (fun W' hw => ((Wr.refl _ _ _ W).drewN 1).trans hw)
      have HWL := Lib.hid hwl
      clear hql hrl hqo hro hhq hhr hhd hN hB hjj hy hwl hDl
      have q1 : IntKind.i64.wrap ((jj : Int) + ((j : Int) + 1)) = (jj : Int) + ((j : Int) + 1) := IntWalk.i64_in _ (by omega)
      have q2 : IntKind.i64.wrap ((jj : Int) + ((j : Int) + 1) + 1) = (jj : Int) + ((j : Int) + 1) + 1 := IntWalk.i64_in _ (by omega)
      have q3 : (0 : Int) ≤ (jj : Int) := by omega
      have q4 : (jj : Int) ≤ (jj : Int) + ((j : Int) + 1) + 1 := by omega
      have q5 : (jj : Int) + ((j : Int) + 1) + 1 ≤ (cr : Int) := by omega
      have q6 : ((jj : Int) + ((j : Int) + 1) + 1).toNat = jj + (j + 1) + 1 := by omega
      have q7 : jj + (j + 1) + 1 - jj = j + 1 + 1 := by omega
      have q8 : (cr = jj) = False := eq_false (by omega)
      have q9 : (jj : Int) < (m : Int) := by omega
      have q10 : (0 : Int) ≤ (jj : Int) + ((j : Int) + 1) + 1 := by omega
      clear hmn2
      gi_wp2_with fail
      refine wpIn_round_held (S := fun w' => w'.cell? ⟨w.heap.size, 0, none⟩ = some (.slice (some ⟨W1.heap.size, 0, none⟩) m m) ∧ w'.cell? ⟨w.heap.size + 1, 0, none⟩ = some (.slice (some ⟨gr, 0, none⟩) (n + 1) cr) ∧ w'.cell? ⟨w.heap.size + 1 + 1, 0, none⟩ = some (.int .i64 ((j : Int) + 1)) ∧ w'.cell? ⟨X, 0, none⟩ = some (.slice (some ⟨gb, 0, none⟩) (j + 1) cb)) (by kernel_rfl) (by kernel_rfl) (fun ⟨_, _, h⟩ => h) ⟨p0, p1, p2, pX⟩ (fun hS => ?_)
      refine wpAnyH_take (i := 0) (v := ?_) rfl (by kernel_rfl) (by kernel_rfl) (by kernel_rfl) (fun _ _ _ h => h) (Or.inl ⟨by rfl, ?_⟩) hS ?_
      rotate_left
      · (intro wx hSx; go_simp; rfl)
      refine wpAnyH_take (i := 1) (v := ?_) rfl (by kernel_rfl) (by kernel_rfl) (by kernel_rfl) (fun _ _ _ h => h) (Or.inl ⟨by rfl, ?_⟩) hS ?_
      rotate_left
      · (intro wx hSx; go_simp; rfl)
      refine wpAnyH_take (i := 2) (v := ?_) rfl (by kernel_rfl) (by kernel_rfl) (by kernel_rfl) (fun _ _ _ h => h) (Or.inl ⟨by rfl, ?_⟩) hS ?_
      rotate_left
      · (intro wx hSx; go_simp; rfl)
      refine wpAnyH_take (i := 3) (v := ?_) rfl (by kernel_rfl) (by kernel_rfl) (by kernel_rfl) (fun _ _ _ h => h) (Or.inl ⟨by rfl, ?_⟩) hS ?_
      rotate_left
      · (intro wx hSx; go_simp; rfl)
      refine wpAnyH_take (i := 4) (v := ?_) rfl (by kernel_rfl) (by kernel_rfl) (by kernel_rfl) (fun _ _ _ h => h) (Or.inl ⟨by rfl, ?_⟩) hS ?_
      rotate_left
      · (intro wx hSx; go_simp; rfl)
      refine wpAnyH_take (i := 5) (v := ?_) rfl (by kernel_rfl) (by kernel_rfl) (by kernel_rfl) (fun _ _ _ h => h) (Or.inl ⟨by rfl, ?_⟩) hS ?_
      rotate_left
      · (intro wx hSx; go_simp; rfl)
      refine wpAnyH_take (i := 6) (v := ?_) rfl (by kernel_rfl) (by kernel_rfl) (by kernel_rfl) (fun _ _ _ h => h) (Or.inl ⟨by rfl, ?_⟩) hS ?_
      rotate_left
      · (intro wx hSx; go_simp; rfl)
      refine wpAnyH_take (i := 7) (v := ?_) rfl (by kernel_rfl) (by kernel_rfl) (by kernel_rfl) (fun _ _ _ h => h) (Or.inl ⟨by rfl, ?_⟩) hS ?_
      rotate_left
      · (intro wx hSx; go_simp; rfl)
      refine wpAnyH_take (i := 8) (v := ?_) rfl (by kernel_rfl) (by kernel_rfl) (by kernel_rfl) (fun _ _ _ h => h) (Or.inl ⟨by rfl, ?_⟩) hS ?_
      rotate_left
      · (intro wx hSx; go_simp; rfl)
      refine wpAnyH_take (i := 9) (v := ?_) rfl (by kernel_rfl) (by kernel_rfl) (by kernel_rfl) (fun _ _ _ h => h) (Or.inl ⟨by rfl, ?_⟩) hS ?_
      rotate_left
      · (intro wx hSx; go_simp; rfl)
      refine wpAnyH_ready (rs := [10]) (by kernel_rfl) (by simp) ?_
      refine AllReadyH.cons rfl (fun K hK => ?_) AllReadyH.nil
      go_simp
      refine HTD.out.mono ?_
      rintro e W' ⟨q, s, rfl, hq, hsl, hso, hsh, hwr, hv, hlt2⟩
      rw [HWL.out] at hsl hwr
      have hwr2 := HWR.out W' hwr
      have kq := (hwr2.cellOf (o := jj) (show W1.heap.size ≠ gr by omega)).trans cq
      have kf := (hwr2.frozen ⟨W1.heap.size, jj, none⟩).trans fq
      refine hK.out _ _ ⟨(hwr2.cellOf (show w.heap.size ≠ gr by omega)).trans p0, (hwr2.cellOf (show w.heap.size + 1 ≠ gr by omega)).trans p1, (hwr2.cellOf (show w.heap.size + 1 + 1 ≠ gr by omega)).trans p2, (hwr2.cellOf hXr).trans pX⟩ (fun hS2 => ?_)
      clear hK hS
      refine wpAnyH_take (i := 11) (v := ?_) rfl (by kernel_rfl) (by kernel_rfl) (by kernel_rfl) (fun _ _ _ h => h) (Or.inl ⟨by rfl, ?_⟩) hS2 ?_
      rotate_left
      · (intro wx hSx; go_simp; rfl)
      refine wpAnyH_ready (rs := [12]) (by kernel_rfl) (by simp) ?_
      refine AllReadyH.cons rfl (fun K hK => ?_) AllReadyH.nil
      go_simp
      refine hK.out _ _ ⟨setCell_ne (by dsimp only; omega) hS2.1, setCell_ne (by dsimp only; omega) hS2.2.1, setCell_ne (by dsimp only; omega) hS2.2.2.1, setCell_ne (by dsimp only; omega) hS2.2.2.2⟩ (fun _ => ?_)
      refine wpAnyH_done (by kernel_rfl) ?_ _
      exact HSTEP.out q s W' hq hsl hso hsh hwr2 hv hlt2
    case done =>
      rintro Dd xs W hDd hO ⟨⟨⟨p0, u0⟩, ⟨p1, u1⟩, p2, pX⟩, ⟨qs, r, hql, hrl, hqo, hro, hhq, hhr, hhd, hN⟩, hB⟩ hK
      have hxl := Out.length hO
      have hN1 := hN (by rw [hxl]; exact hO.1)
      rw [hxl] at hN1
      obtain ⟨hv1, hv2⟩ := DivN.done hN1
      have HQV : Hid (val qs = val l / val k) := Lib.hid (by rw [hv1, HRV.out, HD2.out, Nat.mul_div_mul_right _ _ (Nat.two_pow_pos t)])
      have hvr : val r < pw (j + 1) := by
        rw [hv2]
        refine Nat.lt_trans (Nat.mod_lt _ ?_) (by rw [HD2.out]; exact HKT.out)
        rcases Nat.eq_zero_or_pos (val (D.take (j + 1))) with h0 | h0
        · exact absurd hN1 (by intro h; have h1 := h.2.1; rw [h0, Nat.zero_mul] at h1; omega)
        · exact h0
      have HRV2 : Hid (val (r.take (j + 1)) / 2 ^ t = val l % val k) := Lib.hid (by rw [take_val' (by rw [hrl]; omega) hvr, hv2, HRV.out, HD2.out, Nat.mul_mod_mul_right, Nat.mul_div_cancel _ (Nat.two_pow_pos t)])
      have hrt : (r.take (j + 1)).length = j + 1 := by rw [List.length_take, hrl]; omega
      have HDN : Hid (∀ W' : World, Gr W W' → Calls Try.prog 119 #[.slice (some ⟨gr, 0, none⟩) (j + 1) cr, .int .i64 (t : Int)] W' (DownAt (r.take (j + 1)) t W')) := Lib.hid fun W' hg =>
        down_any _ _ (j + 1) cr t (by omega) W' (Nw.grow ⟨hrt, by omega, (fun e => by cases e), .inr ⟨gr, 0, rfl, fun i hi => (hold_take hhr (j + 1) i hi).1⟩, ok_take hro _, by omega⟩ hg)
      have HRT := Lib.hid hrt
      have HQL := Lib.hid hql
      have HQO := Lib.hid hqo
      have HHQ := Lib.hid hhq
      have HB := Lib.hid hB
      have hDw : w.heap.size ≤ Dd := by have := HI0.out.2.2.le; omega
      have hDk := World.block_lt_of_cell? W _ p0
      clear hxl hN hN1 hv1 hv2 hvr hrt hrl hro hhr hhd hql hqo hhq hO hB
      clear HS HI0 HZ HD2 HO
      go_upto_region 8 with fail
      refine wp_region_noPanic ?_
      have q1 : (0 : Int) ≤ (j : Int) + 1 := by omega
      have q2 : (j : Int) + 1 ≤ (cr : Int) := by omega
      have q3 : ((j : Int) + 1).toNat = j + 1 := by omega
      refine wp_region_held_drew (S := fun w' => w'.cell? ⟨w.heap.size, 0, none⟩ = some (.slice (some ⟨W1.heap.size, 0, none⟩) m m) ∧ w'.cell? ⟨w.heap.size + 1 + 1, 0, none⟩ = some (.int .i64 ((j : Int) + 1))) (by kernel_rfl) ⟨p0, p2⟩ (fun hS => ?_)
      refine wpAnyH_take (i := 0) (v := ?_) rfl (by kernel_rfl) (by kernel_rfl) (by kernel_rfl) (fun _ _ _ h => h) (Or.inl ⟨by rfl, ?_⟩) hS ?_
      rotate_left
      · (intro wx hSx; go_simp; rfl)
      refine wpAnyH_take (i := 2) (v := ?_) rfl (by kernel_rfl) (by kernel_rfl) (by kernel_rfl) (fun _ _ _ h => h) (Or.inl ⟨by rfl, ?_⟩) hS ?_
      rotate_left
      · (intro wx hSx; go_simp; rfl)
      refine wpAnyH_take (i := 4) (v := ?_) rfl (by kernel_rfl) (by kernel_rfl) (by kernel_rfl) (fun _ _ _ h => h) (Or.inl ⟨by rfl, ?_⟩) hS ?_
      rotate_left
      · (intro wx hSx; go_simp; rfl)
      refine wpAnyH_ready (rs := [1]) (by kernel_rfl) (by simp) ?_
      refine AllReadyH.cons rfl (fun K hK2 => ?_) AllReadyH.nil
      go_simp
      refine hK2.out _ _ hS (fun _ => ?_)
      clear hK2
      refine wpAnyH_take (i := 3) (v := ?_) rfl (by kernel_rfl) (by kernel_rfl) (by kernel_rfl) (fun _ _ _ h => h) (Or.inl ⟨by rfl, ?_⟩) hS ?_
      rotate_left
      · (intro wx hSx; go_simp; rfl)
      refine wpAnyH_ready (rs := [5]) (by kernel_rfl) (by simp) ?_
      refine AllReadyH.cons rfl (fun K hK2 => ?_) AllReadyH.nil
      go_simp
      refine (HDN.out _ (Gr.drew (Gr.refl _))).mono ?_
      rintro e W' ⟨y2, r2, c2, rfl, e1, e2, e3, e4, e5, e6, e7⟩
      have z0 := e7.cell p0
      have z1 := e7.cell p1
      have z2 := e7.cell p2
      have y0 := e7.frozen p0 u0
      have y1 := e7.frozen p1 u1
      have hK3 : W'.heap[Dd]? = some (.deferred (some [])) := (e7.block Dd (Array.getElem?_eq_some_iff.1 hK).1).trans hK
      refine hK2.out _ _ ⟨z0, z2⟩ (fun hS3 => ?_)
      clear hK2
      refine wpAnyH_ready (rs := [6]) (by kernel_rfl) (by simp) ?_
      refine AllReadyH.cons rfl (fun K hK2 => ?_) AllReadyH.nil
      go_simp
      refine hK2.out _ _ ⟨setCell_at z0, setCell_ne (by dsimp only; omega) z2⟩ (fun hS4 => ?_)
      clear hK2
      refine wpAnyH_ready (rs := [7]) (by kernel_rfl) (by simp) ?_
      refine AllReadyH.cons rfl (fun K hK2 => ?_) AllReadyH.nil
      go_simp
      refine hK2.out _ _ ⟨setCell_ne (by dsimp only; omega) hS4.1, setCell_ne (by dsimp only; omega) hS4.2⟩ (fun hS5 => ?_)
      clear hK2
      refine wpAnyH_done (by kernel_rfl) ?_ _
      refine NoPanic.normal ?_
      have hle : w.heap.size + 1 < W.heap.size := World.block_lt_of_cell? W _ p1
      have hle2 : W1.heap.size ≠ w.heap.size := by omega
      have hle3 : W1.heap.size ≠ w.heap.size + 1 := by omega
      have hH : Hid (Hold ((W'.setCell ⟨w.heap.size, 0, none⟩ (.slice (some ⟨W1.heap.size, 0, none⟩) m m)).setCell ⟨w.heap.size + 1, 0, none⟩ (.slice y2 r2.length c2)) W1.heap.size 0 qs) := Lib.hid
        (hold_other (fun e => hle3 e.symm) (hold_other (fun e => hle2 e.symm) (HHQ.out.grow ((Gr.drew (Gr.refl W)).trans e7))))
      have hK4 := (KeepsOthers.setCell W' ⟨w.heap.size, 0, none⟩ (.slice (some ⟨W1.heap.size, 0, none⟩) m m)).same Dd _ hK3 rfl
      have hK5 := (KeepsOthers.setCell _ ⟨w.heap.size + 1, 0, none⟩ (.slice y2 r2.length c2)).same Dd _ hK4 rfl
      have x0 := setCell_ne (p := ⟨w.heap.size + 1, 0, none⟩) (v := .slice y2 r2.length c2) (by dsimp only; omega) (setCell_at (v := .slice (some ⟨W1.heap.size, 0, none⟩) m m) z0)
      have x1 := setCell_at (v := .slice y2 r2.length c2) (setCell_ne (p := ⟨w.heap.size, 0, none⟩) (v := .slice (some ⟨W1.heap.size, 0, none⟩) m m) (by dsimp only; omega) z1)
      have hO2 := Lib.hid (own_set (own_set e6 ⟨w.heap.size, 0, none⟩ (.slice (some ⟨W1.heap.size, 0, none⟩) m m) (show w.heap.size < W.heap.size by omega)) ⟨w.heap.size + 1, 0, none⟩ (.slice y2 r2.length c2) hle)
      have hGF := Lib.hid (((HB.out.drew.trans e7).setCell (p := ⟨w.heap.size, 0, none⟩) (Nat.le_refl _) (.slice (some ⟨W1.heap.size, 0, none⟩) m m)).setCell (p := ⟨w.heap.size + 1, 0, none⟩) (Nat.le_succ _) (.slice y2 r2.length c2))
      have E := Lib.hid (And.intro e1 (And.intro e2 (And.intro e3 (And.intro e4 e5))))
      clear hS hS3 hS4 hS5 z0 z1 z2 y0 y1 e1 e2 e3 e4 e5 e6 e7 hK3 hK4 p0 u0 p1 u1 p2 pX
      go_wp2
      refine ⟨by simp, .inl ⟨_, _, rfl, run_takeDeferred hK5, ?_⟩⟩
      have hc0 := cell_kept x0 (grownBy_putObj' _ Dd (.deferred none)) (fun r e => by cases e; exact ⟨_, hK5, rfl⟩)
      have hc1 := cell_kept x1 (grownBy_putObj' _ Dd (.deferred none)) (fun r e => by cases e; exact ⟨_, hK5, rfl⟩)
      have kp : ∀ (a : Addr) (v : Value), ((W'.setCell ⟨w.heap.size, 0, none⟩ (.slice (some ⟨W1.heap.size, 0, none⟩) m m)).setCell ⟨w.heap.size + 1, 0, none⟩ (.slice y2 r2.length c2)).cell? a = some v → _ ∧ _ := fun a v hv => And.intro
        (cell_kept hv (grownBy_putObj' _ Dd (.deferred none)) (fun r e => by cases e; exact ⟨_, hK5, rfl⟩)) (frozen_kept hv (grownBy_putObj' _ Dd (.deferred none)) (fun r e => by cases e; exact ⟨_, hK5, rfl⟩))
      have KP := Lib.hid kp
      clear kp
      refine ⟨.tuple #[.slice (some ⟨W1.heap.size, 0, none⟩) m m, .slice y2 r2.length c2], by simp [results, Try.results94, go_sem, hc0, hc1], ?_⟩
      obtain ⟨e1, e2, e3, e4, e5⟩ := E.out
      rw [HRT.out] at e2
      exact ⟨some ⟨W1.heap.size, 0, none⟩, y2, m, c2, qs, r2, by rw [HQL.out], by rw [HQL.out]; exact Nat.le_refl _, e1, by rw [HQL.out]; omega, by omega, (fun e => by cases e), e3, HQO.out, e4, HQV.out, e5.trans HRV2.out,
        (hold_keep hH.out KP.out).own (by omega), (own_keeps hO2.out KP.out).mono (by have h := hle; exact Nat.le_of_lt (Nat.lt_of_succ_lt h)), gr_trans hGF.out (belowK_b (w := w) (Nat.le_refl _) _ Dd _ _ hDw hK5 rfl rfl)⟩
    case stop =>
      rintro D c pre W _ _ h _
      exact h.elim
end Go.Proofs.Ytlciocebbckdcaa.Nk


/- The contract of natural's Div: where it divides. -/
namespace Go.Proofs.Ytlciocebbckdcaa.Nk
open Go.RowKit Go.Shelf Go.Proofs.Ytlciocebbckdcaa.Nm Go.Proofs.Ytlciocebbckdcaa.Ne Go.Proofs.Ytlciocebbckdcaa.Nf


/-- trim, for words of the call's own. -/
theorem trim_own (p : Option Addr) (l : List Nat) (cap B : Nat) (hn : l.length ≤ cap) (hs : l.length ≤ 1000) (hok : ok l) (w : World) (h : Ne.Own B w p l) :
    Calls Try.prog 95 #[.slice p l.length cap] w fun e w' => e = .returned (.slice p (digs (val l)).length cap) ∧ w' = w :=
  (trim_any p l cap hn (by omega) w h.rd).mono fun _ _ ⟨h1, h2⟩ => ⟨by rw [h1, trim_eq_digs hok], h2⟩
theorem trim_nr (p : Option Addr) (l : List Nat) (cap B : Nat) (hn : l.length ≤ cap) (hs : l.length ≤ 1000) (hp : p = none → l.length = 0 ∧ cap = 0) (hok : ok l) (w : World) (h : Ne.Own B w p l) :
    Nr B w p (digs (val l)).length cap (digs (val l)) := by
  have h1 := trim_eq_digs hok
  have h2 := trim_length_le l
  rw [h1] at h2
  have h3 : digs (val l) = l.take (digs (val l)).length := by
    rw [← h1]
    have : trim l <+: l := by
      unfold trim
      have := List.dropWhile_suffix (l := l.reverse) (· == 0)
      have := List.reverse_prefix.2 this
      rwa [List.reverse_reverse] at this
    exact List.prefix_iff_eq_take.1 this
  have ho : Ne.Own B w p (digs (val l)) := by rw [h3]; exact h.take _
  exact ⟨⟨rfl, by omega, fun e => ⟨by have := (hp e).1; omega, (hp e).2⟩, ho.rd, ok_digs _, by omega⟩, ho⟩

set_option maxRecDepth 100000 in
set_option maxHeartbeats 4000000 in
theorem Div_ok (p q : Option Addr) (n m c d : Nat) (l k : List Nat) (w : World) (hl : Nw w p n c l) (hk : Nw w q m d k) (hv1 : decide (valid l) = true) (hv2 : decide (valid k) = true) (hm : 0 < m) (hx : val k ≤ val l) :
    Calls Try.prog 45 #[.agg #[.slice p n c], .agg #[.slice q m d]] w (DivGave (val l / val k) (val l % val k) w) := by
  have HL := Lib.hid hl
  have HK := Lib.hid hk
  have HV1 := Lib.hid hv1
  have HV2 := Lib.hid hv2
  have HX := Lib.hid hx
  have hm0 : (m : Int) = 0 ↔ False := by
    refine ⟨fun h => ?_, False.elim⟩
    omega
  have hm1 : m ≠ 0 := by omega
  have hmn : m ≤ n := by
    have := length_le_of_val hl.ok (of_decide_eq_true hv2).2 hx
    rwa [hl.len, hk.len] at this
  have hn : n ≤ 64 := by
    have := (of_decide_eq_true hv1).1
    rwa [hl.len] at this
  have HMN := Lib.hid hmn
  have HN := Lib.hid hn
  have G0 := Lib.hid (((((Gr.refl w).alloc (.cells #[.slice p n c] 24)).alloc (.cells #[.slice q m d] 24)).alloc (.cells #[.slice none 0 0] 24)).alloc (.cells #[.slice none 0 0] 24))
  clear hl hk hv1 hv2 hx hmn hn
  go_enter Try.func45, Try.ntmps45
  go_wp2_with fail
  refine (Valid_n p n c l _ (HL.out.grow G0.out)).mono ?_
  rintro e w1 ⟨rfl, hg⟩
  rw [HV1.out]
  have c1 := hg.cell (p := ⟨w.heap.size, 0, none⟩) (v := .slice p n c) (by simp [go_sem])
  have c2 := hg.cell (p := ⟨w.heap.size + 1, 0, none⟩) (v := .slice q m d) (by simp [go_sem])
  have c3 := hg.cell (p := ⟨w.heap.size + 1 + 1, 0, none⟩) (v := .slice none 0 0) (by simp [go_sem])
  have f3 := hg.frozen (p := ⟨w.heap.size + 1 + 1, 0, none⟩) (v := .slice none 0 0) (by simp [go_sem]) (by simp [go_sem])
  have c4 := hg.cell (p := ⟨w.heap.size + 1 + 1 + 1, 0, none⟩) (v := .slice none 0 0) (by simp [go_sem])
  have f4 := hg.frozen (p := ⟨w.heap.size + 1 + 1 + 1, 0, none⟩) (v := .slice none 0 0) (by simp [go_sem]) (by simp [go_sem])
  have GA := Lib.hid (G0.out.trans hg)
  clear hg
  go_wp2_with fail
  refine (Valid_n q m d k _ (HK.out.grow GA.out)).mono ?_
  rintro e w2 ⟨rfl, hg⟩
  rw [HV2.out]
  have e1 := hg.cell c1
  have e2 := hg.cell c2
  have e3 := hg.cell c3
  have e4 := hg.cell c4
  have g3 := hg.frozen c3 f3
  have g4 := hg.frozen c4 f4
  have GB := Lib.hid (GA.out.trans hg)
  clear hg c1 c2 c3 c4 f3 f4
  clear GA G0
  go_wp2_with fail
  refine (Compare_ok p q n m c d l k _ (HL.out.grow GB.out) (HK.out.grow GB.out) HV1.out HV2.out).mono ?_
  rintro e w3 ⟨rfl, hg⟩
  have k1 := hg.cell e1
  have k2 := hg.cell e2
  have k3 := hg.cell e3
  have k4 := hg.cell e4
  have j3 := hg.frozen e3 g3
  have j4 := hg.frozen e4 g4
  have GC := Lib.hid (GB.out.trans hg)
  clear hg e1 e2 e3 e4 g3 g4 GB
  have ho : 0 ≤ ord (val l) (val k) := by
    unfold ord
    have := HX.out
    rw [if_neg (by omega)]
    split <;> omega
  generalize ord (val l) (val k) = O at *
  go_wp2_with fail
  refine (divide_any p q n m c d l k _ (HL.out.grow GC.out) (HK.out.grow GC.out) hm HMN.out HN.out (of_decide_eq_true HV2.out).2).mono ?_
  rintro e w4 ⟨p1, p2, cap1, cap2, r1, r2, rfl, r1c, r2c, r1s, r2s, r1n, r2n, r1k, r2k, r1v, r2v, r1o, r2o, hg⟩
  have m3 := hg.cell k3
  have m4 := hg.cell k4
  have mf3 := hg.frozen k3 j3
  have mf4 := hg.frozen k4 j4
  have hz : w.heap.size + 1 + 1 + 1 < w3.heap.size := World.block_lt_of_cell? w3 _ k4
  have GD := Lib.hid (GC.out.trans hg)
  have HR1 := Lib.hid (trim_nr p1 r1 cap1 _ r1c r1s r1n r1k w4 r1o)
  have HR2 := Lib.hid (trim_nr p2 r2 cap2 _ r2c r2s r2n r2k w4 r2o)
  have HT1 := Lib.hid (fun (w' : World) (h : Ne.Own w3.heap.size w' p1 r1) => trim_own p1 r1 cap1 _ r1c r1s r1k w' h)
  have HT2 := Lib.hid (fun (w' : World) (h : Ne.Own w3.heap.size w' p2 r2) => trim_own p2 r2 cap2 _ r2c r2s r2k w' h)
  rw [r1v] at HR1 HT1
  rw [r2v] at HR2 HT2
  have R1V := Lib.hid r1v
  have R2V := Lib.hid r2v
  have HO1 := Lib.hid r1o
  have HO2 := Lib.hid r2o
  clear hg k1 k2 k3 k4 j3 j4 r1c r2c r1s r2s r1n r2n r1k r2k r1v r2v r1o r2o
  have hne1 : Hid (∀ (x : Nat), x < w3.heap.size → ∀ y : Addr, p1 = some y → y.block ≠ x ∨ val (digs (val l / val k)) = 0) := Lib.hid (by
    intro x hx y hy
    rcases HO1.out with h | ⟨b, off, h2, h3, h4⟩
    · exact .inr (by rw [val_digs, ← R1V.out, h]; rfl)
    · rw [h2] at hy; cases hy; exact .inl (by dsimp only; omega))
  have hne2 : Hid (∀ (x : Nat), x < w3.heap.size → ∀ y : Addr, p2 = some y → y.block ≠ x ∨ val (digs (val l % val k)) = 0) := Lib.hid (by
    intro x hx y hy
    rcases HO2.out with h | ⟨b, off, h2, h3, h4⟩
    · exact .inr (by rw [val_digs, ← R2V.out, h]; rfl)
    · rw [h2] at hy; cases hy; exact .inl (by dsimp only; omega))
  have hle := GC.out.le
  go_wp2_with fail
  refine (HT1.out _ HO1.out).mono ?_
  rintro e w5 ⟨rfl, rfl⟩
  go_wp2_with fail
  refine (HT2.out _ HO2.out).mono ?_
  rintro e w6 ⟨rfl, rfl⟩
  go_wp2
  exact bodyPost_ret (v := .tuple #[.agg #[.slice p1 (digs (val l / val k)).length cap1], .agg #[.slice p2 (digs (val l % val k)).length cap2], .int .i64 0]) (by simp [results, Try.results45, go_sem, m3, m4]) rfl
    ⟨_, _, _, _, _, _, rfl, ((HR1.out.set' _ _ (hne1.out _ (by dsimp only; omega)) (tight_digs _)).set' _ _ (hne1.out _ (by dsimp only; omega)) (tight_digs _)).mono hle, ((HR2.out.set' _ _ (hne2.out _ (by dsimp only; omega)) (tight_digs _)).set' _ _ (hne2.out _ (by dsimp only; omega)) (tight_digs _)).mono hle, (GD.out.setCell (by simp; omega) _).setCell (by simp; omega) _⟩
end Go.Proofs.Ytlciocebbckdcaa.Nk


/- The contracts of great and of what it calls. -/
namespace Go.Proofs.Ytlciocebbckdcaa.Nk
open Go.RowKit Go.Shelf Go.Proofs.Ytlciocebbckdcaa.Nm Go.Proofs.Ytlciocebbckdcaa.Ne Go.Proofs.Ytlciocebbckdcaa.Nf

/-- Numbers side by side. -/
def Nats (W : World) (b off : Nat) (xs : List (Option Addr × Nat × Nat)) : Prop :=
  ∀ i, i < xs.length → W.cell? ⟨b, off + i, none⟩ = some (.slice (xs[i]?.getD (none, 0, 0)).1 (xs[i]?.getD (none, 0, 0)).2.1 (xs[i]?.getD (none, 0, 0)).2.2)
/-- None of the first k is great. -/
def Small (xs : List (Option Addr × Nat × Nat)) (k : Nat) : Prop := ∀ i, i < k → ¬ 100 < (xs[i]?.getD (none, 0, 0)).2.1

/-- One of the numbers is great. -/
def Great (xs : List (Option Addr × Nat × Nat)) : Prop := ∃ j, j < xs.length ∧ 100 < (xs[j]?.getD (none, 0, 0)).2.1
end Go.Proofs.Ytlciocebbckdcaa.Nk


/- The contracts of the reference's Valid and word. -/
namespace Go.Proofs.Ytlciocebbckdcaa.Nk
open Go.RowKit Go.Shelf Go.Proofs.Ytlciocebbckdcaa.Nm Go.Proofs.Ytlciocebbckdcaa.Ne Go.Proofs.Ytlciocebbckdcaa.Nf

end Go.Proofs.Ytlciocebbckdcaa.Nk


/- The contracts of the reference's sized and Same. -/
namespace Go.Proofs.Ytlciocebbckdcaa.Nk
open Go.RowKit Go.Shelf Go.Proofs.Ytlciocebbckdcaa.Nm Go.Proofs.Ytlciocebbckdcaa.Ne Go.Proofs.Ytlciocebbckdcaa.Nf

end Go.Proofs.Ytlciocebbckdcaa.Nk


/- The contract of the laws' is. -/
namespace Go.Proofs.Ytlciocebbckdcaa.Nk
open Go.RowKit Go.Shelf Go.Proofs.Ytlciocebbckdcaa.Nm Go.Proofs.Ytlciocebbckdcaa.Ne Go.Proofs.Ytlciocebbckdcaa.Nf

end Go.Proofs.Ytlciocebbckdcaa.Nk


/- The contracts of package natural said of values: which number, and which error. -/
namespace Go.Proofs.Ytlciocebbckdcaa.Nv
open Go.RowKit Go.Shelf Go.Proofs.Ytlciocebbckdcaa.Nm Go.Proofs.Ytlciocebbckdcaa.Ne Go.Proofs.Ytlciocebbckdcaa.Nf Go.Proofs.Ytlciocebbckdcaa.Nk

theorem dv {x : Nat} (h : x < pw 64) : decide (valid (digs x)) = true := decide_eq_true ⟨(digs_length_le x 64).2 h, tight_digs x⟩
theorem dv_small {x : Nat} (h : x < 18446744073709551616) : x < pw 64 := by
  have := pw_mono (show 2 ≤ 64 by decide)
  have : pw 2 = 18446744073709551616 := rfl
  omega
/-- What a function that hands back a natural number and an error number has handed back: a number, 0 beside an error. -/
def Gives (z c : Nat) (w : World) (e : Ending) (w' : World) : Prop :=
  ∃ (p : Option Addr) (n cap : Nat), e = .returned (.tuple #[.agg #[.slice p n cap], .int .i64 (c : Int)]) ∧ Nr w.heap.size w' p n cap (digs z) ∧ Gr w w'
theorem gave_gives {z : Nat} {w : World} {e : Ending} {w' : World} (h : Gave z w e w') : Gives z 0 w e w' := by
  obtain ⟨p, n, cap, h1, h2, h3⟩ := h
  exact ⟨p, n, cap, h1, h2, h3⟩
theorem failed_gives {c : Nat} {w : World} {e : Ending} {w' : World} (h : Failed c w e w') : Gives 0 c w e w' := by
  obtain ⟨h1, h2⟩ := h
  exact ⟨none, 0, 0, h1, nr_nil _ _, h2⟩
def Gives2 (x y c : Nat) (w : World) (e : Ending) (w' : World) : Prop :=
  ∃ (p q : Option Addr) (n cap m cap2 : Nat), e = .returned (.tuple #[.agg #[.slice p n cap], .agg #[.slice q m cap2], .int .i64 (c : Int)]) ∧ Nr w.heap.size w' p n cap (digs x) ∧ Nr w.heap.size w' q m cap2 (digs y) ∧ Gr w w'
theorem gave_gives2 {x y : Nat} {w : World} {e : Ending} {w' : World} (h : DivGave x y w e w') : Gives2 x y 0 w e w' := by
  obtain ⟨p, q, n, cap, m, cap2, h1, h2, h3, h4⟩ := h
  exact ⟨p, q, n, cap, m, cap2, h1, h2, h3, h4⟩
theorem failed_gives2 {c : Nat} {w : World} {e : Ending} {w' : World} (h : DivFailed c w e w') : Gives2 0 0 c w e w' := by
  obtain ⟨h1, h2⟩ := h
  exact ⟨none, none, 0, 0, 0, 0, h1, nr_nil _ _, nr_nil _ _, h2⟩

/-- z with error c is what op has given for a result x that may be too great. -/
def Fits (x z c : Nat) : Prop := x < pw 64 ∧ z = x ∧ c = 0 ∨ pw 64 ≤ x ∧ z = 0 ∧ c = 9
theorem fits_ex (x : Nat) : ∃ z c, Fits x z c := by
  rcases Nat.lt_or_ge x (pw 64) with h | h
  · exact ⟨x, 0, .inl ⟨h, rfl, rfl⟩⟩
  · exact ⟨0, 9, .inr ⟨h, rfl, rfl⟩⟩
theorem Fits.lt {x z c : Nat} (h : Fits x z c) : z < pw 64 := by
  rcases h with ⟨h, rfl, _⟩ | ⟨_, rfl, _⟩
  · exact h
  · exact pw_pos _
theorem Fits.code {x z c : Nat} (h : Fits x z c) : c = 0 ∨ c = 9 := by
  rcases h with ⟨_, _, h⟩ | ⟨_, _, h⟩
  · exact .inl h
  · exact .inr h
theorem Fits.ok {x z : Nat} (h : Fits x z 0) : z = x ∧ x < pw 64 := by
  rcases h with ⟨h, h1, _⟩ | ⟨_, _, h⟩
  · exact ⟨h1, h⟩
  · cases h
theorem Fits.of {x z c : Nat} (h : Fits x z c) (hx : x < pw 64) : z = x ∧ c = 0 := by
  rcases h with ⟨_, h1, h2⟩ | ⟨h, _⟩
  · exact ⟨h1, h2⟩
  · omega
theorem Fits.big {x z c : Nat} (h : Fits x z c) (hc : c ≠ 0) : z = 0 ∧ c = 9 ∧ pw 64 ≤ x := by
  rcases h with ⟨_, _, h2⟩ | ⟨h, h1, h2⟩
  · exact absurd h2 hc
  · exact ⟨h1, h2, h⟩

section
variable {p q : Option Addr} {n m c d x y : Nat} {w : World}
theorem Add_v (z e : Nat) (hS : Fits (x + y) z e) (hl : Nw w p n c (digs x)) (hk : Nw w q m d (digs y)) (hx : x < pw 64) (hy : y < pw 64) :
    Calls Try.prog 110 #[.agg #[.slice p n c], .agg #[.slice q m d]] w (Gives z e w) := by
  rcases hS with ⟨h, rfl, rfl⟩ | ⟨h, rfl, rfl⟩
  · exact (Add_ok p q n m c d _ _ w hl hk (dv hx) (dv hy) (by rw [val_digs, val_digs]; exact h)).mono fun e w' hg => gave_gives (by rw [val_digs, val_digs] at hg; exact hg)
  · exact (Add_big p q n m c d _ _ w hl hk (dv hx) (dv hy) (by rw [val_digs, val_digs]; exact h)).mono fun e w' hg => failed_gives hg
theorem Mul_v (z e : Nat) (hS : Fits (x * y) z e) (hl : Nw w p n c (digs x)) (hk : Nw w q m d (digs y)) (hx : x < pw 64) (hy : y < pw 64) :
    Calls Try.prog 48 #[.agg #[.slice p n c], .agg #[.slice q m d]] w (Gives z e w) := by
  rcases hS with ⟨h, rfl, rfl⟩ | ⟨h, rfl, rfl⟩
  · exact (Mul_ok p q n m c d _ _ w hl hk (dv hx) (dv hy) (by rw [val_digs, val_digs]; exact h)).mono fun e w' hg => gave_gives (by rw [val_digs, val_digs] at hg; exact hg)
  · exact (Mul_big p q n m c d _ _ w hl hk (dv hx) (dv hy) (by rw [val_digs, val_digs]; exact h)).mono fun e w' hg => failed_gives hg
theorem Sub_v (h : y ≤ x) (hl : Nw w p n c (digs x)) (hk : Nw w q m d (digs y)) (hx : x < pw 64) (hy : y < pw 64) :
    Calls Try.prog 111 #[.agg #[.slice p n c], .agg #[.slice q m d]] w (Gives (x - y) 0 w) :=
  (Sub_ok p q n m c d _ _ w hl hk (dv hx) (dv hy) (by rw [val_digs, val_digs]; exact h)).mono fun e w' hg => gave_gives (by rw [val_digs, val_digs] at hg; exact hg)
theorem Sub_v_neg (h : x < y) (hl : Nw w p n c (digs x)) (hk : Nw w q m d (digs y)) (hx : x < pw 64) (hy : y < pw 64) :
    Calls Try.prog 111 #[.agg #[.slice p n c], .agg #[.slice q m d]] w (Gives 0 2 w) :=
  (Sub_neg p q n m c d _ _ w hl hk (dv hx) (dv hy) (by rw [val_digs, val_digs]; exact h)).mono fun e w' hg => failed_gives hg
theorem Of_v (h : x < 9223372036854775808) : Calls Try.prog 126 #[.int .i64 x] w (Gives x 0 w) :=
  (Of_ok x h w).mono fun _ _ => gave_gives
theorem Div_v (h : 0 < y) (hl : Nw w p n c (digs x)) (hk : Nw w q m d (digs y)) (hx : x < pw 64) (hy : y < pw 64) :
    Calls Try.prog 45 #[.agg #[.slice p n c], .agg #[.slice q m d]] w (Gives2 (x / y) (x % y) 0 w) := by
  rcases Nat.lt_or_ge x y with h1 | h1
  · rw [Nat.div_eq_of_lt h1, Nat.mod_eq_of_lt h1]
    exact (Div_less p q n m c d _ _ w hl hk (dv hx) (dv hy) (by rw [val_digs, val_digs]; exact h1)).mono fun e w' hg => gave_gives2 (by rw [val_digs] at hg; exact hg)
  · have hm : 0 < m := by
      rcases Nat.eq_zero_or_pos m with h0 | h0
      · exfalso
        have := hk.len
        rw [h0] at this
        have e := val_digs y
        rw [List.eq_nil_of_length_eq_zero this] at e
        have : val [] = 0 := rfl
        omega
      · exact h0
    exact (Div_ok p q n m c d _ _ w hl hk (dv hx) (dv hy) hm (by rw [val_digs, val_digs]; exact h1)).mono fun e w' hg => gave_gives2 (by rw [val_digs, val_digs] at hg; exact hg)
theorem Div_v_zero (hl : Nw w p n c (digs x)) (hk : Nw w q m d (digs 0)) (hx : x < pw 64) :
    Calls Try.prog 45 #[.agg #[.slice p n c], .agg #[.slice q m d]] w (Gives2 0 0 10 w) := by
  rw [digs_zero] at hk
  have hm : 0 = m := hk.len
  subst hm
  exact (Div_zero p q n c d _ w hl hk (dv hx)).mono fun _ _ => failed_gives2
theorem Compare_v (hl : Nw w p n c (digs x)) (hk : Nw w q m d (digs y)) (hx : x < pw 64) (hy : y < pw 64) :
    Calls Try.prog 93 #[.agg #[.slice p n c], .agg #[.slice q m d]] w fun e w' => e = .returned (.int .i64 (ord x y)) ∧ Gr w w' :=
  (Compare_ok p q n m c d _ _ w hl hk (dv hx) (dv hy)).mono fun e w' hg => by rw [val_digs, val_digs] at hg; exact hg
theorem Valid_v (hl : Nw w p n c (digs x)) (hx : x < pw 64) :
    Calls Try.prog 80 #[.agg #[.slice p n c]] w fun e w' => e = .returned (.bool true) ∧ Gr w w' :=
  (Valid_n p n c _ w hl).mono fun e w' hg => by rw [dv hx] at hg; exact hg
/-- The number of bits. -/
def nb (x : Nat) : Nat := nbits (digs x)
theorem nb_le (x k : Nat) : nb x ≤ k ↔ x < 2 ^ k := by
  have := nbits_le (ok_digs x) (tight_digs x) k
  rwa [val_digs] at this
theorem Bits_v (hl : Nw w p n c (digs x)) (hx : x < pw 64) :
    Calls Try.prog 82 #[.agg #[.slice p n c]] w fun e w' => e = .returned (.int .i64 (nb x)) ∧ Gr w w' :=
  Bits_n p n c _ w hl (dv hx)
theorem Bit_v (i : Nat) (hi : i < 9223372036854775808) (hl : Nw w p n c (digs x)) (hx : x < pw 64) :
    Calls Try.prog 83 #[.agg #[.slice p n c], .int .i64 i] w fun e w' => e = .returned (.bool (x.testBit i)) ∧ Gr w w' :=
  (Bit_ok p n c _ i w hl (dv hx) hi).mono fun e w' hg => by rw [val_digs] at hg; exact hg
theorem Int_v (h : x < 9223372036854775808) (hl : Nw w p n c (digs x)) :
    Calls Try.prog 127 #[.agg #[.slice p n c]] w fun e w' => e = .returned (.tuple #[.int .i64 x, .int .i64 0]) ∧ Gr w w' := by
  have hb : nbits (digs x) ≤ 63 := (nb_le x 63).2 (by omega)
  exact (Int_ok p n c _ w hl (dv (dv_small (by omega))) (by omega)).mono fun e w' hg => by rw [val_digs] at hg; exact hg
end

/-- A valid argument is a value. -/
theorem nw_value {w : World} {p : Option Addr} {n c : Nat} {l : List Nat} (h : Nw w p n c l) (hv : decide (valid l) = true) : ∃ x, x < pw 64 ∧ l = digs x := by
  have hv' : valid l := of_decide_eq_true hv
  refine ⟨val l, Nat.lt_of_lt_of_le (val_lt h.ok) (pw_mono hv'.1), (digs_val h.ok hv'.2).symm⟩

/-- A slice that has been written out. -/
theorem nw_lit {w : World} {b n : Nat} {l : List Nat} (en : l.length = n) (hok : ok l) (hs : n ≤ 1048576) (hc : ∀ i, i < n → w.cell? ⟨b, i, none⟩ = some (.int .u32 ((l[i]?.getD 0 : Nat) : Int))) : Nw w (some ⟨b, 0, none⟩) n n l :=
  ⟨en, Nat.le_refl _, (fun e => by cases e), .inr ⟨b, 0, rfl, fun i hi => by rw [Nat.zero_add]; exact hc i (by omega)⟩, hok, hs⟩
end Go.Proofs.Ytlciocebbckdcaa.Nv


/- The contract of the reference's trim: a number of its own. -/
namespace Go.Proofs.Ytlciocebbckdcaa.Nr2
open Go.RowKit Go.Shelf Go.Proofs.Ytlciocebbckdcaa.Nm Go.Proofs.Ytlciocebbckdcaa.Ne Go.Proofs.Ytlciocebbckdcaa.Nf Go.Proofs.Ytlciocebbckdcaa.Nk Go.Proofs.Ytlciocebbckdcaa.Nv

/-- A number has been handed back. -/
def Num (x : Nat) (w : World) (e : Ending) (w' : World) : Prop :=
  ∃ (p : Option Addr) (n cap : Nat), e = .returned (.agg #[.slice p n cap]) ∧ Nr w.heap.size w' p n cap (digs x) ∧ Gr w w'

/-- What trim has, when the loop has ended at k. -/
theorem trim_done {l : List Nat} (hok : ok l) {k : Nat} (hk : k ≤ l.length) (h0 : ∀ i, k ≤ i → l[i]?.getD 0 = 0) (h1 : 0 < k → l[k - 1]?.getD 0 ≠ 0) : l.take k = digs (val l) := by
  rw [← trim_of_take l k hk h0 h1, trim_eq_digs hok]

theorem take_src {w w' : World} {a : Addr} {l : List Nat} {k : Nat} (h : Rd w (some a) l) (g : Gr w w') (hk : k ≤ l.length) :
    ∀ (j : Nat) (u : Value), (cw (l.take k))[j]? = some u → w'.cell? (a.add j) = some u := by
  intro j u hu
  have hj : j < (l.take k).length := by
    have := (List.getElem?_eq_some_iff.1 hu).1
    rwa [cw_length] at this
  have hj2 : j < k := by simp at hj; omega
  obtain ⟨b, off, ha, hc⟩ := (g.rd h).at (by omega)
  cases ha
  rw [addr_add, hc j (by omega), ← hu, cw_get hj, List.getElem?_take, if_pos hj2]

/-- A number of the call's own lies in none of the elder blocks. -/
theorem own_ne {B : Nat} {w : World} {p : Option Addr} {n c : Nat} {l : List Nat} (h : Nr (B + 1) w p n c l) {x : Addr} (e : p = some x) : x.block ≠ B ∨ val l = 0 := by
  rcases h.own with h0 | ⟨b, off, e2, hb, _⟩
  · right
    rw [h0]
    rfl
  · left
    rw [e] at e2
    cases e2
    show b ≠ B
    omega
end Go.Proofs.Ytlciocebbckdcaa.Nr2


/- The contracts of natmod's helpers. -/
namespace Go.Proofs.Ytlciocebbckdcaa.Mo
open Go.RowKit Go.Shelf Go.Proofs.Ytlciocebbckdcaa.Nm Go.Proofs.Ytlciocebbckdcaa.Ne Go.Proofs.Ytlciocebbckdcaa.Nf Go.Proofs.Ytlciocebbckdcaa.Nk Go.Proofs.Ytlciocebbckdcaa.Nv Go.Proofs.Ytlciocebbckdcaa.Nr2

set_option maxHeartbeats 2000000 in
theorem mplus_v {p q : Option Addr} {n m c d x y : Nat} {w : World} (hl : Nw w p n c (digs x)) (hk : Nw w q m d (digs y)) (hx : x < pw 64) (hy : y < pw 64) (hs : x + y < pw 64) :
    Calls Try.prog 72 #[.agg #[.slice p n c], .agg #[.slice q m d]] w (Num (x + y) w) := by
  have HS := Lib.hid (fun W (hW : Gr w W) => Add_v (w := W) (x + y) 0 (.inl ⟨hs, rfl, rfl⟩) (hl.grow hW) (hk.grow hW) hx hy)
  have G0 := Lib.hid ((((Gr.refl w).alloc (.cells #[.slice p n c] 24)).alloc (.cells #[.slice q m d] 24)).alloc (.cells #[.slice none 0 0] 24))
  obtain ⟨z, hz⟩ : ∃ z, x + y = z := ⟨_, rfl⟩
  rw [hz] at HS ⊢
  clear hl hk hx hy hs hz
  go_enter Try.func72, Try.ntmps72
  go_wp2_with fail
  refine (HS.out _ G0.out).mono ?_
  rintro e w1 ⟨p1, n1, c1, rfl, hr, hg⟩
  have k1 := hg.cell (p := ⟨w.heap.size + 1 + 1, 0, none⟩) (v := .slice none 0 0) (by simp [go_sem])
  have f1 := hg.frozen (p := ⟨w.heap.size + 1 + 1, 0, none⟩) (v := .slice none 0 0) (by simp [go_sem]) (by simp [go_sem])
  have al := ((Gr.refl w1).alloc (.cells #[.slice p1 n1 c1] 24))
  have k2 := al.cell k1
  have f2 := al.frozen k1 f1
  have HR := Lib.hid ((hr.mono (show w.heap.size + 1 + 1 + 1 ≤ _ by simp)).grow al)
  have GG := Lib.hid ((G0.out.trans hg).trans al)
  clear hr hg al
  go_wp2
  refine bodyPost_ret (v := .agg #[.slice p1 n1 c1]) (by simp [results, Try.results72, go_sem, k2]) rfl ⟨_, _, _, rfl, ?_, GG.out.setCell (by simp; omega) _⟩
  exact (HR.out.set' _ _ (fun x e => own_ne HR.out e) (tight_digs _)).mono (by omega)

set_option maxHeartbeats 2000000 in
theorem mminus_v {p q : Option Addr} {n m c d x y : Nat} {w : World} (hl : Nw w p n c (digs x)) (hk : Nw w q m d (digs y)) (hx : x < pw 64) (hy : y < pw 64) (hs : y ≤ x) :
    Calls Try.prog 74 #[.agg #[.slice p n c], .agg #[.slice q m d]] w (Num (x - y) w) := by
  have HS := Lib.hid (fun W (hW : Gr w W) => Sub_v (w := W) hs (hl.grow hW) (hk.grow hW) hx hy)
  have G0 := Lib.hid ((((Gr.refl w).alloc (.cells #[.slice p n c] 24)).alloc (.cells #[.slice q m d] 24)).alloc (.cells #[.slice none 0 0] 24))
  obtain ⟨z, hz⟩ : ∃ z, x - y = z := ⟨_, rfl⟩
  rw [hz] at HS ⊢
  clear hl hk hx hy hs hz
  go_enter Try.func74, Try.ntmps74
  go_wp2_with fail
  refine (HS.out _ G0.out).mono ?_
  rintro e w1 ⟨p1, n1, c1, rfl, hr, hg⟩
  have k1 := hg.cell (p := ⟨w.heap.size + 1 + 1, 0, none⟩) (v := .slice none 0 0) (by simp [go_sem])
  have f1 := hg.frozen (p := ⟨w.heap.size + 1 + 1, 0, none⟩) (v := .slice none 0 0) (by simp [go_sem]) (by simp [go_sem])
  have al := ((Gr.refl w1).alloc (.cells #[.slice p1 n1 c1] 24))
  have k2 := al.cell k1
  have f2 := al.frozen k1 f1
  have HR := Lib.hid ((hr.mono (show w.heap.size + 1 + 1 + 1 ≤ _ by simp)).grow al)
  have GG := Lib.hid ((G0.out.trans hg).trans al)
  clear hr hg al
  go_wp2
  refine bodyPost_ret (v := .agg #[.slice p1 n1 c1]) (by simp [results, Try.results74, go_sem, k2]) rfl ⟨_, _, _, rfl, ?_, GG.out.setCell (by simp; omega) _⟩
  exact (HR.out.set' _ _ (fun x e => own_ne HR.out e) (tight_digs _)).mono (by omega)

set_option maxHeartbeats 2000000 in
theorem mtimes_v {p q : Option Addr} {n m c d x y : Nat} {w : World} (hl : Nw w p n c (digs x)) (hk : Nw w q m d (digs y)) (hx : x < pw 64) (hy : y < pw 64) (hs : x * y < pw 64) :
    Calls Try.prog 79 #[.agg #[.slice p n c], .agg #[.slice q m d]] w (Num (x * y) w) := by
  have HS := Lib.hid (fun W (hW : Gr w W) => Mul_v (w := W) (x * y) 0 (.inl ⟨hs, rfl, rfl⟩) (hl.grow hW) (hk.grow hW) hx hy)
  have G0 := Lib.hid ((((Gr.refl w).alloc (.cells #[.slice p n c] 24)).alloc (.cells #[.slice q m d] 24)).alloc (.cells #[.slice none 0 0] 24))
  obtain ⟨z, hz⟩ : ∃ z, x * y = z := ⟨_, rfl⟩
  rw [hz] at HS ⊢
  clear hl hk hx hy hs hz
  go_enter Try.func79, Try.ntmps79
  go_wp2_with fail
  refine (HS.out _ G0.out).mono ?_
  rintro e w1 ⟨p1, n1, c1, rfl, hr, hg⟩
  have k1 := hg.cell (p := ⟨w.heap.size + 1 + 1, 0, none⟩) (v := .slice none 0 0) (by simp [go_sem])
  have f1 := hg.frozen (p := ⟨w.heap.size + 1 + 1, 0, none⟩) (v := .slice none 0 0) (by simp [go_sem]) (by simp [go_sem])
  have al := ((Gr.refl w1).alloc (.cells #[.slice p1 n1 c1] 24))
  have k2 := al.cell k1
  have f2 := al.frozen k1 f1
  have HR := Lib.hid ((hr.mono (show w.heap.size + 1 + 1 + 1 ≤ _ by simp)).grow al)
  have GG := Lib.hid ((G0.out.trans hg).trans al)
  clear hr hg al
  go_wp2
  refine bodyPost_ret (v := .agg #[.slice p1 n1 c1]) (by simp [results, Try.results79, go_sem, k2]) rfl ⟨_, _, _, rfl, ?_, GG.out.setCell (by simp; omega) _⟩
  exact (HR.out.set' _ _ (fun x e => own_ne HR.out e) (tight_digs _)).mono (by omega)

set_option maxHeartbeats 2000000 in
theorem mrest_v {p q : Option Addr} {n m c d x y : Nat} {w : World} (hl : Nw w p n c (digs x)) (hk : Nw w q m d (digs y)) (hx : x < pw 64) (hy : y < pw 64) (hs : 0 < y) :
    Calls Try.prog 71 #[.agg #[.slice p n c], .agg #[.slice q m d]] w (Num (x % y) w) := by
  have HS := Lib.hid (fun W (hW : Gr w W) => Div_v (w := W) hs (hl.grow hW) (hk.grow hW) hx hy)
  have G0 := Lib.hid ((((Gr.refl w).alloc (.cells #[.slice p n c] 24)).alloc (.cells #[.slice q m d] 24)).alloc (.cells #[.slice none 0 0] 24))
  obtain ⟨z, hz⟩ : ∃ z, x % y = z := ⟨_, rfl⟩
  rw [hz] at HS ⊢
  clear hl hk hx hy hs hz
  go_enter Try.func71, Try.ntmps71
  go_wp2_with fail
  refine (HS.out _ G0.out).mono ?_
  rintro e w1 ⟨p0, p1, n0, c0, n1, c1, rfl, hr0, hr, hg⟩
  have k1 := hg.cell (p := ⟨w.heap.size + 1 + 1, 0, none⟩) (v := .slice none 0 0) (by simp [go_sem])
  have f1 := hg.frozen (p := ⟨w.heap.size + 1 + 1, 0, none⟩) (v := .slice none 0 0) (by simp [go_sem]) (by simp [go_sem])
  have al := (((Gr.refl w1).alloc (.cells #[.slice p0 n0 c0] 24)).alloc (.cells #[.slice p1 n1 c1] 24))
  have k2 := al.cell k1
  have f2 := al.frozen k1 f1
  have HR := Lib.hid ((hr.mono (show w.heap.size + 1 + 1 + 1 ≤ _ by simp)).grow al)
  have GG := Lib.hid ((G0.out.trans hg).trans al)
  clear hr hg al hr0
  go_wp2
  refine bodyPost_ret (v := .agg #[.slice p1 n1 c1]) (by simp [results, Try.results71, go_sem, k2]) rfl ⟨_, _, _, rfl, ?_, GG.out.setCell (by simp; omega) _⟩
  exact (HR.out.set' _ _ (fun x e => own_ne HR.out e) (tight_digs _)).mono (by omega)

theorem ord_neg (x y : Nat) : decide (ord x y < 0) = decide (x < y) := by
  rcases Nat.lt_trichotomy x y with h | h | h
  · rw [ord_lt h]; simp [h]
  · subst h; rw [ord_eq]; simp
  · rw [ord_gt h, decide_eq_false (show ¬ x < y by omega)]; rfl
set_option maxHeartbeats 2000000 in
theorem mless_v {p q : Option Addr} {n m c d x y : Nat} {w : World} (hl : Nw w p n c (digs x)) (hk : Nw w q m d (digs y)) (hx : x < pw 64) (hy : y < pw 64) :
    Calls Try.prog 73 #[.agg #[.slice p n c], .agg #[.slice q m d]] w fun e w' => e = .returned (.bool (decide (x < y))) ∧ Gr w w' := by
  have HS := Lib.hid (fun W (hW : Gr w W) => Compare_v (w := W) (hl.grow hW) (hk.grow hW) hx hy)
  have G0 := Lib.hid (((Gr.refl w).alloc (.cells #[.slice p n c] 24)).alloc (.cells #[.slice q m d] 24))
  have HO := Lib.hid (ord_neg x y)
  clear hl hk hx hy
  go_enter Try.func73, Try.ntmps73
  go_wp2_with fail
  refine (HS.out _ G0.out).mono ?_
  rintro e w1 ⟨rfl, hg⟩
  have GG := Lib.hid (G0.out.trans hg)
  clear hg
  go_wp2
  go_ret
  exact ⟨by rw [HO.out]; rfl, GG.out⟩
/-- A modulus, told by its words. -/
def im (l : List Nat) : Bool := decide (valid l ∧ 0 < val l ∧ val l < pw 32)
theorem nb_pos (x : Nat) : 0 < nb x ↔ 0 < x := by
  have := nb_le x 0
  omega
theorem nb_1024 (x : Nat) : nb x ≤ 1024 ↔ x < pw 32 := by
  have h := nb_le x (32 * 32)
  rw [pw_eq]
  exact h
set_option maxHeartbeats 2000000 in
theorem isModulus_any {p : Option Addr} {n c : Nat} {l : List Nat} {w : World} (hl : Nw w p n c l) :
    Calls Try.prog 90 #[.agg #[.slice p n c]] w fun e w' => e = .returned (.bool (im l)) ∧ Gr w w' := by
  have hb : ∃ b : Nat, (∀ W, Gr w W → Calls Try.prog 82 #[.agg #[.slice p n c]] W fun e w' => e = .returned (.int .i64 (b : Int)) ∧ Gr W w') ∧ im l = decide (0 < b ∧ b ≤ 1024) := by
    cases hv : decide (valid l) with
    | false => exact ⟨0, fun W hW => Bits_bad_n p n c l W (hl.grow hW) hv, by unfold im; rw [decide_eq_false (fun h => of_decide_eq_false hv h.1)]; rfl⟩
    | true =>
      obtain ⟨x, hx, rfl⟩ := nw_value hl hv
      refine ⟨nb x, fun W hW => Bits_v (hl.grow hW) hx, ?_⟩
      unfold im
      rw [val_digs]
      exact decide_eq_decide.2 ⟨fun h => ⟨(nb_pos x).2 h.2.1, (nb_1024 x).2 h.2.2⟩, fun h => ⟨of_decide_eq_true hv, (nb_pos x).1 h.1, (nb_1024 x).1 h.2⟩⟩
  obtain ⟨b, HB, hi⟩ := hb
  have HS := Lib.hid HB
  rw [hi]
  have G0 := Lib.hid ((Gr.refl w).alloc (.cells #[.slice p n c] 24))
  clear hl hi HB
  rcases Nat.eq_zero_or_pos b with h | h
  · subst h
    go_enter Try.func90, Try.ntmps90
    go_wp2_with fail
    refine (HS.out _ G0.out).mono ?_
    rintro e w1 ⟨rfl, hg⟩
    have GG := Lib.hid (G0.out.trans hg)
    clear hg
    go_wp2
    go_ret
    exact ⟨rfl, GG.out⟩
  · have h0 : (0 : Int) < (b : Int) := by omega
    have HD : Hid (decide (0 < b ∧ b ≤ 1024) = decide ((b : Int) ≤ 1024)) := Lib.hid (decide_eq_decide.2 ⟨fun h => by omega, fun h' => by omega⟩)
    clear h
    go_enter Try.func90, Try.ntmps90
    go_wp2_with fail
    refine (HS.out _ G0.out).mono ?_
    rintro e w1 ⟨rfl, hg⟩
    have GG := Lib.hid (G0.out.trans hg)
    clear hg
    go_wp2
    go_ret
    exact ⟨by rw [HD.out]; rfl, GG.out⟩
set_option maxHeartbeats 2000000 in
theorem isZero_v {p : Option Addr} {n c x : Nat} {w : World} (hl : Nw w p n c (digs x)) :
    Calls Try.prog 86 #[.agg #[.slice p n c]] w fun e w' => e = .returned (.bool (decide (x = 0))) ∧ Gr w w' := by
  have hn : decide (x = 0) = decide ((n : Int) = 0) := by
    have := hl.len
    rcases Nat.eq_zero_or_pos x with h | h
    · subst h; rw [digs_zero] at this; subst this; rfl
    · rw [digs_pos (by omega)] at this
      rw [decide_eq_false (by omega), decide_eq_false]
      intro h0
      have : n = 0 := by omega
      subst this
      cases ‹_ = 0›
  have HN := Lib.hid hn
  have G0 := Lib.hid ((Gr.refl w).alloc (.cells #[.slice p n c] 24))
  clear hl hn
  go_enter Try.func86, Try.ntmps86
  go_wp2
  go_ret
  exact ⟨by rw [HN.out]; first | rfl | (rw [Bool.eq_iff_iff]; simp), G0.out⟩
set_option maxHeartbeats 2000000 in
theorem one_v (w : World) : Calls Try.prog 81 #[] w (Num 1 w) := by
  have h1 : digs 1 = [1] := by rw [digs_pos (by decide), show 1 / 4294967296 = 0 from rfl, digs_zero]
  have HN : Hid (Nr w.heap.size ((w.alloc (.cells #[.slice (some ⟨w.heap.size + 1, 0, none⟩) 1 1] 24)).alloc (.cells #[.int .u32 1] 50)) (some ⟨w.heap.size + 1, 0, none⟩) 1 1 (digs 1)) := Lib.hid (by
    rw [h1]
    refine ⟨nw_lit rfl (by simp only [ok_cons]; exact ⟨by decide, ok_nil⟩) (by decide) ?_, .inr ⟨w.heap.size + 1, 0, rfl, by omega, ?_⟩⟩
    · intro i hi
      match i, hi with
      | 0, _ => simp [go_sem]
    · intro i hi
      match i, hi with
      | 0, _ => simp [go_sem])
  have G0 := Lib.hid (((Gr.refl w).alloc (.cells #[.slice (some ⟨w.heap.size + 1, 0, none⟩) 1 1] 24)).alloc (.cells #[.int .u32 1] 50))
  clear h1
  go_enter Try.func81, Try.ntmps81
  go_wp2
  refine bodyPost_ret (v := .agg #[.slice (some ⟨w.heap.size + 1, 0, none⟩) 1 1]) (by simp [results, Try.results81, go_sem]) rfl ⟨_, _, _, rfl, HN.out, G0.out⟩
end Go.Proofs.Ytlciocebbckdcaa.Mo


/- The contract of natmod's check. -/
namespace Go.Proofs.Ytlciocebbckdcaa.Mo
open Go.RowKit Go.Shelf Go.Proofs.Ytlciocebbckdcaa.Nm Go.Proofs.Ytlciocebbckdcaa.Ne Go.Proofs.Ytlciocebbckdcaa.Nf Go.Proofs.Ytlciocebbckdcaa.Nk Go.Proofs.Ytlciocebbckdcaa.Nv Go.Proofs.Ytlciocebbckdcaa.Nr2

set_option maxHeartbeats 4000000 in
theorem check_arg {pa : Option Addr} {na ca : Nat} {pp : Option Addr} {np cp : Nat} {pb : Option Addr} {nb cb : Nat} {pq : Option Addr} {nq cq : Nat} {la lp lb lq : List Nat} {w : World} (ha : Nw w pa na ca la) (hp : Nw w pp np cp lp) (hb : Nw w pb nb cb lb) (hq : Nw w pq nq cq lq) (hv : (decide (valid la) && (decide (valid lb) && (im lp && im lq))) = false) :
    Calls Try.prog 70 #[.agg #[.slice pa na ca], .agg #[.slice pp np cp], .agg #[.slice pb nb cb], .agg #[.slice pq nq cq]] w fun e w' => e = .returned (.int .i64 1) ∧ Gr w w' := by
  have Ha := Lib.hid ha
  have Hp := Lib.hid hp
  have Hb := Lib.hid hb
  have Hq := Lib.hid hq
  clear ha hp hb hq
  have CA : Hid (decide (valid la) = false) ∨ (Hid (decide (valid la) = true) ∧ (Hid (decide (valid lb) = false) ∨ (Hid (decide (valid lb) = true) ∧ (Hid (im lp = false) ∨ (Hid (im lp = true) ∧ Hid (im lq = false)))))) := by
    cases h1 : decide (valid la) with
    | false => exact .inl rfl
    | true =>
      cases h2 : decide (valid lb) with
      | false => exact .inr ⟨rfl, .inl rfl⟩
      | true =>
        cases h3 : im lp with
        | false => exact .inr ⟨rfl, .inr ⟨rfl, .inl rfl⟩⟩
        | true => exact .inr ⟨rfl, .inr ⟨rfl, .inr ⟨rfl, by rw [h1, h2, h3] at hv; exact hv⟩⟩⟩
  clear hv
  rcases CA with F1 | ⟨F1, F2 | ⟨F2, F3 | ⟨F3, F4⟩⟩⟩

  · have G0 := Lib.hid (((((Gr.refl w).alloc (.cells #[.slice pa na ca] 24)).alloc (.cells #[.slice pp np cp] 24)).alloc (.cells #[.slice pb nb cb] 24)).alloc (.cells #[.slice pq nq cq] 24))
    have k_a : ((((w.alloc (.cells #[.slice pa na ca] 24)).alloc (.cells #[.slice pp np cp] 24)).alloc (.cells #[.slice pb nb cb] 24)).alloc (.cells #[.slice pq nq cq] 24)).cell? ⟨w.heap.size, 0, none⟩ = some (.slice pa na ca) := by simp [go_sem]
    have k_p : ((((w.alloc (.cells #[.slice pa na ca] 24)).alloc (.cells #[.slice pp np cp] 24)).alloc (.cells #[.slice pb nb cb] 24)).alloc (.cells #[.slice pq nq cq] 24)).cell? ⟨w.heap.size + 1, 0, none⟩ = some (.slice pp np cp) := by simp [go_sem]
    have k_b : ((((w.alloc (.cells #[.slice pa na ca] 24)).alloc (.cells #[.slice pp np cp] 24)).alloc (.cells #[.slice pb nb cb] 24)).alloc (.cells #[.slice pq nq cq] 24)).cell? ⟨w.heap.size + 1 + 1, 0, none⟩ = some (.slice pb nb cb) := by simp [go_sem]
    have k_q : ((((w.alloc (.cells #[.slice pa na ca] 24)).alloc (.cells #[.slice pp np cp] 24)).alloc (.cells #[.slice pb nb cb] 24)).alloc (.cells #[.slice pq nq cq] 24)).cell? ⟨w.heap.size + 1 + 1 + 1, 0, none⟩ = some (.slice pq nq cq) := by simp [go_sem]
    go_enter Try.func70, Try.ntmps70
    go_wp2_with fail
    refine (Valid_n pa na ca _ _ (Ha.out.grow G0.out)).mono ?_
    rintro e w1 ⟨rfl, hg⟩
    rw [F1.out]
    replace k_a := hg.cell k_a
    replace k_p := hg.cell k_p
    replace k_b := hg.cell k_b
    replace k_q := hg.cell k_q
    have G1 := Lib.hid (G0.out.trans hg)
    clear hg
    go_wp2
    go_ret
    exact ⟨rfl, G1.out⟩
  · have G0 := Lib.hid (((((Gr.refl w).alloc (.cells #[.slice pa na ca] 24)).alloc (.cells #[.slice pp np cp] 24)).alloc (.cells #[.slice pb nb cb] 24)).alloc (.cells #[.slice pq nq cq] 24))
    have k_a : ((((w.alloc (.cells #[.slice pa na ca] 24)).alloc (.cells #[.slice pp np cp] 24)).alloc (.cells #[.slice pb nb cb] 24)).alloc (.cells #[.slice pq nq cq] 24)).cell? ⟨w.heap.size, 0, none⟩ = some (.slice pa na ca) := by simp [go_sem]
    have k_p : ((((w.alloc (.cells #[.slice pa na ca] 24)).alloc (.cells #[.slice pp np cp] 24)).alloc (.cells #[.slice pb nb cb] 24)).alloc (.cells #[.slice pq nq cq] 24)).cell? ⟨w.heap.size + 1, 0, none⟩ = some (.slice pp np cp) := by simp [go_sem]
    have k_b : ((((w.alloc (.cells #[.slice pa na ca] 24)).alloc (.cells #[.slice pp np cp] 24)).alloc (.cells #[.slice pb nb cb] 24)).alloc (.cells #[.slice pq nq cq] 24)).cell? ⟨w.heap.size + 1 + 1, 0, none⟩ = some (.slice pb nb cb) := by simp [go_sem]
    have k_q : ((((w.alloc (.cells #[.slice pa na ca] 24)).alloc (.cells #[.slice pp np cp] 24)).alloc (.cells #[.slice pb nb cb] 24)).alloc (.cells #[.slice pq nq cq] 24)).cell? ⟨w.heap.size + 1 + 1 + 1, 0, none⟩ = some (.slice pq nq cq) := by simp [go_sem]
    go_enter Try.func70, Try.ntmps70
    go_wp2_with fail
    refine (Valid_n pa na ca _ _ (Ha.out.grow G0.out)).mono ?_
    rintro e w1 ⟨rfl, hg⟩
    rw [F1.out]
    replace k_a := hg.cell k_a
    replace k_p := hg.cell k_p
    replace k_b := hg.cell k_b
    replace k_q := hg.cell k_q
    have G1 := Lib.hid (G0.out.trans hg)
    clear hg
    go_wp2_with fail
    refine (Valid_n pb nb cb _ _ (Hb.out.grow G1.out)).mono ?_
    rintro e w2 ⟨rfl, hg⟩
    rw [F2.out]
    replace k_a := hg.cell k_a
    replace k_p := hg.cell k_p
    replace k_b := hg.cell k_b
    replace k_q := hg.cell k_q
    have G2 := Lib.hid (G1.out.trans hg)
    clear hg
    go_wp2
    go_ret
    exact ⟨rfl, G2.out⟩
  · have G0 := Lib.hid (((((Gr.refl w).alloc (.cells #[.slice pa na ca] 24)).alloc (.cells #[.slice pp np cp] 24)).alloc (.cells #[.slice pb nb cb] 24)).alloc (.cells #[.slice pq nq cq] 24))
    have k_a : ((((w.alloc (.cells #[.slice pa na ca] 24)).alloc (.cells #[.slice pp np cp] 24)).alloc (.cells #[.slice pb nb cb] 24)).alloc (.cells #[.slice pq nq cq] 24)).cell? ⟨w.heap.size, 0, none⟩ = some (.slice pa na ca) := by simp [go_sem]
    have k_p : ((((w.alloc (.cells #[.slice pa na ca] 24)).alloc (.cells #[.slice pp np cp] 24)).alloc (.cells #[.slice pb nb cb] 24)).alloc (.cells #[.slice pq nq cq] 24)).cell? ⟨w.heap.size + 1, 0, none⟩ = some (.slice pp np cp) := by simp [go_sem]
    have k_b : ((((w.alloc (.cells #[.slice pa na ca] 24)).alloc (.cells #[.slice pp np cp] 24)).alloc (.cells #[.slice pb nb cb] 24)).alloc (.cells #[.slice pq nq cq] 24)).cell? ⟨w.heap.size + 1 + 1, 0, none⟩ = some (.slice pb nb cb) := by simp [go_sem]
    have k_q : ((((w.alloc (.cells #[.slice pa na ca] 24)).alloc (.cells #[.slice pp np cp] 24)).alloc (.cells #[.slice pb nb cb] 24)).alloc (.cells #[.slice pq nq cq] 24)).cell? ⟨w.heap.size + 1 + 1 + 1, 0, none⟩ = some (.slice pq nq cq) := by simp [go_sem]
    go_enter Try.func70, Try.ntmps70
    go_wp2_with fail
    refine (Valid_n pa na ca _ _ (Ha.out.grow G0.out)).mono ?_
    rintro e w1 ⟨rfl, hg⟩
    rw [F1.out]
    replace k_a := hg.cell k_a
    replace k_p := hg.cell k_p
    replace k_b := hg.cell k_b
    replace k_q := hg.cell k_q
    have G1 := Lib.hid (G0.out.trans hg)
    clear hg
    go_wp2_with fail
    refine (Valid_n pb nb cb _ _ (Hb.out.grow G1.out)).mono ?_
    rintro e w2 ⟨rfl, hg⟩
    rw [F2.out]
    replace k_a := hg.cell k_a
    replace k_p := hg.cell k_p
    replace k_b := hg.cell k_b
    replace k_q := hg.cell k_q
    have G2 := Lib.hid (G1.out.trans hg)
    clear hg
    go_wp2_with fail
    refine (isModulus_any (Hp.out.grow G2.out)).mono ?_
    rintro e w3 ⟨rfl, hg⟩
    rw [F3.out]
    replace k_a := hg.cell k_a
    replace k_p := hg.cell k_p
    replace k_b := hg.cell k_b
    replace k_q := hg.cell k_q
    have G3 := Lib.hid (G2.out.trans hg)
    clear hg
    go_wp2
    go_ret
    exact ⟨rfl, G3.out⟩
  · have G0 := Lib.hid (((((Gr.refl w).alloc (.cells #[.slice pa na ca] 24)).alloc (.cells #[.slice pp np cp] 24)).alloc (.cells #[.slice pb nb cb] 24)).alloc (.cells #[.slice pq nq cq] 24))
    have k_a : ((((w.alloc (.cells #[.slice pa na ca] 24)).alloc (.cells #[.slice pp np cp] 24)).alloc (.cells #[.slice pb nb cb] 24)).alloc (.cells #[.slice pq nq cq] 24)).cell? ⟨w.heap.size, 0, none⟩ = some (.slice pa na ca) := by simp [go_sem]
    have k_p : ((((w.alloc (.cells #[.slice pa na ca] 24)).alloc (.cells #[.slice pp np cp] 24)).alloc (.cells #[.slice pb nb cb] 24)).alloc (.cells #[.slice pq nq cq] 24)).cell? ⟨w.heap.size + 1, 0, none⟩ = some (.slice pp np cp) := by simp [go_sem]
    have k_b : ((((w.alloc (.cells #[.slice pa na ca] 24)).alloc (.cells #[.slice pp np cp] 24)).alloc (.cells #[.slice pb nb cb] 24)).alloc (.cells #[.slice pq nq cq] 24)).cell? ⟨w.heap.size + 1 + 1, 0, none⟩ = some (.slice pb nb cb) := by simp [go_sem]
    have k_q : ((((w.alloc (.cells #[.slice pa na ca] 24)).alloc (.cells #[.slice pp np cp] 24)).alloc (.cells #[.slice pb nb cb] 24)).alloc (.cells #[.slice pq nq cq] 24)).cell? ⟨w.heap.size + 1 + 1 + 1, 0, none⟩ = some (.slice pq nq cq) := by simp [go_sem]
    go_enter Try.func70, Try.ntmps70
    go_wp2_with fail
    refine (Valid_n pa na ca _ _ (Ha.out.grow G0.out)).mono ?_
    rintro e w1 ⟨rfl, hg⟩
    rw [F1.out]
    replace k_a := hg.cell k_a
    replace k_p := hg.cell k_p
    replace k_b := hg.cell k_b
    replace k_q := hg.cell k_q
    have G1 := Lib.hid (G0.out.trans hg)
    clear hg
    go_wp2_with fail
    refine (Valid_n pb nb cb _ _ (Hb.out.grow G1.out)).mono ?_
    rintro e w2 ⟨rfl, hg⟩
    rw [F2.out]
    replace k_a := hg.cell k_a
    replace k_p := hg.cell k_p
    replace k_b := hg.cell k_b
    replace k_q := hg.cell k_q
    have G2 := Lib.hid (G1.out.trans hg)
    clear hg
    go_wp2_with fail
    refine (isModulus_any (Hp.out.grow G2.out)).mono ?_
    rintro e w3 ⟨rfl, hg⟩
    rw [F3.out]
    replace k_a := hg.cell k_a
    replace k_p := hg.cell k_p
    replace k_b := hg.cell k_b
    replace k_q := hg.cell k_q
    have G3 := Lib.hid (G2.out.trans hg)
    clear hg
    go_wp2_with fail
    refine (isModulus_any (Hq.out.grow G3.out)).mono ?_
    rintro e w4 ⟨rfl, hg⟩
    rw [F4.out]
    replace k_a := hg.cell k_a
    replace k_p := hg.cell k_p
    replace k_b := hg.cell k_b
    replace k_q := hg.cell k_q
    have G4 := Lib.hid (G3.out.trans hg)
    clear hg
    go_wp2
    go_ret
    exact ⟨rfl, G4.out⟩
theorem im_value {l : List Nat} {w : World} {p : Option Addr} {n c : Nat} (h : Nw w p n c l) (hi : im l = true) : ∃ x, 0 < x ∧ x < pw 32 ∧ l = digs x := by
  have h' := of_decide_eq_true hi
  obtain ⟨x, hx, rfl⟩ := nw_value h (decide_eq_true h'.1)
  rw [val_digs] at h'
  exact ⟨x, h'.2.1, h'.2.2, rfl⟩
theorem lt64 {x : Nat} (h : x < pw 32) : x < pw 64 := Nat.lt_of_lt_of_le h (pw_mono (by decide))
theorem im_digs {x : Nat} (h0 : 0 < x) (h : x < pw 32) : im (digs x) = true := decide_eq_true ⟨of_decide_eq_true (dv (lt64 h)), by rw [val_digs]; exact ⟨h0, h⟩⟩
set_option maxHeartbeats 4000000 in
theorem check_v {pa : Option Addr} {na ca : Nat} {pp : Option Addr} {np cp : Nat} {pb : Option Addr} {nb cb : Nat} {pq : Option Addr} {nq cq : Nat} {a p b q : Nat} {w : World} (ha : Nw w pa na ca (digs a)) (hp : Nw w pp np cp (digs p)) (hb : Nw w pb nb cb (digs b)) (hq : Nw w pq nq cq (digs q)) (va : a < pw 64) (vb : b < pw 64) (vp : 0 < p) (vp2 : p < pw 32) (vq : 0 < q) (vq2 : q < pw 32) :
    Calls Try.prog 70 #[.agg #[.slice pa na ca], .agg #[.slice pp np cp], .agg #[.slice pb nb cb], .agg #[.slice pq nq cq]] w fun e w' => e = .returned (.int .i64 (if a < p ∧ b < q then 0 else 2)) ∧ Gr w w' := by
  have Ha := Lib.hid ha
  have Hp := Lib.hid hp
  have Hb := Lib.hid hb
  have Hq := Lib.hid hq
  have F1 := Lib.hid (dv va)
  have F2 := Lib.hid (dv vb)
  have F3 := Lib.hid (im_digs vp vp2)
  have F4 := Lib.hid (im_digs vq vq2)
  have L1 := Lib.hid (fun W (hW : Gr w W) => mless_v (w := W) (ha.grow hW) (hp.grow hW) va (lt64 vp2))
  have L2 := Lib.hid (fun W (hW : Gr w W) => mless_v (w := W) (hb.grow hW) (hq.grow hW) vb (lt64 vq2))
  clear ha hp hb hq va vb vp vp2 vq vq2
  by_cases h1 : a < p
  · rw [decide_eq_true h1] at L1
    by_cases h2 : b < q
    · rw [decide_eq_true h2] at L2
      rw [if_pos ⟨h1, h2⟩]
      clear h1 h2
      have G0 := Lib.hid (((((Gr.refl w).alloc (.cells #[.slice pa na ca] 24)).alloc (.cells #[.slice pp np cp] 24)).alloc (.cells #[.slice pb nb cb] 24)).alloc (.cells #[.slice pq nq cq] 24))
      have k_a : ((((w.alloc (.cells #[.slice pa na ca] 24)).alloc (.cells #[.slice pp np cp] 24)).alloc (.cells #[.slice pb nb cb] 24)).alloc (.cells #[.slice pq nq cq] 24)).cell? ⟨w.heap.size, 0, none⟩ = some (.slice pa na ca) := by simp [go_sem]
      have k_p : ((((w.alloc (.cells #[.slice pa na ca] 24)).alloc (.cells #[.slice pp np cp] 24)).alloc (.cells #[.slice pb nb cb] 24)).alloc (.cells #[.slice pq nq cq] 24)).cell? ⟨w.heap.size + 1, 0, none⟩ = some (.slice pp np cp) := by simp [go_sem]
      have k_b : ((((w.alloc (.cells #[.slice pa na ca] 24)).alloc (.cells #[.slice pp np cp] 24)).alloc (.cells #[.slice pb nb cb] 24)).alloc (.cells #[.slice pq nq cq] 24)).cell? ⟨w.heap.size + 1 + 1, 0, none⟩ = some (.slice pb nb cb) := by simp [go_sem]
      have k_q : ((((w.alloc (.cells #[.slice pa na ca] 24)).alloc (.cells #[.slice pp np cp] 24)).alloc (.cells #[.slice pb nb cb] 24)).alloc (.cells #[.slice pq nq cq] 24)).cell? ⟨w.heap.size + 1 + 1 + 1, 0, none⟩ = some (.slice pq nq cq) := by simp [go_sem]
      go_enter Try.func70, Try.ntmps70
      go_wp2_with fail
      refine (Valid_n pa na ca _ _ (Ha.out.grow G0.out)).mono ?_
      rintro e w1 ⟨rfl, hg⟩
      rw [F1.out]
      replace k_a := hg.cell k_a
      replace k_p := hg.cell k_p
      replace k_b := hg.cell k_b
      replace k_q := hg.cell k_q
      have G1 := Lib.hid (G0.out.trans hg)
      clear hg
      go_wp2_with fail
      refine (Valid_n pb nb cb _ _ (Hb.out.grow G1.out)).mono ?_
      rintro e w2 ⟨rfl, hg⟩
      rw [F2.out]
      replace k_a := hg.cell k_a
      replace k_p := hg.cell k_p
      replace k_b := hg.cell k_b
      replace k_q := hg.cell k_q
      have G2 := Lib.hid (G1.out.trans hg)
      clear hg
      go_wp2_with fail
      refine (isModulus_any (Hp.out.grow G2.out)).mono ?_
      rintro e w3 ⟨rfl, hg⟩
      rw [F3.out]
      replace k_a := hg.cell k_a
      replace k_p := hg.cell k_p
      replace k_b := hg.cell k_b
      replace k_q := hg.cell k_q
      have G3 := Lib.hid (G2.out.trans hg)
      clear hg
      go_wp2_with fail
      refine (isModulus_any (Hq.out.grow G3.out)).mono ?_
      rintro e w4 ⟨rfl, hg⟩
      rw [F4.out]
      replace k_a := hg.cell k_a
      replace k_p := hg.cell k_p
      replace k_b := hg.cell k_b
      replace k_q := hg.cell k_q
      have G4 := Lib.hid (G3.out.trans hg)
      clear hg
      go_wp2_with fail
      refine (L1.out _ G4.out).mono ?_
      rintro e w5 ⟨rfl, hg⟩
      replace k_a := hg.cell k_a
      replace k_p := hg.cell k_p
      replace k_b := hg.cell k_b
      replace k_q := hg.cell k_q
      have G5 := Lib.hid (G4.out.trans hg)
      clear hg
      go_wp2_with fail
      refine (L2.out _ G5.out).mono ?_
      rintro e w6 ⟨rfl, hg⟩
      replace k_a := hg.cell k_a
      replace k_p := hg.cell k_p
      replace k_b := hg.cell k_b
      replace k_q := hg.cell k_q
      have G6 := Lib.hid (G5.out.trans hg)
      clear hg
      go_wp2
      go_ret
      exact ⟨rfl, G6.out⟩
    · rw [decide_eq_false h2] at L2
      rw [if_neg (fun h => h2 h.2)]
      clear h1 h2
      have G0 := Lib.hid (((((Gr.refl w).alloc (.cells #[.slice pa na ca] 24)).alloc (.cells #[.slice pp np cp] 24)).alloc (.cells #[.slice pb nb cb] 24)).alloc (.cells #[.slice pq nq cq] 24))
      have k_a : ((((w.alloc (.cells #[.slice pa na ca] 24)).alloc (.cells #[.slice pp np cp] 24)).alloc (.cells #[.slice pb nb cb] 24)).alloc (.cells #[.slice pq nq cq] 24)).cell? ⟨w.heap.size, 0, none⟩ = some (.slice pa na ca) := by simp [go_sem]
      have k_p : ((((w.alloc (.cells #[.slice pa na ca] 24)).alloc (.cells #[.slice pp np cp] 24)).alloc (.cells #[.slice pb nb cb] 24)).alloc (.cells #[.slice pq nq cq] 24)).cell? ⟨w.heap.size + 1, 0, none⟩ = some (.slice pp np cp) := by simp [go_sem]
      have k_b : ((((w.alloc (.cells #[.slice pa na ca] 24)).alloc (.cells #[.slice pp np cp] 24)).alloc (.cells #[.slice pb nb cb] 24)).alloc (.cells #[.slice pq nq cq] 24)).cell? ⟨w.heap.size + 1 + 1, 0, none⟩ = some (.slice pb nb cb) := by simp [go_sem]
      have k_q : ((((w.alloc (.cells #[.slice pa na ca] 24)).alloc (.cells #[.slice pp np cp] 24)).alloc (.cells #[.slice pb nb cb] 24)).alloc (.cells #[.slice pq nq cq] 24)).cell? ⟨w.heap.size + 1 + 1 + 1, 0, none⟩ = some (.slice pq nq cq) := by simp [go_sem]
      go_enter Try.func70, Try.ntmps70
      go_wp2_with fail
      refine (Valid_n pa na ca _ _ (Ha.out.grow G0.out)).mono ?_
      rintro e w1 ⟨rfl, hg⟩
      rw [F1.out]
      replace k_a := hg.cell k_a
      replace k_p := hg.cell k_p
      replace k_b := hg.cell k_b
      replace k_q := hg.cell k_q
      have G1 := Lib.hid (G0.out.trans hg)
      clear hg
      go_wp2_with fail
      refine (Valid_n pb nb cb _ _ (Hb.out.grow G1.out)).mono ?_
      rintro e w2 ⟨rfl, hg⟩
      rw [F2.out]
      replace k_a := hg.cell k_a
      replace k_p := hg.cell k_p
      replace k_b := hg.cell k_b
      replace k_q := hg.cell k_q
      have G2 := Lib.hid (G1.out.trans hg)
      clear hg
      go_wp2_with fail
      refine (isModulus_any (Hp.out.grow G2.out)).mono ?_
      rintro e w3 ⟨rfl, hg⟩
      rw [F3.out]
      replace k_a := hg.cell k_a
      replace k_p := hg.cell k_p
      replace k_b := hg.cell k_b
      replace k_q := hg.cell k_q
      have G3 := Lib.hid (G2.out.trans hg)
      clear hg
      go_wp2_with fail
      refine (isModulus_any (Hq.out.grow G3.out)).mono ?_
      rintro e w4 ⟨rfl, hg⟩
      rw [F4.out]
      replace k_a := hg.cell k_a
      replace k_p := hg.cell k_p
      replace k_b := hg.cell k_b
      replace k_q := hg.cell k_q
      have G4 := Lib.hid (G3.out.trans hg)
      clear hg
      go_wp2_with fail
      refine (L1.out _ G4.out).mono ?_
      rintro e w5 ⟨rfl, hg⟩
      replace k_a := hg.cell k_a
      replace k_p := hg.cell k_p
      replace k_b := hg.cell k_b
      replace k_q := hg.cell k_q
      have G5 := Lib.hid (G4.out.trans hg)
      clear hg
      go_wp2_with fail
      refine (L2.out _ G5.out).mono ?_
      rintro e w6 ⟨rfl, hg⟩
      replace k_a := hg.cell k_a
      replace k_p := hg.cell k_p
      replace k_b := hg.cell k_b
      replace k_q := hg.cell k_q
      have G6 := Lib.hid (G5.out.trans hg)
      clear hg
      go_wp2
      go_ret
      exact ⟨rfl, G6.out⟩
  · rw [decide_eq_false h1] at L1
    rw [if_neg (fun h => h1 h.1)]
    clear h1 L2
    have G0 := Lib.hid (((((Gr.refl w).alloc (.cells #[.slice pa na ca] 24)).alloc (.cells #[.slice pp np cp] 24)).alloc (.cells #[.slice pb nb cb] 24)).alloc (.cells #[.slice pq nq cq] 24))
    have k_a : ((((w.alloc (.cells #[.slice pa na ca] 24)).alloc (.cells #[.slice pp np cp] 24)).alloc (.cells #[.slice pb nb cb] 24)).alloc (.cells #[.slice pq nq cq] 24)).cell? ⟨w.heap.size, 0, none⟩ = some (.slice pa na ca) := by simp [go_sem]
    have k_p : ((((w.alloc (.cells #[.slice pa na ca] 24)).alloc (.cells #[.slice pp np cp] 24)).alloc (.cells #[.slice pb nb cb] 24)).alloc (.cells #[.slice pq nq cq] 24)).cell? ⟨w.heap.size + 1, 0, none⟩ = some (.slice pp np cp) := by simp [go_sem]
    have k_b : ((((w.alloc (.cells #[.slice pa na ca] 24)).alloc (.cells #[.slice pp np cp] 24)).alloc (.cells #[.slice pb nb cb] 24)).alloc (.cells #[.slice pq nq cq] 24)).cell? ⟨w.heap.size + 1 + 1, 0, none⟩ = some (.slice pb nb cb) := by simp [go_sem]
    have k_q : ((((w.alloc (.cells #[.slice pa na ca] 24)).alloc (.cells #[.slice pp np cp] 24)).alloc (.cells #[.slice pb nb cb] 24)).alloc (.cells #[.slice pq nq cq] 24)).cell? ⟨w.heap.size + 1 + 1 + 1, 0, none⟩ = some (.slice pq nq cq) := by simp [go_sem]
    go_enter Try.func70, Try.ntmps70
    go_wp2_with fail
    refine (Valid_n pa na ca _ _ (Ha.out.grow G0.out)).mono ?_
    rintro e w1 ⟨rfl, hg⟩
    rw [F1.out]
    replace k_a := hg.cell k_a
    replace k_p := hg.cell k_p
    replace k_b := hg.cell k_b
    replace k_q := hg.cell k_q
    have G1 := Lib.hid (G0.out.trans hg)
    clear hg
    go_wp2_with fail
    refine (Valid_n pb nb cb _ _ (Hb.out.grow G1.out)).mono ?_
    rintro e w2 ⟨rfl, hg⟩
    rw [F2.out]
    replace k_a := hg.cell k_a
    replace k_p := hg.cell k_p
    replace k_b := hg.cell k_b
    replace k_q := hg.cell k_q
    have G2 := Lib.hid (G1.out.trans hg)
    clear hg
    go_wp2_with fail
    refine (isModulus_any (Hp.out.grow G2.out)).mono ?_
    rintro e w3 ⟨rfl, hg⟩
    rw [F3.out]
    replace k_a := hg.cell k_a
    replace k_p := hg.cell k_p
    replace k_b := hg.cell k_b
    replace k_q := hg.cell k_q
    have G3 := Lib.hid (G2.out.trans hg)
    clear hg
    go_wp2_with fail
    refine (isModulus_any (Hq.out.grow G3.out)).mono ?_
    rintro e w4 ⟨rfl, hg⟩
    rw [F4.out]
    replace k_a := hg.cell k_a
    replace k_p := hg.cell k_p
    replace k_b := hg.cell k_b
    replace k_q := hg.cell k_q
    have G4 := Lib.hid (G3.out.trans hg)
    clear hg
    go_wp2_with fail
    refine (L1.out _ G4.out).mono ?_
    rintro e w5 ⟨rfl, hg⟩
    replace k_a := hg.cell k_a
    replace k_p := hg.cell k_p
    replace k_b := hg.cell k_b
    replace k_q := hg.cell k_q
    have G5 := Lib.hid (G4.out.trans hg)
    clear hg
    go_wp2
    go_ret
    exact ⟨rfl, G5.out⟩
end Go.Proofs.Ytlciocebbckdcaa.Mo


/- The contracts of natmod's Add, Sub and Mul. -/
namespace Go.Proofs.Ytlciocebbckdcaa.Mo
open Go.RowKit Go.Shelf Go.Proofs.Ytlciocebbckdcaa.Nm Go.Proofs.Ytlciocebbckdcaa.Ne Go.Proofs.Ytlciocebbckdcaa.Nf Go.Proofs.Ytlciocebbckdcaa.Nk Go.Proofs.Ytlciocebbckdcaa.Nv Go.Proofs.Ytlciocebbckdcaa.Nr2

/-- What check answers for a, p, b and q, at every world from w on. -/
def Chk (w : World) (a p b q : Value) (k : Int) : Prop := ∀ W, Gr w W → Calls Try.prog 70 #[a, p, b, q] W fun e w' => e = .returned (.int .i64 k) ∧ Gr W w'
theorem sum_lt {x y m : Nat} (hx : x < m) (hy : y < m) (hm : m < pw 32) : x + y < pw 64 := by
  have h1 : pw 64 = pw 32 * pw 32 := by rw [← pw_add]
  have h2 : 2 ≤ pw 32 := Nat.le_trans (by decide) (pw_mono (show 1 ≤ 32 by decide))
  have := Nat.mul_le_mul_right (pw 32) h2
  omega
theorem sum_lt2 {x m : Nat} (hx : x < m) (hm : m < pw 32) : x + m < pw 64 := by
  have h1 : pw 64 = pw 32 * pw 32 := by rw [← pw_add]
  have h2 : 2 ≤ pw 32 := Nat.le_trans (by decide) (pw_mono (show 1 ≤ 32 by decide))
  have := Nat.mul_le_mul_right (pw 32) h2
  omega
theorem mul_lt {x y m : Nat} (hx : x < m) (hy : y < m) (hm : m < pw 32) : x * y < pw 64 := by
  have h1 : pw 64 = pw 32 * pw 32 := by rw [← pw_add]
  rw [h1]
  exact Nat.mul_lt_mul'' (by omega) (by omega)

set_option maxHeartbeats 4000000 in
theorem mAdd_err {pa : Option Addr} {na ca : Nat} {pb : Option Addr} {nb cb : Nat} {pm : Option Addr} {nm cm : Nat} {k : Nat} {w : World} (hk : k = 1 ∨ k = 2) (hC : Chk w (.agg #[.slice pa na ca]) (.agg #[.slice pm nm cm]) (.agg #[.slice pb nb cb]) (.agg #[.slice pm nm cm]) (k : Int)) :
    Calls Try.prog 20 #[.agg #[.slice pa na ca], .agg #[.slice pb nb cb], .agg #[.slice pm nm cm]] w (Gives 0 k w) := by
  have HC := Lib.hid hC
  clear hC
  rcases hk with rfl | rfl

  · have G0 := Lib.hid (((((Gr.refl w).alloc (.cells #[.slice pa na ca] 24)).alloc (.cells #[.slice pb nb cb] 24)).alloc (.cells #[.slice pm nm cm] 24)).alloc (.cells #[.slice none 0 0] 24))
    have k_a : ((((w.alloc (.cells #[.slice pa na ca] 24)).alloc (.cells #[.slice pb nb cb] 24)).alloc (.cells #[.slice pm nm cm] 24)).alloc (.cells #[.slice none 0 0] 24)).cell? ⟨w.heap.size, 0, none⟩ = some (.slice pa na ca) := by simp [go_sem]
    have k_b : ((((w.alloc (.cells #[.slice pa na ca] 24)).alloc (.cells #[.slice pb nb cb] 24)).alloc (.cells #[.slice pm nm cm] 24)).alloc (.cells #[.slice none 0 0] 24)).cell? ⟨w.heap.size + 1, 0, none⟩ = some (.slice pb nb cb) := by simp [go_sem]
    have k_m : ((((w.alloc (.cells #[.slice pa na ca] 24)).alloc (.cells #[.slice pb nb cb] 24)).alloc (.cells #[.slice pm nm cm] 24)).alloc (.cells #[.slice none 0 0] 24)).cell? ⟨w.heap.size + 1 + 1, 0, none⟩ = some (.slice pm nm cm) := by simp [go_sem]
    have k_r : ((((w.alloc (.cells #[.slice pa na ca] 24)).alloc (.cells #[.slice pb nb cb] 24)).alloc (.cells #[.slice pm nm cm] 24)).alloc (.cells #[.slice none 0 0] 24)).cell? ⟨w.heap.size + 1 + 1 + 1, 0, none⟩ = some (.slice none 0 0) := by simp [go_sem]
    have f_r : ((((w.alloc (.cells #[.slice pa na ca] 24)).alloc (.cells #[.slice pb nb cb] 24)).alloc (.cells #[.slice pm nm cm] 24)).alloc (.cells #[.slice none 0 0] 24)).frozen? ⟨w.heap.size + 1 + 1 + 1, 0, none⟩ = false := by simp [go_sem]
    go_enter Try.func20, Try.ntmps20
    go_wp2_with fail
    refine (HC.out _ G0.out).mono ?_
    rintro e w1 ⟨rfl, hg⟩
    have f_r := hg.frozen k_r f_r
    replace k_a := hg.cell k_a
    replace k_b := hg.cell k_b
    replace k_m := hg.cell k_m
    replace k_r := hg.cell k_r
    have G1 := Lib.hid (G0.out.trans hg)
    clear hg
    go_wp2
    exact bodyPost_ret (v := .tuple #[.agg #[.slice none 0 0], .int .i64 1]) (by simp [results, Try.results20, go_sem, k_r]) rfl ⟨none, 0, 0, rfl, nr_nil _ _, G1.out.setCell (by simp; omega) _⟩
  · have G0 := Lib.hid (((((Gr.refl w).alloc (.cells #[.slice pa na ca] 24)).alloc (.cells #[.slice pb nb cb] 24)).alloc (.cells #[.slice pm nm cm] 24)).alloc (.cells #[.slice none 0 0] 24))
    have k_a : ((((w.alloc (.cells #[.slice pa na ca] 24)).alloc (.cells #[.slice pb nb cb] 24)).alloc (.cells #[.slice pm nm cm] 24)).alloc (.cells #[.slice none 0 0] 24)).cell? ⟨w.heap.size, 0, none⟩ = some (.slice pa na ca) := by simp [go_sem]
    have k_b : ((((w.alloc (.cells #[.slice pa na ca] 24)).alloc (.cells #[.slice pb nb cb] 24)).alloc (.cells #[.slice pm nm cm] 24)).alloc (.cells #[.slice none 0 0] 24)).cell? ⟨w.heap.size + 1, 0, none⟩ = some (.slice pb nb cb) := by simp [go_sem]
    have k_m : ((((w.alloc (.cells #[.slice pa na ca] 24)).alloc (.cells #[.slice pb nb cb] 24)).alloc (.cells #[.slice pm nm cm] 24)).alloc (.cells #[.slice none 0 0] 24)).cell? ⟨w.heap.size + 1 + 1, 0, none⟩ = some (.slice pm nm cm) := by simp [go_sem]
    have k_r : ((((w.alloc (.cells #[.slice pa na ca] 24)).alloc (.cells #[.slice pb nb cb] 24)).alloc (.cells #[.slice pm nm cm] 24)).alloc (.cells #[.slice none 0 0] 24)).cell? ⟨w.heap.size + 1 + 1 + 1, 0, none⟩ = some (.slice none 0 0) := by simp [go_sem]
    have f_r : ((((w.alloc (.cells #[.slice pa na ca] 24)).alloc (.cells #[.slice pb nb cb] 24)).alloc (.cells #[.slice pm nm cm] 24)).alloc (.cells #[.slice none 0 0] 24)).frozen? ⟨w.heap.size + 1 + 1 + 1, 0, none⟩ = false := by simp [go_sem]
    go_enter Try.func20, Try.ntmps20
    go_wp2_with fail
    refine (HC.out _ G0.out).mono ?_
    rintro e w1 ⟨rfl, hg⟩
    have f_r := hg.frozen k_r f_r
    replace k_a := hg.cell k_a
    replace k_b := hg.cell k_b
    replace k_m := hg.cell k_m
    replace k_r := hg.cell k_r
    have G1 := Lib.hid (G0.out.trans hg)
    clear hg
    go_wp2
    exact bodyPost_ret (v := .tuple #[.agg #[.slice none 0 0], .int .i64 2]) (by simp [results, Try.results20, go_sem, k_r]) rfl ⟨none, 0, 0, rfl, nr_nil _ _, G1.out.setCell (by simp; omega) _⟩
set_option maxHeartbeats 4000000 in
theorem mSub_err {pa : Option Addr} {na ca : Nat} {pb : Option Addr} {nb cb : Nat} {pm : Option Addr} {nm cm : Nat} {k : Nat} {w : World} (hk : k = 1 ∨ k = 2) (hC : Chk w (.agg #[.slice pa na ca]) (.agg #[.slice pm nm cm]) (.agg #[.slice pb nb cb]) (.agg #[.slice pm nm cm]) (k : Int)) :
    Calls Try.prog 21 #[.agg #[.slice pa na ca], .agg #[.slice pb nb cb], .agg #[.slice pm nm cm]] w (Gives 0 k w) := by
  have HC := Lib.hid hC
  clear hC
  rcases hk with rfl | rfl

  · have G0 := Lib.hid (((((Gr.refl w).alloc (.cells #[.slice pa na ca] 24)).alloc (.cells #[.slice pb nb cb] 24)).alloc (.cells #[.slice pm nm cm] 24)).alloc (.cells #[.slice none 0 0] 24))
    have k_a : ((((w.alloc (.cells #[.slice pa na ca] 24)).alloc (.cells #[.slice pb nb cb] 24)).alloc (.cells #[.slice pm nm cm] 24)).alloc (.cells #[.slice none 0 0] 24)).cell? ⟨w.heap.size, 0, none⟩ = some (.slice pa na ca) := by simp [go_sem]
    have k_b : ((((w.alloc (.cells #[.slice pa na ca] 24)).alloc (.cells #[.slice pb nb cb] 24)).alloc (.cells #[.slice pm nm cm] 24)).alloc (.cells #[.slice none 0 0] 24)).cell? ⟨w.heap.size + 1, 0, none⟩ = some (.slice pb nb cb) := by simp [go_sem]
    have k_m : ((((w.alloc (.cells #[.slice pa na ca] 24)).alloc (.cells #[.slice pb nb cb] 24)).alloc (.cells #[.slice pm nm cm] 24)).alloc (.cells #[.slice none 0 0] 24)).cell? ⟨w.heap.size + 1 + 1, 0, none⟩ = some (.slice pm nm cm) := by simp [go_sem]
    have k_r : ((((w.alloc (.cells #[.slice pa na ca] 24)).alloc (.cells #[.slice pb nb cb] 24)).alloc (.cells #[.slice pm nm cm] 24)).alloc (.cells #[.slice none 0 0] 24)).cell? ⟨w.heap.size + 1 + 1 + 1, 0, none⟩ = some (.slice none 0 0) := by simp [go_sem]
    have f_r : ((((w.alloc (.cells #[.slice pa na ca] 24)).alloc (.cells #[.slice pb nb cb] 24)).alloc (.cells #[.slice pm nm cm] 24)).alloc (.cells #[.slice none 0 0] 24)).frozen? ⟨w.heap.size + 1 + 1 + 1, 0, none⟩ = false := by simp [go_sem]
    have f_a : ((((w.alloc (.cells #[.slice pa na ca] 24)).alloc (.cells #[.slice pb nb cb] 24)).alloc (.cells #[.slice pm nm cm] 24)).alloc (.cells #[.slice none 0 0] 24)).frozen? ⟨w.heap.size, 0, none⟩ = false := by simp [go_sem]
    go_enter Try.func21, Try.ntmps21
    go_wp2_with fail
    refine (HC.out _ G0.out).mono ?_
    rintro e w1 ⟨rfl, hg⟩
    have f_r := hg.frozen k_r f_r
    have f_a := hg.frozen k_a f_a
    replace k_a := hg.cell k_a
    replace k_b := hg.cell k_b
    replace k_m := hg.cell k_m
    replace k_r := hg.cell k_r
    have G1 := Lib.hid (G0.out.trans hg)
    clear hg
    go_wp2
    exact bodyPost_ret (v := .tuple #[.agg #[.slice none 0 0], .int .i64 1]) (by simp [results, Try.results21, go_sem, k_r]) rfl ⟨none, 0, 0, rfl, nr_nil _ _, G1.out.setCell (by simp; omega) _⟩
  · have G0 := Lib.hid (((((Gr.refl w).alloc (.cells #[.slice pa na ca] 24)).alloc (.cells #[.slice pb nb cb] 24)).alloc (.cells #[.slice pm nm cm] 24)).alloc (.cells #[.slice none 0 0] 24))
    have k_a : ((((w.alloc (.cells #[.slice pa na ca] 24)).alloc (.cells #[.slice pb nb cb] 24)).alloc (.cells #[.slice pm nm cm] 24)).alloc (.cells #[.slice none 0 0] 24)).cell? ⟨w.heap.size, 0, none⟩ = some (.slice pa na ca) := by simp [go_sem]
    have k_b : ((((w.alloc (.cells #[.slice pa na ca] 24)).alloc (.cells #[.slice pb nb cb] 24)).alloc (.cells #[.slice pm nm cm] 24)).alloc (.cells #[.slice none 0 0] 24)).cell? ⟨w.heap.size + 1, 0, none⟩ = some (.slice pb nb cb) := by simp [go_sem]
    have k_m : ((((w.alloc (.cells #[.slice pa na ca] 24)).alloc (.cells #[.slice pb nb cb] 24)).alloc (.cells #[.slice pm nm cm] 24)).alloc (.cells #[.slice none 0 0] 24)).cell? ⟨w.heap.size + 1 + 1, 0, none⟩ = some (.slice pm nm cm) := by simp [go_sem]
    have k_r : ((((w.alloc (.cells #[.slice pa na ca] 24)).alloc (.cells #[.slice pb nb cb] 24)).alloc (.cells #[.slice pm nm cm] 24)).alloc (.cells #[.slice none 0 0] 24)).cell? ⟨w.heap.size + 1 + 1 + 1, 0, none⟩ = some (.slice none 0 0) := by simp [go_sem]
    have f_r : ((((w.alloc (.cells #[.slice pa na ca] 24)).alloc (.cells #[.slice pb nb cb] 24)).alloc (.cells #[.slice pm nm cm] 24)).alloc (.cells #[.slice none 0 0] 24)).frozen? ⟨w.heap.size + 1 + 1 + 1, 0, none⟩ = false := by simp [go_sem]
    have f_a : ((((w.alloc (.cells #[.slice pa na ca] 24)).alloc (.cells #[.slice pb nb cb] 24)).alloc (.cells #[.slice pm nm cm] 24)).alloc (.cells #[.slice none 0 0] 24)).frozen? ⟨w.heap.size, 0, none⟩ = false := by simp [go_sem]
    go_enter Try.func21, Try.ntmps21
    go_wp2_with fail
    refine (HC.out _ G0.out).mono ?_
    rintro e w1 ⟨rfl, hg⟩
    have f_r := hg.frozen k_r f_r
    have f_a := hg.frozen k_a f_a
    replace k_a := hg.cell k_a
    replace k_b := hg.cell k_b
    replace k_m := hg.cell k_m
    replace k_r := hg.cell k_r
    have G1 := Lib.hid (G0.out.trans hg)
    clear hg
    go_wp2
    exact bodyPost_ret (v := .tuple #[.agg #[.slice none 0 0], .int .i64 2]) (by simp [results, Try.results21, go_sem, k_r]) rfl ⟨none, 0, 0, rfl, nr_nil _ _, G1.out.setCell (by simp; omega) _⟩
set_option maxHeartbeats 4000000 in
theorem mMul_err {pa : Option Addr} {na ca : Nat} {pb : Option Addr} {nb cb : Nat} {pm : Option Addr} {nm cm : Nat} {k : Nat} {w : World} (hk : k = 1 ∨ k = 2) (hC : Chk w (.agg #[.slice pa na ca]) (.agg #[.slice pm nm cm]) (.agg #[.slice pb nb cb]) (.agg #[.slice pm nm cm]) (k : Int)) :
    Calls Try.prog 26 #[.agg #[.slice pa na ca], .agg #[.slice pb nb cb], .agg #[.slice pm nm cm]] w (Gives 0 k w) := by
  have HC := Lib.hid hC
  clear hC
  rcases hk with rfl | rfl

  · have G0 := Lib.hid (((((Gr.refl w).alloc (.cells #[.slice pa na ca] 24)).alloc (.cells #[.slice pb nb cb] 24)).alloc (.cells #[.slice pm nm cm] 24)).alloc (.cells #[.slice none 0 0] 24))
    have k_a : ((((w.alloc (.cells #[.slice pa na ca] 24)).alloc (.cells #[.slice pb nb cb] 24)).alloc (.cells #[.slice pm nm cm] 24)).alloc (.cells #[.slice none 0 0] 24)).cell? ⟨w.heap.size, 0, none⟩ = some (.slice pa na ca) := by simp [go_sem]
    have k_b : ((((w.alloc (.cells #[.slice pa na ca] 24)).alloc (.cells #[.slice pb nb cb] 24)).alloc (.cells #[.slice pm nm cm] 24)).alloc (.cells #[.slice none 0 0] 24)).cell? ⟨w.heap.size + 1, 0, none⟩ = some (.slice pb nb cb) := by simp [go_sem]
    have k_m : ((((w.alloc (.cells #[.slice pa na ca] 24)).alloc (.cells #[.slice pb nb cb] 24)).alloc (.cells #[.slice pm nm cm] 24)).alloc (.cells #[.slice none 0 0] 24)).cell? ⟨w.heap.size + 1 + 1, 0, none⟩ = some (.slice pm nm cm) := by simp [go_sem]
    have k_r : ((((w.alloc (.cells #[.slice pa na ca] 24)).alloc (.cells #[.slice pb nb cb] 24)).alloc (.cells #[.slice pm nm cm] 24)).alloc (.cells #[.slice none 0 0] 24)).cell? ⟨w.heap.size + 1 + 1 + 1, 0, none⟩ = some (.slice none 0 0) := by simp [go_sem]
    have f_r : ((((w.alloc (.cells #[.slice pa na ca] 24)).alloc (.cells #[.slice pb nb cb] 24)).alloc (.cells #[.slice pm nm cm] 24)).alloc (.cells #[.slice none 0 0] 24)).frozen? ⟨w.heap.size + 1 + 1 + 1, 0, none⟩ = false := by simp [go_sem]
    go_enter Try.func26, Try.ntmps26
    go_wp2_with fail
    refine (HC.out _ G0.out).mono ?_
    rintro e w1 ⟨rfl, hg⟩
    have f_r := hg.frozen k_r f_r
    replace k_a := hg.cell k_a
    replace k_b := hg.cell k_b
    replace k_m := hg.cell k_m
    replace k_r := hg.cell k_r
    have G1 := Lib.hid (G0.out.trans hg)
    clear hg
    go_wp2
    exact bodyPost_ret (v := .tuple #[.agg #[.slice none 0 0], .int .i64 1]) (by simp [results, Try.results26, go_sem, k_r]) rfl ⟨none, 0, 0, rfl, nr_nil _ _, G1.out.setCell (by simp; omega) _⟩
  · have G0 := Lib.hid (((((Gr.refl w).alloc (.cells #[.slice pa na ca] 24)).alloc (.cells #[.slice pb nb cb] 24)).alloc (.cells #[.slice pm nm cm] 24)).alloc (.cells #[.slice none 0 0] 24))
    have k_a : ((((w.alloc (.cells #[.slice pa na ca] 24)).alloc (.cells #[.slice pb nb cb] 24)).alloc (.cells #[.slice pm nm cm] 24)).alloc (.cells #[.slice none 0 0] 24)).cell? ⟨w.heap.size, 0, none⟩ = some (.slice pa na ca) := by simp [go_sem]
    have k_b : ((((w.alloc (.cells #[.slice pa na ca] 24)).alloc (.cells #[.slice pb nb cb] 24)).alloc (.cells #[.slice pm nm cm] 24)).alloc (.cells #[.slice none 0 0] 24)).cell? ⟨w.heap.size + 1, 0, none⟩ = some (.slice pb nb cb) := by simp [go_sem]
    have k_m : ((((w.alloc (.cells #[.slice pa na ca] 24)).alloc (.cells #[.slice pb nb cb] 24)).alloc (.cells #[.slice pm nm cm] 24)).alloc (.cells #[.slice none 0 0] 24)).cell? ⟨w.heap.size + 1 + 1, 0, none⟩ = some (.slice pm nm cm) := by simp [go_sem]
    have k_r : ((((w.alloc (.cells #[.slice pa na ca] 24)).alloc (.cells #[.slice pb nb cb] 24)).alloc (.cells #[.slice pm nm cm] 24)).alloc (.cells #[.slice none 0 0] 24)).cell? ⟨w.heap.size + 1 + 1 + 1, 0, none⟩ = some (.slice none 0 0) := by simp [go_sem]
    have f_r : ((((w.alloc (.cells #[.slice pa na ca] 24)).alloc (.cells #[.slice pb nb cb] 24)).alloc (.cells #[.slice pm nm cm] 24)).alloc (.cells #[.slice none 0 0] 24)).frozen? ⟨w.heap.size + 1 + 1 + 1, 0, none⟩ = false := by simp [go_sem]
    go_enter Try.func26, Try.ntmps26
    go_wp2_with fail
    refine (HC.out _ G0.out).mono ?_
    rintro e w1 ⟨rfl, hg⟩
    have f_r := hg.frozen k_r f_r
    replace k_a := hg.cell k_a
    replace k_b := hg.cell k_b
    replace k_m := hg.cell k_m
    replace k_r := hg.cell k_r
    have G1 := Lib.hid (G0.out.trans hg)
    clear hg
    go_wp2
    exact bodyPost_ret (v := .tuple #[.agg #[.slice none 0 0], .int .i64 2]) (by simp [results, Try.results26, go_sem, k_r]) rfl ⟨none, 0, 0, rfl, nr_nil _ _, G1.out.setCell (by simp; omega) _⟩
set_option maxRecDepth 100000 in
set_option maxHeartbeats 8000000 in
theorem mAdd_ok {pa : Option Addr} {na ca : Nat} {pb : Option Addr} {nb cb : Nat} {pm : Option Addr} {nm cm : Nat} {x y m : Nat} {w : World} (ha : Nw w pa na ca (digs x)) (hb : Nw w pb nb cb (digs y)) (hm : Nw w pm nm cm (digs m)) (hx : x < m) (hy : y < m) (vm : m < pw 32) (hC : Chk w (.agg #[.slice pa na ca]) (.agg #[.slice pm nm cm]) (.agg #[.slice pb nb cb]) (.agg #[.slice pm nm cm]) 0) :
    Calls Try.prog 20 #[.agg #[.slice pa na ca], .agg #[.slice pb nb cb], .agg #[.slice pm nm cm]] w (Gives ((x + y) % m) 0 w) := by
  have HC := Lib.hid hC
  have HP := Lib.hid (fun W (hW : Gr w W) => mplus_v (w := W) (ha.grow hW) (hb.grow hW) (Nat.lt_trans hx (lt64 vm)) (Nat.lt_trans hy (lt64 vm)) (sum_lt hx hy vm))
  have HR := Lib.hid (fun W p1 n1 c1 (h1 : Nw W p1 n1 c1 (digs (x + y))) (hW : Gr w W) => mrest_v (w := W) h1 (hm.grow hW) (sum_lt hx hy vm) (lt64 vm) (Nat.lt_of_le_of_lt (Nat.zero_le _) hx))
  obtain ⟨s, hs⟩ : ∃ s, x + y = s := ⟨_, rfl⟩
  obtain ⟨z, hz⟩ : ∃ z, s % m = z := ⟨_, rfl⟩
  rw [hs] at HP HR ⊢
  rw [hz] at HR ⊢
  clear ha hb hm hx hy vm hC hs hz
  have G0 := Lib.hid (((((Gr.refl w).alloc (.cells #[.slice pa na ca] 24)).alloc (.cells #[.slice pb nb cb] 24)).alloc (.cells #[.slice pm nm cm] 24)).alloc (.cells #[.slice none 0 0] 24))
  have k_a : ((((w.alloc (.cells #[.slice pa na ca] 24)).alloc (.cells #[.slice pb nb cb] 24)).alloc (.cells #[.slice pm nm cm] 24)).alloc (.cells #[.slice none 0 0] 24)).cell? ⟨w.heap.size, 0, none⟩ = some (.slice pa na ca) := by simp [go_sem]
  have k_b : ((((w.alloc (.cells #[.slice pa na ca] 24)).alloc (.cells #[.slice pb nb cb] 24)).alloc (.cells #[.slice pm nm cm] 24)).alloc (.cells #[.slice none 0 0] 24)).cell? ⟨w.heap.size + 1, 0, none⟩ = some (.slice pb nb cb) := by simp [go_sem]
  have k_m : ((((w.alloc (.cells #[.slice pa na ca] 24)).alloc (.cells #[.slice pb nb cb] 24)).alloc (.cells #[.slice pm nm cm] 24)).alloc (.cells #[.slice none 0 0] 24)).cell? ⟨w.heap.size + 1 + 1, 0, none⟩ = some (.slice pm nm cm) := by simp [go_sem]
  have k_r : ((((w.alloc (.cells #[.slice pa na ca] 24)).alloc (.cells #[.slice pb nb cb] 24)).alloc (.cells #[.slice pm nm cm] 24)).alloc (.cells #[.slice none 0 0] 24)).cell? ⟨w.heap.size + 1 + 1 + 1, 0, none⟩ = some (.slice none 0 0) := by simp [go_sem]
  have f_r : ((((w.alloc (.cells #[.slice pa na ca] 24)).alloc (.cells #[.slice pb nb cb] 24)).alloc (.cells #[.slice pm nm cm] 24)).alloc (.cells #[.slice none 0 0] 24)).frozen? ⟨w.heap.size + 1 + 1 + 1, 0, none⟩ = false := by simp [go_sem]
  go_enter Try.func20, Try.ntmps20
  go_wp2_with fail
  refine (HC.out _ G0.out).mono ?_
  rintro e w1 ⟨rfl, hg⟩
  have f_r := hg.frozen k_r f_r
  replace k_a := hg.cell k_a
  replace k_b := hg.cell k_b
  replace k_m := hg.cell k_m
  replace k_r := hg.cell k_r
  have G1 := Lib.hid (G0.out.trans hg)
  clear hg
  have K_a : w1.drew.cell? ⟨w.heap.size, 0, none⟩ = some (.slice pa na ca) := k_a
  have K_b : w1.drew.cell? ⟨w.heap.size + 1, 0, none⟩ = some (.slice pb nb cb) := k_b
  have K_m : w1.drew.cell? ⟨w.heap.size + 1 + 1, 0, none⟩ = some (.slice pm nm cm) := k_m
  have K_r : w1.drew.cell? ⟨w.heap.size + 1 + 1 + 1, 0, none⟩ = some (.slice none 0 0) := k_r
  have F_r : w1.drew.frozen? ⟨w.heap.size + 1 + 1 + 1, 0, none⟩ = false := f_r
  have GD : Gr w w1.drew := G1.out.drew
  have hb1 : w.heap.size + 1 + 1 + 1 < w1.heap.size := World.block_lt_of_cell? _ _ k_r
  go_upto_region 4 with fail
  clear k_a k_b k_m k_r f_r
  first
  | (go_region_held3 (fun W' => W'.cell? ⟨w.heap.size, 0, none⟩ = some (.slice pa na ca) ∧ W'.cell? ⟨w.heap.size + 1, 0, none⟩ = some (.slice pb nb cb) ∧ W'.cell? ⟨w.heap.size + 1 + 1, 0, none⟩ = some (.slice pm nm cm) ∧ Gr w W')
      (first | exact ⟨K_a, K_b, K_m, GD⟩ | (refine ⟨?_, ?_, ?_, ?_⟩ <;> assumption) | (refine ⟨?_, ?_, ?_, ?_⟩ <;> first | (refine setCell_ne ?_ ?_ <;> first | assumption | (simp; done) | (dsimp only; omega)) | (refine Gr.setCell ?_ ?_ _ <;> first | assumption | (simp; done) | (dsimp only; omega))))
      (first
      | (go_at_call 72; refine (HP.out _ ?_).mono ?_; assumption; rintro e y1 ⟨p1, n1, c1, rfl, hr1, hg1⟩; have z_f := hg1.frozen (p := ⟨w.heap.size + 1 + 1 + 1, 0, none⟩) (v := .slice none 0 0) (by assumption) (by assumption); have z_a := hg1.cell (p := ⟨w.heap.size, 0, none⟩) (v := .slice pa na ca) (by assumption); have z_b := hg1.cell (p := ⟨w.heap.size + 1, 0, none⟩) (v := .slice pb nb cb) (by assumption); have z_m := hg1.cell (p := ⟨w.heap.size + 1 + 1, 0, none⟩) (v := .slice pm nm cm) (by assumption); have z_r := hg1.cell (p := ⟨w.heap.size + 1 + 1 + 1, 0, none⟩) (v := .slice none 0 0) (by assumption); have g1 : Gr w y1 := Gr.trans (by assumption) hg1)
      | (go_at_call 71; refine (HR.out _ _ _ _ ?_ ?_).mono ?_; exact hr1.toNw; assumption; rintro e y2 ⟨p2, n2, c2, rfl, hr2, hg2⟩; have x_f := hg2.frozen (p := ⟨w.heap.size + 1 + 1 + 1, 0, none⟩) (v := .slice none 0 0) (by assumption) (by assumption); have x_a := hg2.cell (p := ⟨w.heap.size, 0, none⟩) (v := .slice pa na ca) (by assumption); have x_b := hg2.cell (p := ⟨w.heap.size + 1, 0, none⟩) (v := .slice pb nb cb) (by assumption); have x_m := hg2.cell (p := ⟨w.heap.size + 1 + 1, 0, none⟩) (v := .slice pm nm cm) (by assumption); have x_r := hg2.cell (p := ⟨w.heap.size + 1 + 1 + 1, 0, none⟩) (v := .slice none 0 0) (by assumption); have g2 : Gr w y2 := Gr.trans (by assumption) hg2)))
  | fail
  have HR2 := Lib.hid (hr2.mono (Nat.le_trans (show w.heap.size + 1 + 1 + 1 + 1 ≤ w1.heap.size by omega) (show w1.heap.size ≤ y1.heap.size from hg1.le)))
  clear K_a K_b K_m K_r F_r z_a z_b z_m z_r z_f x_a x_b x_m
  have k_r := x_r
  go_wp2
  refine bodyPost_ret (v := .tuple #[.agg #[.slice p2 n2 c2], .int .i64 0]) (by simp [results, Try.results20, go_sem, k_r]) rfl ⟨_, _, _, rfl, ?_, g2.setCell (by simp; omega) _⟩
  exact (HR2.out.set' _ _ (fun x e => own_ne HR2.out e) (tight_digs _)).mono (by omega)
set_option maxRecDepth 100000 in
set_option maxHeartbeats 8000000 in
theorem mMul_ok {pa : Option Addr} {na ca : Nat} {pb : Option Addr} {nb cb : Nat} {pm : Option Addr} {nm cm : Nat} {x y m : Nat} {w : World} (ha : Nw w pa na ca (digs x)) (hb : Nw w pb nb cb (digs y)) (hm : Nw w pm nm cm (digs m)) (hx : x < m) (hy : y < m) (vm : m < pw 32) (hC : Chk w (.agg #[.slice pa na ca]) (.agg #[.slice pm nm cm]) (.agg #[.slice pb nb cb]) (.agg #[.slice pm nm cm]) 0) :
    Calls Try.prog 26 #[.agg #[.slice pa na ca], .agg #[.slice pb nb cb], .agg #[.slice pm nm cm]] w (Gives ((x * y) % m) 0 w) := by
  have HC := Lib.hid hC
  have HP := Lib.hid (fun W (hW : Gr w W) => mtimes_v (w := W) (ha.grow hW) (hb.grow hW) (Nat.lt_trans hx (lt64 vm)) (Nat.lt_trans hy (lt64 vm)) (mul_lt hx hy vm))
  have HR := Lib.hid (fun W p1 n1 c1 (h1 : Nw W p1 n1 c1 (digs (x * y))) (hW : Gr w W) => mrest_v (w := W) h1 (hm.grow hW) (mul_lt hx hy vm) (lt64 vm) (Nat.lt_of_le_of_lt (Nat.zero_le _) hx))
  obtain ⟨s, hs⟩ : ∃ s, x * y = s := ⟨_, rfl⟩
  obtain ⟨z, hz⟩ : ∃ z, s % m = z := ⟨_, rfl⟩
  rw [hs] at HP HR ⊢
  rw [hz] at HR ⊢
  clear ha hb hm hx hy vm hC hs hz
  have G0 := Lib.hid (((((Gr.refl w).alloc (.cells #[.slice pa na ca] 24)).alloc (.cells #[.slice pb nb cb] 24)).alloc (.cells #[.slice pm nm cm] 24)).alloc (.cells #[.slice none 0 0] 24))
  have k_a : ((((w.alloc (.cells #[.slice pa na ca] 24)).alloc (.cells #[.slice pb nb cb] 24)).alloc (.cells #[.slice pm nm cm] 24)).alloc (.cells #[.slice none 0 0] 24)).cell? ⟨w.heap.size, 0, none⟩ = some (.slice pa na ca) := by simp [go_sem]
  have k_b : ((((w.alloc (.cells #[.slice pa na ca] 24)).alloc (.cells #[.slice pb nb cb] 24)).alloc (.cells #[.slice pm nm cm] 24)).alloc (.cells #[.slice none 0 0] 24)).cell? ⟨w.heap.size + 1, 0, none⟩ = some (.slice pb nb cb) := by simp [go_sem]
  have k_m : ((((w.alloc (.cells #[.slice pa na ca] 24)).alloc (.cells #[.slice pb nb cb] 24)).alloc (.cells #[.slice pm nm cm] 24)).alloc (.cells #[.slice none 0 0] 24)).cell? ⟨w.heap.size + 1 + 1, 0, none⟩ = some (.slice pm nm cm) := by simp [go_sem]
  have k_r : ((((w.alloc (.cells #[.slice pa na ca] 24)).alloc (.cells #[.slice pb nb cb] 24)).alloc (.cells #[.slice pm nm cm] 24)).alloc (.cells #[.slice none 0 0] 24)).cell? ⟨w.heap.size + 1 + 1 + 1, 0, none⟩ = some (.slice none 0 0) := by simp [go_sem]
  have f_r : ((((w.alloc (.cells #[.slice pa na ca] 24)).alloc (.cells #[.slice pb nb cb] 24)).alloc (.cells #[.slice pm nm cm] 24)).alloc (.cells #[.slice none 0 0] 24)).frozen? ⟨w.heap.size + 1 + 1 + 1, 0, none⟩ = false := by simp [go_sem]
  go_enter Try.func26, Try.ntmps26
  go_wp2_with fail
  refine (HC.out _ G0.out).mono ?_
  rintro e w1 ⟨rfl, hg⟩
  have f_r := hg.frozen k_r f_r
  replace k_a := hg.cell k_a
  replace k_b := hg.cell k_b
  replace k_m := hg.cell k_m
  replace k_r := hg.cell k_r
  have G1 := Lib.hid (G0.out.trans hg)
  clear hg
  have K_a : w1.drew.cell? ⟨w.heap.size, 0, none⟩ = some (.slice pa na ca) := k_a
  have K_b : w1.drew.cell? ⟨w.heap.size + 1, 0, none⟩ = some (.slice pb nb cb) := k_b
  have K_m : w1.drew.cell? ⟨w.heap.size + 1 + 1, 0, none⟩ = some (.slice pm nm cm) := k_m
  have K_r : w1.drew.cell? ⟨w.heap.size + 1 + 1 + 1, 0, none⟩ = some (.slice none 0 0) := k_r
  have F_r : w1.drew.frozen? ⟨w.heap.size + 1 + 1 + 1, 0, none⟩ = false := f_r
  have GD : Gr w w1.drew := G1.out.drew
  have hb1 : w.heap.size + 1 + 1 + 1 < w1.heap.size := World.block_lt_of_cell? _ _ k_r
  go_upto_region 4 with fail
  clear k_a k_b k_m k_r f_r
  first
  | (go_region_held3 (fun W' => W'.cell? ⟨w.heap.size, 0, none⟩ = some (.slice pa na ca) ∧ W'.cell? ⟨w.heap.size + 1, 0, none⟩ = some (.slice pb nb cb) ∧ W'.cell? ⟨w.heap.size + 1 + 1, 0, none⟩ = some (.slice pm nm cm) ∧ Gr w W')
      (first | exact ⟨K_a, K_b, K_m, GD⟩ | (refine ⟨?_, ?_, ?_, ?_⟩ <;> assumption) | (refine ⟨?_, ?_, ?_, ?_⟩ <;> first | (refine setCell_ne ?_ ?_ <;> first | assumption | (simp; done) | (dsimp only; omega)) | (refine Gr.setCell ?_ ?_ _ <;> first | assumption | (simp; done) | (dsimp only; omega))))
      (first
      | (go_at_call 79; refine (HP.out _ ?_).mono ?_; assumption; rintro e y1 ⟨p1, n1, c1, rfl, hr1, hg1⟩; have z_f := hg1.frozen (p := ⟨w.heap.size + 1 + 1 + 1, 0, none⟩) (v := .slice none 0 0) (by assumption) (by assumption); have z_a := hg1.cell (p := ⟨w.heap.size, 0, none⟩) (v := .slice pa na ca) (by assumption); have z_b := hg1.cell (p := ⟨w.heap.size + 1, 0, none⟩) (v := .slice pb nb cb) (by assumption); have z_m := hg1.cell (p := ⟨w.heap.size + 1 + 1, 0, none⟩) (v := .slice pm nm cm) (by assumption); have z_r := hg1.cell (p := ⟨w.heap.size + 1 + 1 + 1, 0, none⟩) (v := .slice none 0 0) (by assumption); have g1 : Gr w y1 := Gr.trans (by assumption) hg1)
      | (go_at_call 71; refine (HR.out _ _ _ _ ?_ ?_).mono ?_; exact hr1.toNw; assumption; rintro e y2 ⟨p2, n2, c2, rfl, hr2, hg2⟩; have x_f := hg2.frozen (p := ⟨w.heap.size + 1 + 1 + 1, 0, none⟩) (v := .slice none 0 0) (by assumption) (by assumption); have x_a := hg2.cell (p := ⟨w.heap.size, 0, none⟩) (v := .slice pa na ca) (by assumption); have x_b := hg2.cell (p := ⟨w.heap.size + 1, 0, none⟩) (v := .slice pb nb cb) (by assumption); have x_m := hg2.cell (p := ⟨w.heap.size + 1 + 1, 0, none⟩) (v := .slice pm nm cm) (by assumption); have x_r := hg2.cell (p := ⟨w.heap.size + 1 + 1 + 1, 0, none⟩) (v := .slice none 0 0) (by assumption); have g2 : Gr w y2 := Gr.trans (by assumption) hg2)))
  | fail
  have HR2 := Lib.hid (hr2.mono (Nat.le_trans (show w.heap.size + 1 + 1 + 1 + 1 ≤ w1.heap.size by omega) (show w1.heap.size ≤ y1.heap.size from hg1.le)))
  clear K_a K_b K_m K_r F_r z_a z_b z_m z_r z_f x_a x_b x_m
  have k_r := x_r
  go_wp2
  refine bodyPost_ret (v := .tuple #[.agg #[.slice p2 n2 c2], .int .i64 0]) (by simp [results, Try.results26, go_sem, k_r]) rfl ⟨_, _, _, rfl, ?_, g2.setCell (by simp; omega) _⟩
  exact (HR2.out.set' _ _ (fun x e => own_ne HR2.out e) (tight_digs _)).mono (by omega)
theorem own_lt {B b : Nat} {w : World} {p : Option Addr} {n c : Nat} {l : List Nat} (h : Nr B w p n c l) (hb : b < B) {x : Addr} (e : p = some x) : x.block ≠ b ∨ val l = 0 := by
  rcases h.own with h0 | ⟨b', off, e2, hb', _⟩
  · right; rw [h0]; rfl
  · left
    rw [e] at e2
    cases e2
    show b' ≠ b
    omega
set_option maxRecDepth 100000 in
set_option maxHeartbeats 8000000 in
theorem mSub_neg {pa : Option Addr} {na ca : Nat} {pb : Option Addr} {nb cb : Nat} {pm : Option Addr} {nm cm : Nat} {x y m : Nat} {w : World} (ha : Nw w pa na ca (digs x)) (hb : Nw w pb nb cb (digs y)) (hm : Nw w pm nm cm (digs m)) (hx : x < m) (hy : y < m) (vm : m < pw 32) (hC : Chk w (.agg #[.slice pa na ca]) (.agg #[.slice pm nm cm]) (.agg #[.slice pb nb cb]) (.agg #[.slice pm nm cm]) 0) (h : x < y) :
    Calls Try.prog 21 #[.agg #[.slice pa na ca], .agg #[.slice pb nb cb], .agg #[.slice pm nm cm]] w (Gives (x + m - y) 0 w) := by
  have HC := Lib.hid hC
  have HL := Lib.hid (fun W (hW : Gr w W) => mless_v (w := W) (ha.grow hW) (hb.grow hW) (Nat.lt_trans hx (lt64 vm)) (Nat.lt_trans hy (lt64 vm)))
  rw [decide_eq_true h] at HL
  have hs : x + m < pw 64 := sum_lt2 hx vm
  have HP := Lib.hid (fun W (hW : Gr w W) => mplus_v (w := W) (ha.grow hW) (hm.grow hW) (Nat.lt_trans hx (lt64 vm)) (lt64 vm) hs)
  have HM := Lib.hid (fun W p1 n1 c1 (h1 : Nw W p1 n1 c1 (digs (x + m))) (h2 : Nw W pb nb cb (digs y)) => mminus_v (w := W) h1 h2 hs (Nat.lt_trans hy (lt64 vm)) (Nat.le_trans (Nat.le_of_lt hy) (Nat.le_add_left m x)))
  have HB := Lib.hid hb
  obtain ⟨s, hs'⟩ : ∃ s, x + m = s := ⟨_, rfl⟩
  obtain ⟨z, hz⟩ : ∃ z, s - y = z := ⟨_, rfl⟩
  rw [hs'] at HP HM ⊢
  rw [hz] at HM ⊢
  clear ha hb hm hx hy vm hC hs hs' hz h
  have G0 := Lib.hid (((((Gr.refl w).alloc (.cells #[.slice pa na ca] 24)).alloc (.cells #[.slice pb nb cb] 24)).alloc (.cells #[.slice pm nm cm] 24)).alloc (.cells #[.slice none 0 0] 24))
  have k_a : ((((w.alloc (.cells #[.slice pa na ca] 24)).alloc (.cells #[.slice pb nb cb] 24)).alloc (.cells #[.slice pm nm cm] 24)).alloc (.cells #[.slice none 0 0] 24)).cell? ⟨w.heap.size, 0, none⟩ = some (.slice pa na ca) := by simp [go_sem]
  have k_b : ((((w.alloc (.cells #[.slice pa na ca] 24)).alloc (.cells #[.slice pb nb cb] 24)).alloc (.cells #[.slice pm nm cm] 24)).alloc (.cells #[.slice none 0 0] 24)).cell? ⟨w.heap.size + 1, 0, none⟩ = some (.slice pb nb cb) := by simp [go_sem]
  have k_m : ((((w.alloc (.cells #[.slice pa na ca] 24)).alloc (.cells #[.slice pb nb cb] 24)).alloc (.cells #[.slice pm nm cm] 24)).alloc (.cells #[.slice none 0 0] 24)).cell? ⟨w.heap.size + 1 + 1, 0, none⟩ = some (.slice pm nm cm) := by simp [go_sem]
  have k_r : ((((w.alloc (.cells #[.slice pa na ca] 24)).alloc (.cells #[.slice pb nb cb] 24)).alloc (.cells #[.slice pm nm cm] 24)).alloc (.cells #[.slice none 0 0] 24)).cell? ⟨w.heap.size + 1 + 1 + 1, 0, none⟩ = some (.slice none 0 0) := by simp [go_sem]
  have f_r : ((((w.alloc (.cells #[.slice pa na ca] 24)).alloc (.cells #[.slice pb nb cb] 24)).alloc (.cells #[.slice pm nm cm] 24)).alloc (.cells #[.slice none 0 0] 24)).frozen? ⟨w.heap.size + 1 + 1 + 1, 0, none⟩ = false := by simp [go_sem]
  have f_a : ((((w.alloc (.cells #[.slice pa na ca] 24)).alloc (.cells #[.slice pb nb cb] 24)).alloc (.cells #[.slice pm nm cm] 24)).alloc (.cells #[.slice none 0 0] 24)).frozen? ⟨w.heap.size, 0, none⟩ = false := by simp [go_sem]
  go_enter Try.func21, Try.ntmps21
  go_wp2_with fail
  refine (HC.out _ G0.out).mono ?_
  rintro e w1 ⟨rfl, hg⟩
  have f_r := hg.frozen k_r f_r
  have f_a := hg.frozen k_a f_a
  replace k_a := hg.cell k_a
  replace k_b := hg.cell k_b
  replace k_m := hg.cell k_m
  replace k_r := hg.cell k_r
  have G1 := Lib.hid (G0.out.trans hg)
  clear hg
  go_wp2_with fail
  refine (HL.out _ G1.out).mono ?_
  rintro e w2 ⟨rfl, hg⟩
  have f_r := hg.frozen k_r f_r
  have f_a := hg.frozen k_a f_a
  replace k_a := hg.cell k_a
  replace k_b := hg.cell k_b
  replace k_m := hg.cell k_m
  replace k_r := hg.cell k_r
  have G2 := Lib.hid (G1.out.trans hg)
  clear hg
  go_wp2_with fail
  have hb2 : w.heap.size + 1 + 1 + 1 < w2.heap.size := World.block_lt_of_cell? _ _ k_r
  refine (HP.out _ G2.out).mono ?_
  rintro e w3 ⟨p1, n1, c1, rfl, hr, hg⟩
  have f_r := hg.frozen k_r f_r
  have f_a := hg.frozen k_a f_a
  replace k_a := hg.cell k_a
  replace k_b := hg.cell k_b
  replace k_m := hg.cell k_m
  replace k_r := hg.cell k_r
  have G3 := Lib.hid (G2.out.trans hg)
  clear hg
  have HR1 : Hid (Nr (w.heap.size + 1) w3 p1 n1 c1 (digs s)) := Lib.hid (hr.mono (Nat.le_trans (Nat.le_succ_of_le (Nat.le_succ_of_le (Nat.le_succ _))) hb2))
  clear hr
  obtain ⟨W3, hW3⟩ : ∃ W3, w3.setCell ⟨w.heap.size, 0, none⟩ (.slice p1 n1 c1) = W3 := ⟨_, rfl⟩
  have HN1 : Hid (Nw W3 p1 n1 c1 (digs s)) := Lib.hid (by rw [← hW3]; exact (HR1.out.set' _ _ (fun x e => own_lt HR1.out (Nat.lt_succ_self _) e) (tight_digs _)).toNw)
  have G4 : Hid (Gr w W3) := Lib.hid (by rw [← hW3]; exact G3.out.setCell (Nat.le_refl _) _)
  have HNB : Hid (Nw W3 pb nb cb (digs y)) := Lib.hid (HB.out.grow G4.out)
  have l_b : W3.cell? ⟨w.heap.size + 1, 0, none⟩ = some (.slice pb nb cb) := by rw [← hW3]; exact setCell_ne (by simp; try omega) k_b
  have l_m : W3.cell? ⟨w.heap.size + 1 + 1, 0, none⟩ = some (.slice pm nm cm) := by rw [← hW3]; exact setCell_ne (by simp; try omega) k_m
  have l_r : W3.cell? ⟨w.heap.size + 1 + 1 + 1, 0, none⟩ = some (.slice none 0 0) := by rw [← hW3]; exact setCell_ne (by simp; try omega) k_r
  have l_a : W3.cell? ⟨w.heap.size, 0, none⟩ = some (.slice p1 n1 c1) := by rw [← hW3]; exact setCell_at k_a
  have l_f : W3.frozen? ⟨w.heap.size + 1 + 1 + 1, 0, none⟩ = false := by rw [← hW3]; exact setCell_frozen f_r
  have hW := Lib.hid hW3
  clear hW3
  go_wp2_with fail
  have hW3 := hW.out
  simp only [hW3]
  clear hW3 k_a k_b k_m k_r f_r
  refine (HM.out _ _ _ _ HN1.out HNB.out).mono ?_
  rintro e w4 ⟨p2, n2, c2, rfl, hr2, hg⟩
  have f_r := hg.frozen l_r l_f
  have k_r := hg.cell l_r
  have hl : w.heap.size + 1 + 1 + 1 < W3.heap.size := World.block_lt_of_cell? _ _ l_r
  have G5 := Lib.hid (G4.out.trans hg)
  have HR2 := Lib.hid (hr2.mono (show w.heap.size + 1 + 1 + 1 + 1 ≤ _ from hl))
  clear hg hr2 l_a l_b l_m l_r l_f hl
  go_wp2
  refine bodyPost_ret (v := .tuple #[.agg #[.slice p2 n2 c2], .int .i64 0]) (by simp [results, Try.results21, go_sem, k_r]) rfl ⟨_, _, _, rfl, ?_, G5.out.setCell (by simp; omega) _⟩
  exact (HR2.out.set' _ _ (fun x e => own_ne HR2.out e) (tight_digs _)).mono (by omega)
set_option maxRecDepth 100000 in
set_option maxHeartbeats 8000000 in
theorem mSub_pos {pa : Option Addr} {na ca : Nat} {pb : Option Addr} {nb cb : Nat} {pm : Option Addr} {nm cm : Nat} {x y m : Nat} {w : World} (ha : Nw w pa na ca (digs x)) (hb : Nw w pb nb cb (digs y)) (_hm : Nw w pm nm cm (digs m)) (hx : x < m) (hy : y < m) (vm : m < pw 32) (hC : Chk w (.agg #[.slice pa na ca]) (.agg #[.slice pm nm cm]) (.agg #[.slice pb nb cb]) (.agg #[.slice pm nm cm]) 0) (h : y ≤ x) :
    Calls Try.prog 21 #[.agg #[.slice pa na ca], .agg #[.slice pb nb cb], .agg #[.slice pm nm cm]] w (Gives (x - y) 0 w) := by
  have HC := Lib.hid hC
  have HL := Lib.hid (fun W (hW : Gr w W) => mless_v (w := W) (ha.grow hW) (hb.grow hW) (Nat.lt_trans hx (lt64 vm)) (Nat.lt_trans hy (lt64 vm)))
  rw [decide_eq_false (Nat.not_lt.2 h)] at HL
  have HM := Lib.hid (fun W (hW : Gr w W) => mminus_v (w := W) (ha.grow hW) (hb.grow hW) (Nat.lt_trans hx (lt64 vm)) (Nat.lt_trans hy (lt64 vm)) h)
  obtain ⟨z, hz⟩ : ∃ z, x - y = z := ⟨_, rfl⟩
  rw [hz] at HM ⊢
  clear ha hb _hm hx hy vm hC h hz
  have G0 := Lib.hid (((((Gr.refl w).alloc (.cells #[.slice pa na ca] 24)).alloc (.cells #[.slice pb nb cb] 24)).alloc (.cells #[.slice pm nm cm] 24)).alloc (.cells #[.slice none 0 0] 24))
  have k_a : ((((w.alloc (.cells #[.slice pa na ca] 24)).alloc (.cells #[.slice pb nb cb] 24)).alloc (.cells #[.slice pm nm cm] 24)).alloc (.cells #[.slice none 0 0] 24)).cell? ⟨w.heap.size, 0, none⟩ = some (.slice pa na ca) := by simp [go_sem]
  have k_b : ((((w.alloc (.cells #[.slice pa na ca] 24)).alloc (.cells #[.slice pb nb cb] 24)).alloc (.cells #[.slice pm nm cm] 24)).alloc (.cells #[.slice none 0 0] 24)).cell? ⟨w.heap.size + 1, 0, none⟩ = some (.slice pb nb cb) := by simp [go_sem]
  have k_m : ((((w.alloc (.cells #[.slice pa na ca] 24)).alloc (.cells #[.slice pb nb cb] 24)).alloc (.cells #[.slice pm nm cm] 24)).alloc (.cells #[.slice none 0 0] 24)).cell? ⟨w.heap.size + 1 + 1, 0, none⟩ = some (.slice pm nm cm) := by simp [go_sem]
  have k_r : ((((w.alloc (.cells #[.slice pa na ca] 24)).alloc (.cells #[.slice pb nb cb] 24)).alloc (.cells #[.slice pm nm cm] 24)).alloc (.cells #[.slice none 0 0] 24)).cell? ⟨w.heap.size + 1 + 1 + 1, 0, none⟩ = some (.slice none 0 0) := by simp [go_sem]
  have f_r : ((((w.alloc (.cells #[.slice pa na ca] 24)).alloc (.cells #[.slice pb nb cb] 24)).alloc (.cells #[.slice pm nm cm] 24)).alloc (.cells #[.slice none 0 0] 24)).frozen? ⟨w.heap.size + 1 + 1 + 1, 0, none⟩ = false := by simp [go_sem]
  have f_a : ((((w.alloc (.cells #[.slice pa na ca] 24)).alloc (.cells #[.slice pb nb cb] 24)).alloc (.cells #[.slice pm nm cm] 24)).alloc (.cells #[.slice none 0 0] 24)).frozen? ⟨w.heap.size, 0, none⟩ = false := by simp [go_sem]
  go_enter Try.func21, Try.ntmps21
  go_wp2_with fail
  refine (HC.out _ G0.out).mono ?_
  rintro e w1 ⟨rfl, hg⟩
  have f_r := hg.frozen k_r f_r
  have f_a := hg.frozen k_a f_a
  replace k_a := hg.cell k_a
  replace k_b := hg.cell k_b
  replace k_m := hg.cell k_m
  replace k_r := hg.cell k_r
  have G1 := Lib.hid (G0.out.trans hg)
  clear hg
  go_wp2_with fail
  refine (HL.out _ G1.out).mono ?_
  rintro e w2 ⟨rfl, hg⟩
  have f_r := hg.frozen k_r f_r
  have f_a := hg.frozen k_a f_a
  replace k_a := hg.cell k_a
  replace k_b := hg.cell k_b
  replace k_m := hg.cell k_m
  replace k_r := hg.cell k_r
  have G2 := Lib.hid (G1.out.trans hg)
  clear hg
  have hb2 : w.heap.size + 1 + 1 + 1 < w2.heap.size := World.block_lt_of_cell? _ _ k_r
  go_wp2_with fail
  refine (HM.out _ G2.out).mono ?_
  rintro e w3 ⟨p1, n1, c1, rfl, hr, hg⟩
  have f_r := hg.frozen k_r f_r
  replace k_a := hg.cell k_a
  replace k_b := hg.cell k_b
  replace k_m := hg.cell k_m
  replace k_r := hg.cell k_r
  have G3 := Lib.hid (G2.out.trans hg)
  clear hg
  have HR1 := Lib.hid (hr.mono (show w.heap.size + 1 + 1 + 1 + 1 ≤ _ from hb2))
  clear hr
  go_wp2
  refine bodyPost_ret (v := .tuple #[.agg #[.slice p1 n1 c1], .int .i64 0]) (by simp [results, Try.results21, go_sem, k_r]) rfl ⟨_, _, _, rfl, ?_, G3.out.setCell (by simp; omega) _⟩
  exact (HR1.out.set' _ _ (fun x e => own_ne HR1.out e) (tight_digs _)).mono (by omega)
theorem mSub_ok {pa : Option Addr} {na ca : Nat} {pb : Option Addr} {nb cb : Nat} {pm : Option Addr} {nm cm : Nat} {x y m : Nat} {w : World} (ha : Nw w pa na ca (digs x)) (hb : Nw w pb nb cb (digs y)) (hm : Nw w pm nm cm (digs m)) (hx : x < m) (hy : y < m) (vm : m < pw 32) (hC : Chk w (.agg #[.slice pa na ca]) (.agg #[.slice pm nm cm]) (.agg #[.slice pb nb cb]) (.agg #[.slice pm nm cm]) 0) :
    Calls Try.prog 21 #[.agg #[.slice pa na ca], .agg #[.slice pb nb cb], .agg #[.slice pm nm cm]] w (Gives ((x + m - y) % m) 0 w) := by
  rcases Nat.lt_or_ge x y with h | h
  · rw [Nat.mod_eq_of_lt (show x + m - y < m by omega)]
    exact mSub_neg ha hb hm hx hy vm hC h
  · rw [show x + m - y = x - y + m by omega, Nat.add_mod_right, Nat.mod_eq_of_lt (show x - y < m by omega)]
    exact mSub_pos ha hb hm hx hy vm hC h

end Go.Proofs.Ytlciocebbckdcaa.Mo


/- The contract of natmod's Gcd. -/
namespace Go.Proofs.Ytlciocebbckdcaa.Mo
open Go.RowKit Go.Shelf Go.Proofs.Ytlciocebbckdcaa.Nm Go.Proofs.Ytlciocebbckdcaa.Ne Go.Proofs.Ytlciocebbckdcaa.Nf Go.Proofs.Ytlciocebbckdcaa.Nk Go.Proofs.Ytlciocebbckdcaa.Nv Go.Proofs.Ytlciocebbckdcaa.Nr2

/-- Words that do not lie in the blocks from lo up to hi. -/
def Nx (lo hi : Nat) (W : World) (p : Option Addr) (n c : Nat) (l : List Nat) : Prop := Nw W p n c l ∧ ∀ x : Addr, p = some x → x.block < lo ∨ hi ≤ x.block ∨ l = []
theorem Nx.arg {w : World} {p : Option Addr} {n c : Nat} {l : List Nat} (h : Nw w p n c l) (hi : Nat) : Nx w.heap.size hi w p n c l := by
  refine ⟨h, fun x e => ?_⟩
  by_cases h0 : l = []
  · exact .inr (.inr h0)
  · have hp : 0 < l.length := List.length_pos_iff.2 h0
    obtain ⟨b, off, e2, hc⟩ := h.rd.at hp
    rw [e] at e2
    cases e2
    exact .inl (World.block_lt_of_cell? w _ (hc 0 hp))
theorem Nx.nr {lo hi : Nat} {W : World} {p : Option Addr} {n c : Nat} {l : List Nat} (h : Nr hi W p n c l) : Nx lo hi W p n c l := by
  refine ⟨h.toNw, fun x e => ?_⟩
  rcases h.own with h0 | ⟨b, off, e2, hb, _⟩
  · exact .inr (.inr h0)
  · rw [e] at e2
    cases e2
    exact .inr (.inl hb)
theorem Nx.grow {lo hi : Nat} {W W' : World} {p : Option Addr} {n c : Nat} {l : List Nat} (h : Nx lo hi W p n c l) (g : Gr W W') : Nx lo hi W' p n c l := ⟨h.1.grow g, h.2⟩
theorem Nx.set {lo hi : Nat} {W : World} {p : Option Addr} {n c : Nat} {l : List Nat} (h : Nx lo hi W p n c l) {a : Addr} (h1 : lo ≤ a.block) (h2 : a.block < hi) (v : Value) : Nx lo hi (W.setCell a v) p n c l := by
  refine ⟨?_, h.2⟩
  by_cases h0 : l = []
  · subst h0
    exact ⟨h.1.len, h.1.le, h.1.nil, .inl rfl, h.1.ok, h.1.small⟩
  · refine h.1.set a v fun x e => ?_
    rcases h.2 x e with h3 | h3 | h3
    · omega
    · omega
    · exact absurd h3 h0
/-- The number that a cell holds. -/
def wordAt (W : World) (a : Addr) : Nat := match W.cell? a with
  | some (.int _ v) => v.toNat
  | _ => 0
def numAt (W : World) (b : Addr) : Nat := match W.cell? b with
  | some (.slice (some a) n _) => val ((List.range n).map fun i => wordAt W ⟨a.block, a.off + i, none⟩)
  | _ => 0
theorem numAt_eq {W : World} {b : Addr} {p : Option Addr} {n c : Nat} {l : List Nat} (h1 : W.cell? b = some (.slice p n c)) (h2 : Nw W p n c l) : numAt W b = val l := by
  unfold numAt
  rw [h1]
  cases p with
  | none =>
    have := h2.len
    rw [(h2.nil rfl).1] at this
    rw [List.eq_nil_of_length_eq_zero this]
    rfl
  | some a =>
    show val _ = val l
    congr 1
    by_cases h0 : l = []
    · subst h0
      have := h2.len
      simp only [List.length_nil] at this
      subst this
      rfl
    · obtain ⟨b', off, e, hc⟩ := h2.rd.at (List.length_pos_iff.2 h0)
      cases e
      refine List.ext_getElem (by simp [h2.len]) ?_
      intro i hi1 hi2
      have := hc i hi2
      simp only [List.getElem_map, List.getElem_range, wordAt]
      rw [this]
      simp [hi2]

set_option maxHeartbeats 4000000 in
theorem mGcd_bad {p q : Option Addr} {n m c d : Nat} {l k : List Nat} {w : World} (hl : Nw w p n c l) (hk : Nw w q m d k) (hv : (decide (valid l) && decide (valid k)) = false) :
    Calls Try.prog 31 #[.agg #[.slice p n c], .agg #[.slice q m d]] w (Gives 0 1 w) := by
  have HL := Lib.hid hl
  have HK := Lib.hid hk
  have G0 := Lib.hid ((((Gr.refl w).alloc (.cells #[.slice p n c] 24)).alloc (.cells #[.slice q m d] 24)).alloc (.cells #[.slice none 0 0] 24))
  have CA : Hid (decide (valid l) = false) ∨ Hid (decide (valid l) = true) ∧ Hid (decide (valid k) = false) := by
    cases h1 : decide (valid l) with
    | false => exact .inl rfl
    | true => exact .inr ⟨rfl, by rw [h1] at hv; exact hv⟩
  clear hl hk hv
  rcases CA with F1 | ⟨F1, F2⟩
  · go_enter Try.func31, Try.ntmps31
    go_wp2_with fail
    refine (Valid_n p n c l _ (HL.out.grow G0.out)).mono ?_
    rintro e w1 ⟨rfl, hg⟩
    rw [F1.out]
    have k_r := hg.cell (p := ⟨w.heap.size + 1 + 1, 0, none⟩) (v := .slice none 0 0) (by simp [go_sem])
    have f_r := hg.frozen (p := ⟨w.heap.size + 1 + 1, 0, none⟩) (v := .slice none 0 0) (by simp [go_sem]) (by simp [go_sem])
    have G1 := Lib.hid (G0.out.trans hg)
    clear hg
    go_wp2
    exact bodyPost_ret (v := .tuple #[.agg #[.slice none 0 0], .int .i64 1]) (by simp [results, Try.results31, go_sem, k_r]) rfl ⟨none, 0, 0, rfl, nr_nil _ _, G1.out.setCell (by simp; omega) _⟩
  · go_enter Try.func31, Try.ntmps31
    go_wp2_with fail
    refine (Valid_n p n c l _ (HL.out.grow G0.out)).mono ?_
    rintro e w1 ⟨rfl, hg⟩
    rw [F1.out]
    have k_b := hg.cell (p := ⟨w.heap.size + 1, 0, none⟩) (v := .slice q m d) (by simp [go_sem])
    have k_r := hg.cell (p := ⟨w.heap.size + 1 + 1, 0, none⟩) (v := .slice none 0 0) (by simp [go_sem])
    have f_r := hg.frozen (p := ⟨w.heap.size + 1 + 1, 0, none⟩) (v := .slice none 0 0) (by simp [go_sem]) (by simp [go_sem])
    have G1 := Lib.hid (G0.out.trans hg)
    clear hg
    go_wp2_with fail
    refine (Valid_n q m d k _ (HK.out.grow G1.out)).mono ?_
    rintro e w2 ⟨rfl, hg⟩
    rw [F2.out]
    have f_r := hg.frozen k_r f_r
    replace k_r := hg.cell k_r
    have G2 := Lib.hid (G1.out.trans hg)
    clear hg k_b
    go_wp2
    exact bodyPost_ret (v := .tuple #[.agg #[.slice none 0 0], .int .i64 1]) (by simp [results, Try.results31, go_sem, k_r]) rfl ⟨none, 0, 0, rfl, nr_nil _ _, G2.out.setCell (by simp; omega) _⟩

set_option maxRecDepth 100000 in
set_option maxHeartbeats 8000000 in
theorem mGcd_ok {p q : Option Addr} {n m c d x y : Nat} {w : World} (hl : Nw w p n c (digs x)) (hk : Nw w q m d (digs y)) (hx : x < pw 64) (hy : y < pw 64) :
    Calls Try.prog 31 #[.agg #[.slice p n c], .agg #[.slice q m d]] w (Gives (Nat.gcd x y) 0 w) := by
  have HXA := Lib.hid (Nx.arg hl (w.heap.size + 3))
  have HYA := Lib.hid (Nx.arg hk (w.heap.size + 3))
  have F1 := Lib.hid (fun W (hW : Gr w W) => Valid_v (w := W) (hl.grow hW) hx)
  have F2 := Lib.hid (fun W (hW : Gr w W) => Valid_v (w := W) (hk.grow hW) hy)
  have HX := Lib.hid hx
  have HY := Lib.hid hy
  have G0 := Lib.hid ((((Gr.refl w).alloc (.cells #[.slice p n c] 24)).alloc (.cells #[.slice q m d] 24)).alloc (.cells #[.slice none 0 0] 24))
  clear hl hk hx hy
  go_enter Try.func31, Try.ntmps31
  go_wp2_with fail
  refine (F1.out _ G0.out).mono ?_
  rintro e w1 ⟨rfl, hg⟩
  have k_a := hg.cell (p := ⟨w.heap.size, 0, none⟩) (v := .slice p n c) (by simp [go_sem])
  have k_b := hg.cell (p := ⟨w.heap.size + 1, 0, none⟩) (v := .slice q m d) (by simp [go_sem])
  have k_r := hg.cell (p := ⟨w.heap.size + 1 + 1, 0, none⟩) (v := .slice none 0 0) (by simp [go_sem])
  have f_a := hg.frozen (p := ⟨w.heap.size, 0, none⟩) (v := .slice p n c) (by simp [go_sem]) (by simp [go_sem])
  have f_b := hg.frozen (p := ⟨w.heap.size + 1, 0, none⟩) (v := .slice q m d) (by simp [go_sem]) (by simp [go_sem])
  have f_r := hg.frozen (p := ⟨w.heap.size + 1 + 1, 0, none⟩) (v := .slice none 0 0) (by simp [go_sem]) (by simp [go_sem])
  have G1 := Lib.hid (G0.out.trans hg)
  clear hg
  go_wp2_with fail
  refine (F2.out _ G1.out).mono ?_
  rintro e w2 ⟨rfl, hg⟩
  have K_a := Lib.hid (hg.cell k_a)
  have K_b := Lib.hid (hg.cell k_b)
  have K_r := Lib.hid (hg.cell k_r)
  have F_a := Lib.hid (hg.frozen k_a f_a)
  have F_b := Lib.hid (hg.frozen k_b f_b)
  have F_r := Lib.hid (hg.frozen k_r f_r)
  have G2 := Lib.hid (G1.out.trans hg)
  clear hg k_a k_b k_r f_a f_b f_r
  go_wp2
  go_loopw [] (fun wr => ∃ (x' y' : Nat) (p1 p2 : Option Addr) (n1 c1 n2 c2 : Nat), Hid (x' < pw 64) ∧ Hid (y' < pw 64) ∧ Hid (Nat.gcd x' y' = Nat.gcd x y) ∧ Hid (wr.cell? ⟨w.heap.size, 0, none⟩ = some (.slice p1 n1 c1)) ∧ Hid (wr.cell? ⟨w.heap.size + 1, 0, none⟩ = some (.slice p2 n2 c2)) ∧ Hid (wr.cell? ⟨w.heap.size + 1 + 1, 0, none⟩ = some (.slice none 0 0)) ∧ Hid (wr.frozen? ⟨w.heap.size, 0, none⟩ = false) ∧ Hid (wr.frozen? ⟨w.heap.size + 1, 0, none⟩ = false) ∧ Hid (wr.frozen? ⟨w.heap.size + 1 + 1, 0, none⟩ = false) ∧ Hid (Nx w.heap.size (w.heap.size + 3) wr p1 n1 c1 (digs x')) ∧ Hid (Nx w.heap.size (w.heap.size + 3) wr p2 n2 c2 (digs y')) ∧ Hid (Gr w wr)) (fun wr => numAt wr ⟨w.heap.size + 1, 0, none⟩)
  case atStart => exact ⟨x, y, p, q, n, c, m, d, HX, HY, rfl, K_a, K_b, K_r, F_a, F_b, F_r, HXA.out.grow G2.out, HYA.out.grow G2.out, G2⟩
  case round =>
    clear K_a K_b K_r F_a F_b F_r G2 G1 G0 HXA HYA F1 F2 HX HY
    obtain ⟨x', y', p1, p2, n1, c1, n2, c2, HX, HY, HGC, K_a, K_b, K_r, F_a, F_b, F_r, NX, NY, G⟩ := hrel
    have k_b := K_b.out
    go_wp2_with fail
    refine (isZero_v NY.out.1).mono ?_
    rintro e w3 ⟨rfl, hg⟩
    have HMe := Lib.hid ((numAt_eq K_b.out NY.out.1).trans (val_digs y'))
    have k_a := hg.cell K_a.out
    replace k_b := hg.cell K_b.out
    have k_r := hg.cell K_r.out
    have f_a := hg.frozen K_a.out F_a.out
    have f_b := hg.frozen K_b.out F_b.out
    have f_r := hg.frozen K_r.out F_r.out
    replace NX := Lib.hid (NX.out.grow hg)
    replace NY := Lib.hid (NY.out.grow hg)
    replace G := Lib.hid (G.out.trans hg)
    have HSZ : Hid (w.heap.size + 3 ≤ w3.heap.size) := Lib.hid (World.block_lt_of_cell? _ _ k_r)
    clear hg K_a K_b K_r F_a F_b F_r
    by_cases h : y' = 0
    · subst h
      have HXG : Hid (x' = Nat.gcd x y) := Lib.hid (by rw [← HGC.out, Nat.gcd_zero_right])
      go_wp2_with fail
      refine (clone_any p1 (digs x') n1 c1 NX.out.1.len NX.out.1.small NX.out.1.nil w3 NX.out.1.rd).mono ?_
      rintro e w4 ⟨p5, cap, rfl, hle, hnil, hown, hg⟩
      have f_r := hg.frozen k_r f_r
      replace k_r := hg.cell k_r
      have HN : Hid (Nr (w.heap.size + 3) w4 p5 (digs x').length cap (digs x')) := Lib.hid ⟨⟨rfl, hle, fun e => ⟨by rw [(hnil e).1]; rfl, (hnil e).2⟩, hown.rd, ok_digs x', by rw [NX.out.1.len]; exact NX.out.1.small⟩, hown.mono HSZ.out⟩
      have GG := Lib.hid (G.out.trans hg)
      clear hle hnil hown hg k_a k_b f_a f_b
      obtain ⟨L, hL⟩ : ∃ L, (digs x').length = L := ⟨_, rfl⟩
      rw [hL] at HN ⊢
      clear hL
      go_wp2
      refine bodyPost_ret (v := .tuple #[.agg #[.slice p5 L cap], .int .i64 0]) (by simp [results, Try.results31, go_sem, k_r]) rfl ⟨_, _, _, rfl, ?_, GG.out.setCell (by simp; omega) _⟩
      rw [← HXG.out]
      exact (HN.out.set' _ _ (fun x e => own_lt HN.out (by simp) e) (tight_digs _)).mono (by omega)
    · have h0 : decide (y' = 0) = false := decide_eq_false h
      rw [h0]
      have HYP := Lib.hid (Nat.pos_of_ne_zero h)
      clear h h0
      go_upto_region 4 with fail
      have Z_a : w3.drew.cell? ⟨w.heap.size, 0, none⟩ = some (.slice p1 n1 c1) := k_a
      have Z_b : w3.drew.cell? ⟨w.heap.size + 1, 0, none⟩ = some (.slice p2 n2 c2) := k_b
      have Z_r : w3.drew.cell? ⟨w.heap.size + 1 + 1, 0, none⟩ = some (.slice none 0 0) := k_r
      have V_a : w3.drew.frozen? ⟨w.heap.size, 0, none⟩ = false := f_a
      have V_b : w3.drew.frozen? ⟨w.heap.size + 1, 0, none⟩ = false := f_b
      have V_r : w3.drew.frozen? ⟨w.heap.size + 1 + 1, 0, none⟩ = false := f_r
      have GD := Lib.hid (Gr.refl w3).drew
      clear k_a k_b k_r f_a f_b f_r
      go_region_with (go_at_call 71; refine (mrest_v (NX.out.1.grow GD.out) (NY.out.1.grow GD.out) HX.out HY.out HYP.out).mono ?_; rintro e y1 ⟨p3, n3, c3, rfl, hr, hg1⟩; have z_a := hg1.cell Z_a; have z_b := hg1.cell Z_b; have z_r := hg1.cell Z_r; have v_a := hg1.frozen Z_a V_a; have v_b := hg1.frozen Z_b V_b; have v_r := hg1.frozen Z_r V_r; have g1 := Lib.hid (GD.out.trans hg1); have R1 := Lib.hid (hr.mono HSZ.out); clear hr hg1)
      all_goals
        have HLT := Lib.hid (Nat.mod_lt x' HYP.out)
        have HXY := Lib.hid (Nat.lt_trans HLT.out HY.out)
        have HGC2 : Hid (Nat.gcd y' (x' % y') = Nat.gcd x y) := Lib.hid (by rw [← HGC.out, Nat.gcd_comm x' y', Nat.gcd_rec y' x', Nat.gcd_comm y'])
        go_wp2
        go_roundw
        case rel =>
          refine ⟨y', x' % y', p2, p3, n2, c2, n3, c3, HY, HXY, HGC2, ?_, ?_, ?_, setCell_frozen (setCell_frozen v_a), setCell_frozen (setCell_frozen v_b), setCell_frozen (setCell_frozen v_r), ((NY.out.grow g1.out).set (by dsimp only; omega) (by dsimp only; omega) _).set (by dsimp only; omega) (by dsimp only; omega) _, ((Nx.nr R1.out).set (by dsimp only; omega) (by dsimp only; omega) _).set (by dsimp only; omega) (by dsimp only; omega) _, ((G.out.trans g1.out).setCell (by dsimp only; omega) _).setCell (by dsimp only; omega) _⟩
          · first | exact setCell_ne (by dsimp only; omega) (setCell_at z_a) | exact setCell_at (setCell_ne (by dsimp only; omega) z_a)
          · first | exact setCell_at (setCell_ne (by dsimp only; omega) z_b) | exact setCell_ne (by dsimp only; omega) (setCell_at z_b)
          · exact setCell_ne (by dsimp only; omega) (setCell_ne (by dsimp only; omega) z_r)
        case measure =>
          rw [HMe.out]
          first
          | (rw [numAt_eq (setCell_at (setCell_ne (by dsimp only; omega) z_b)) (((Nx.nr (lo := w.heap.size) R1.out).set (by dsimp only; omega) (by dsimp only; omega) _).set (by dsimp only; omega) (by dsimp only; omega) _).1, val_digs]; exact HLT.out)
          | (rw [numAt_eq (setCell_ne (by dsimp only; omega) (setCell_at z_b)) (((Nx.nr (lo := w.heap.size) R1.out).set (by dsimp only; omega) (by dsimp only; omega) _).set (by dsimp only; omega) (by dsimp only; omega) _).1, val_digs]; exact HLT.out)
end Go.Proofs.Ytlciocebbckdcaa.Mo


/- Euclid's algorithm with the signs kept apart, as plain numbers. -/
namespace Go.Proofs.Ytlciocebbckdcaa.Mo

def sg (n : Bool) : Int := if n then -1 else 1
theorem sg_not (n : Bool) : sg (!n) = - sg n := by cases n <;> rfl
structure EInv (a m r0 x0 : Nat) (n0 : Bool) (r1 x1 : Nat) (n1 : Bool) : Prop where
  gcd : Nat.gcd r0 r1 = Nat.gcd a m
  det : x0 * r1 + x1 * r0 = m
  last : (m : Int) ∣ (r0 : Int) - sg n0 * ((x0 : Int) * a)
  back : (m : Int) ∣ (r0 : Int) - sg (!n1) * ((x0 : Int) * a)
  now : (m : Int) ∣ (r1 : Int) - sg n1 * ((x1 : Int) * a)
  le0 : x0 ≤ m
  small : r0 ≤ m
  lt : r1 < r0
  one : m = 1 → x0 = 0 ∧ n0 = false ∧ r1 = 0
theorem EInv.start {a m : Nat} (h : a < m) : EInv a m m 0 false a 1 false :=
  ⟨Nat.gcd_comm m a, by simp, ⟨1, by simp⟩, ⟨1, by simp⟩, ⟨0, by simp [sg]⟩, Nat.zero_le _, Nat.le_refl _, h, fun e => ⟨rfl, rfl, by omega⟩⟩
theorem EInv.fits {a m r0 x0 r1 x1 : Nat} {n0 n1 : Bool} (h : EInv a m r0 x0 n0 r1 x1 n1) (h1 : 0 < r1) : x1 ≤ m ∧ r0 / r1 * x1 ≤ m ∧ x0 + r0 / r1 * x1 ≤ m := by
  have hd := h.det
  have hlt := h.lt
  have e1 : x1 ≤ x1 * r0 := Nat.le_mul_of_pos_right _ (by omega)
  have e2 : r0 / r1 * r1 ≤ r0 := Nat.div_mul_le_self r0 r1
  have e3 : x1 * (r0 / r1 * r1) ≤ x1 * r0 := Nat.mul_le_mul_left _ e2
  have e4 : r0 / r1 * x1 ≤ x1 * (r0 / r1 * r1) := by
    rw [Nat.mul_comm (r0 / r1) x1]
    exact Nat.mul_le_mul_left _ (Nat.le_mul_of_pos_right _ h1)
  have e5 : x0 ≤ x0 * r1 := Nat.le_mul_of_pos_right _ h1
  exact ⟨by omega, by omega, by omega⟩
theorem EInv.step {a m r0 x0 r1 x1 : Nat} {n0 n1 : Bool} (h : EInv a m r0 x0 n0 r1 x1 n1) (h1 : 0 < r1) : EInv a m r1 x1 n1 (r0 % r1) (x0 + r0 / r1 * x1) (!n1) := by
  have hq := Nat.div_add_mod r0 r1
  refine ⟨?_, ?_, h.now, by rw [Bool.not_not]; exact h.now, ?_, (h.fits h1).1, Nat.le_of_lt (Nat.lt_of_lt_of_le h.lt h.small), Nat.mod_lt _ h1, fun e => ?_⟩
  · rw [← h.gcd, Nat.gcd_comm r0 r1, Nat.gcd_rec r1 r0, Nat.gcd_comm r1]
  · have hd := h.det
    rw [Nat.add_mul]
    have e1 : r0 / r1 * x1 * r1 = x1 * (r1 * (r0 / r1)) := by rw [Nat.mul_comm (r0 / r1) x1, Nat.mul_assoc, Nat.mul_comm r1]
    have e2 : x1 * r0 = x1 * (r1 * (r0 / r1)) + x1 * (r0 % r1) := by rw [← Nat.mul_add, hq]
    omega
  · obtain ⟨u, hu⟩ := h.back
    obtain ⟨v, hv⟩ := h.now
    refine ⟨u - (r0 / r1 : Nat) * v, ?_⟩
    have hq2 : (r0 : Int) = r1 * (r0 / r1 : Nat) + (r0 % r1 : Nat) := by exact_mod_cast hq.symm
    rw [Int.mul_sub, ← hu, show (m : Int) * ((r0 / r1 : Nat) * v) = (r0 / r1 : Nat) * (m * v) by rw [← Int.mul_assoc, Int.mul_comm (m : Int), Int.mul_assoc], ← hv, sg_not]
    generalize hQ : ((r0 / r1 : Nat) : Int) = Q at hq2 ⊢
    have hc : ((x0 + r0 / r1 * x1 : Nat) : Int) = x0 + Q * x1 := by rw [← hQ]; push_cast; rfl
    rw [hc, hq2]
    generalize sg n1 = s
    have e1 : -s * ((↑x0 + Q * ↑x1) * (a : Int)) = -s * (↑x0 * ↑a) + -s * (Q * ↑x1 * ↑a) := by rw [Int.add_mul, Int.mul_add]
    have e2 : Q * (↑r1 - s * (↑x1 * (a : Int))) = r1 * Q + -s * (Q * ↑x1 * ↑a) := by
      rw [Int.mul_sub, Int.mul_comm Q ↑r1, Int.sub_eq_add_neg]
      congr 1
      rw [Int.neg_mul, ← Int.mul_assoc Q s, Int.mul_comm Q s, Int.mul_assoc s, Int.mul_assoc Q]
    rw [e1, e2]
    omega
  · have := (h.one e).2.2
    omega
theorem EInv.gcd_end {a m r0 x0 x1 : Nat} {n0 n1 : Bool} (h : EInv a m r0 x0 n0 0 x1 n1) : r0 = Nat.gcd a m := by have := h.gcd; rwa [Nat.gcd_zero_right] at this
/-- What is found. -/
def IsInv (a m z : Nat) : Prop := z < m ∧ a * z % m = 1 % m
theorem isInv_of {a m z : Nat} (hz : z < m) (h : (m : Int) ∣ 1 - (a : Int) * z) : IsInv a m z := by
  refine ⟨hz, ?_⟩
  have h1 : ((1 : Int) - (a : Int) * z) % m = 0 := Int.emod_eq_zero_of_dvd h
  have h2 := Int.emod_eq_emod_iff_emod_sub_eq_zero.2 h1
  exact_mod_cast h2.symm
theorem not_dvd_one {m : Nat} (h : m ≠ 1) (k : Int) : (1 : Int) ≠ m * k := by
  intro e
  have : (m : Int) ∣ 1 := ⟨k, e⟩
  have h2 : m ∣ 1 := by exact_mod_cast this
  exact h (Nat.dvd_one.1 h2)
theorem EInv.inv_end {a m x0 x1 : Nat} {n0 n1 : Bool} (hm : 0 < m) (h : EInv a m 1 x0 n0 0 x1 n1) : IsInv a m (if n0 then m - x0 else x0) := by
  by_cases h1 : m = 1
  · obtain ⟨rfl, rfl, _⟩ := h.one h1
    subst h1
    exact ⟨by decide, by simp⟩
  · have hle := h.le0
    obtain ⟨k, hk⟩ := h.last
    have h0 : x0 ≠ 0 := by
      intro e
      subst e
      exact not_dvd_one h1 k (by simpa using hk)
    cases n0 with
    | true =>
      simp only [if_true]
      refine isInv_of (by omega) ⟨k - a, ?_⟩
      have e : ((m - x0 : Nat) : Int) = m - x0 := by omega
      rw [e, Int.mul_sub, Int.mul_sub, ← hk, Int.mul_comm (m : Int) a]
      simp only [sg, if_true]
      rw [Int.mul_comm (x0 : Int) a]
      omega
    | false =>
      have hne : x0 ≠ m := by
        intro e
        subst e
        have : (1 : Int) = x0 * (k + a) := by
          rw [Int.mul_add, ← hk]
          simp only [sg, Bool.false_eq_true, if_false]
          omega
        exact not_dvd_one h1 _ this
      show IsInv a m x0
      refine isInv_of (by omega) ⟨k, ?_⟩
      rw [← hk]
      simp only [sg, Bool.false_eq_true, if_false]
      rw [Int.mul_comm (x0 : Int) a]
      omega
end Go.Proofs.Ytlciocebbckdcaa.Mo


/- Words that do not lie in a block; the three cells of a step. -/
namespace Go.Proofs.Ytlciocebbckdcaa.Kr
open Go Go.RowKit Go.Proofs.Ytlciocebbckdcaa.Nm Go.Proofs.Ytlciocebbckdcaa.Ne Go.Proofs.Ytlciocebbckdcaa.Nf Go.Proofs.Ytlciocebbckdcaa.Nk Go.Proofs.Ytlciocebbckdcaa.Nr2

/-- Words that do not lie in block b. -/
def Av (b : Nat) (p : Option Addr) (l : List Nat) : Prop := ∀ x : Addr, p = some x → x.block ≠ b ∨ l = []
theorem av_new {W : World} {p : Option Addr} {n c b : Nat} {l : List Nat} (h : Nw W p n c l) (hb : W.heap.size ≤ b) : Av b p l := by
  intro x e
  by_cases h0 : l = []
  · exact .inr h0
  · obtain ⟨b', off, e2, hc⟩ := h.rd.at (List.length_pos_iff.2 h0)
    rw [e] at e2
    cases e2
    have := World.block_lt_of_cell? W _ (hc 0 (List.length_pos_iff.2 h0))
    exact .inl (by dsimp only at this ⊢; omega)
theorem av_nr {D b : Nat} {W : World} {p : Option Addr} {n c : Nat} {l : List Nat} (h : Nr D W p n c l) (hb : b < D) : Av b p l := by
  intro x e
  rcases h.own with h0 | ⟨b', off, e2, hb', _⟩
  · exact .inr h0
  · rw [e] at e2
    cases e2
    exact .inl (by dsimp only; omega)
theorem av_nil (b : Nat) (p : Option Addr) : Av b p [] := fun _ _ => .inr rfl
theorem av_none (b : Nat) (l : List Nat) : Av b none l := fun _ e => by cases e
theorem nw_none (W : World) : Nw W none 0 0 (digs 0) := by
  rw [digs_zero]
  exact ⟨rfl, Nat.le_refl _, fun _ => ⟨rfl, rfl⟩, .inl rfl, ok_nil, by decide⟩
theorem nw_put {W : World} {p : Option Addr} {n c : Nat} {l : List Nat} (h : Nw W p n c l) {a : Addr} (ha : Av a.block p l) (v : Value) : Nw (W.setCell a v) p n c l := by
  by_cases h0 : l = []
  · subst h0
    exact ⟨h.len, h.le, h.nil, .inl rfl, h.ok, h.small⟩
  · exact h.set a v fun x e => (ha x e).resolve_right h0
/-- W' is W but for writes into block b. -/
structure Off (b : Nat) (W W' : World) : Prop where
  cell : ∀ (a : Addr) (v : Value), a.block ≠ b → W.cell? a = some v → W'.cell? a = some v
  frz : ∀ (a : Addr), W.frozen? a = false → W'.frozen? a = false
  gr : ∀ w0 : World, w0.heap.size ≤ b → Gr w0 W → Gr w0 W'
  size : W'.heap.size = W.heap.size
  nw : ∀ (p : Option Addr) (n c : Nat) (l : List Nat), Av b p l → Nw W p n c l → Nw W' p n c l
theorem Off.refl (b : Nat) (W : World) : Off b W W := ⟨fun _ _ _ h => h, fun _ h => h, fun _ _ h => h, rfl, fun _ _ _ _ _ h => h⟩
theorem Off.set {b : Nat} {W W' : World} (h : Off b W W') (o : Nat) (v : Value) : Off b W (W'.setCell ⟨b, o, none⟩ v) :=
  ⟨fun a u hne hc => setCell_ne (fun e => hne e.symm) (h.cell a u hne hc), fun a hf => setCell_frozen (h.frz a hf), fun w0 h0 hg => (h.gr w0 h0 hg).setCell h0 v,
    (World.size_setCell ..).trans h.size, fun p n c l ha hw => nw_put (h.nw p n c l ha hw) ha v⟩
/-- The three cells of a step. -/
structure Stp (W : World) (B : Nat) (v0 v1 v2 : Value) : Prop where
  c0 : W.cell? ⟨B, 0, none⟩ = some v0
  c1 : W.cell? ⟨B, 1, none⟩ = some v1
  c2 : W.cell? ⟨B, 2, none⟩ = some v2
  f0 : W.frozen? ⟨B, 0, none⟩ = false
  f1 : W.frozen? ⟨B, 1, none⟩ = false
  f2 : W.frozen? ⟨B, 2, none⟩ = false
theorem Stp.grow {W W' : World} {B : Nat} {v0 v1 v2 : Value} (h : Stp W B v0 v1 v2) (g : Gr W W') : Stp W' B v0 v1 v2 :=
  ⟨g.cell h.c0, g.cell h.c1, g.cell h.c2, g.frozen h.c0 h.f0, g.frozen h.c1 h.f1, g.frozen h.c2 h.f2⟩
theorem Stp.put {W : World} {B : Nat} {v0 v1 v2 : Value} (h : Stp W B v0 v1 v2) (u0 u1 u2 : Value) : Stp (((W.setCell ⟨B, 0, none⟩ u0).setCell ⟨B, 1, none⟩ u1).setCell ⟨B, 2, none⟩ u2) B u0 u1 u2 := by
  have h0 : (W.setCell ⟨B, 0, none⟩ u0).cell? ⟨B, 0, none⟩ = some u0 := setCell_at h.c0
  have h1 : (W.setCell ⟨B, 0, none⟩ u0).cell? ⟨B, 1, none⟩ = some v1 := (World.cell?_setCell_other _ _ _ _ (by simp)).trans h.c1
  have h2 : (W.setCell ⟨B, 0, none⟩ u0).cell? ⟨B, 2, none⟩ = some v2 := (World.cell?_setCell_other _ _ _ _ (by simp)).trans h.c2
  have i0 : ((W.setCell ⟨B, 0, none⟩ u0).setCell ⟨B, 1, none⟩ u1).cell? ⟨B, 0, none⟩ = some u0 := (World.cell?_setCell_other _ _ _ _ (by simp)).trans h0
  have i1 : ((W.setCell ⟨B, 0, none⟩ u0).setCell ⟨B, 1, none⟩ u1).cell? ⟨B, 1, none⟩ = some u1 := setCell_at h1
  have i2 : ((W.setCell ⟨B, 0, none⟩ u0).setCell ⟨B, 1, none⟩ u1).cell? ⟨B, 2, none⟩ = some v2 := (World.cell?_setCell_other _ _ _ _ (by simp)).trans h2
  exact ⟨(World.cell?_setCell_other _ _ _ _ (by simp)).trans i0, (World.cell?_setCell_other _ _ _ _ (by simp)).trans i1, setCell_at i2, setCell_frozen (setCell_frozen (setCell_frozen h.f0)), setCell_frozen (setCell_frozen (setCell_frozen h.f1)), setCell_frozen (setCell_frozen (setCell_frozen h.f2))⟩
theorem Stp.off {W W' : World} {b B : Nat} {v0 v1 v2 : Value} (h : Stp W B v0 v1 v2) (o : Off b W W') (hne : B ≠ b) : Stp W' B v0 v1 v2 :=
  ⟨o.cell _ _ hne h.c0, o.cell _ _ hne h.c1, o.cell _ _ hne h.c2, o.frz _ h.f0, o.frz _ h.f1, o.frz _ h.f2⟩
theorem Stp.lt {W : World} {B : Nat} {v0 v1 v2 : Value} (h : Stp W B v0 v1 v2) : B < W.heap.size := World.block_lt_of_cell? _ _ h.c0

/-- A value that is no integer. -/
def noInt : Value → Bool
  | .int _ _ => false
  | _ => true
theorem nw_off {W : World} {p : Option Addr} {n c : Nat} {l : List Nat} (h : Nw W p n c l) {a : Addr} {v0 : Value} (hk : W.cell? a = some v0) (hv : noInt v0 = true) (v : Value) : Nw (W.setCell a v) p n c l := by
  refine ⟨h.len, h.le, h.nil, ?_, h.ok, h.small⟩
  rcases h.rd with h0 | ⟨b, off, rfl, hc⟩
  · exact .inl h0
  · refine .inr ⟨b, off, rfl, fun i hi => ?_⟩
    rw [World.cell?_setCell_other _ _ _ _ (fun e => ?_)]
    · exact hc i hi
    · have h1 := hc i hi
      rw [← e, hk] at h1
      cases h1
      cases hv
/-- A number has been handed back (its words may be anybody's). -/
def Has (z : Nat) (w : World) (e : Ending) (w' : World) : Prop :=
  ∃ (p : Option Addr) (n c : Nat), e = .returned (.agg #[.slice p n c]) ∧ Nw w' p n c (digs z) ∧ Gr w w'
theorem num_has {z : Nat} {w : World} {e : Ending} {w' : World} (h : Num z w e w') : Has z w e w' := by
  obtain ⟨p, n, c, h1, h2, h3⟩ := h
  exact ⟨p, n, c, h1, h2.toNw, h3⟩
/-- A number and an error number. -/
def HasE (z k : Nat) (w : World) (e : Ending) (w' : World) : Prop :=
  ∃ (p : Option Addr) (n c : Nat), e = .returned (.tuple #[.agg #[.slice p n c], .int .i64 (k : Int)]) ∧ Nw w' p n c (digs z) ∧ Gr w w'
theorem gives_has {z k : Nat} {w : World} {e : Ending} {w' : World} (h : Nv.Gives z k w e w') : HasE z k w e w' := by
  obtain ⟨p, n, c, h1, h2, h3⟩ := h
  exact ⟨p, n, c, h1, h2.toNw, h3⟩
end Go.Proofs.Ytlciocebbckdcaa.Kr


/- The contracts of the reference's Of, Bit, Bits and Int. -/
namespace Go.Proofs.Ytlciocebbckdcaa.Nr2
open Go.RowKit Go.Shelf Go.Proofs.Ytlciocebbckdcaa.Nm Go.Proofs.Ytlciocebbckdcaa.Ne Go.Proofs.Ytlciocebbckdcaa.Nf Go.Proofs.Ytlciocebbckdcaa.Nk Go.Proofs.Ytlciocebbckdcaa.Nv

theorem rem_two (x t : Nat) : ((x : Int) / 2 ^ t % 2 == 1) = x.testBit t := by
  have e : (x : Int) / 2 ^ t % 2 = ((x / 2 ^ t % 2 : Nat) : Int) := by
    rw [Int.natCast_emod, Int.natCast_ediv, Int.natCast_pow]; rfl
  rw [e, Nat.testBit_eq_decide_div_mod_eq, Bool.eq_iff_iff, beq_iff_eq, decide_eq_true_iff]
  omega

theorem bit_step {x k : Nat} (h : x < 2 ^ (k + 1)) (hb : x.testBit k = false) : x < 2 ^ k := by
  rcases Nat.lt_or_ge x (2 ^ k) with h1 | h1
  · exact h1
  · exfalso
    rw [Nat.testBit_eq_decide_div_mod_eq, decide_eq_false_iff_not] at hb
    apply hb
    have h2 : x / 2 ^ k < 2 := (Nat.div_lt_iff_lt_mul (Nat.pow_pos (by decide))).2 (by rw [Nat.pow_succ, Nat.mul_comm] at h; exact h)
    have h3 : 1 ≤ x / 2 ^ k := (Nat.le_div_iff_mul_le (Nat.pow_pos (by decide))).2 (by rw [Nat.one_mul]; exact h1)
    omega
theorem nb_of_bit {x k : Nat} (h : x < 2 ^ (k + 1)) (hb : x.testBit k = true) : nb x = k + 1 := by
  apply Nat.le_antisymm ((nb_le x (k + 1)).2 h)
  apply Nat.succ_le_of_lt
  apply Nat.lt_of_not_le
  intro hh
  have := (nb_le x k).1 hh
  rw [Nat.testBit_lt_two_pow this] at hb
  cases hb
theorem nb_zero : nb 0 = 0 := Nat.le_zero.1 ((nb_le 0 0).2 (by decide))

end Go.Proofs.Ytlciocebbckdcaa.Nr2


/- The contract of the laws' equal: a number whose value is that of two words of 64 bits. -/
namespace Go.Proofs.Ytlciocebbckdcaa.Nv
open Go.RowKit Go.Shelf Go.Proofs.Ytlciocebbckdcaa.Nm Go.Proofs.Ytlciocebbckdcaa.Ne Go.Proofs.Ytlciocebbckdcaa.Nf Go.Proofs.Ytlciocebbckdcaa.Nk

theorem digs_get : ∀ (i x : Nat), (digs x)[i]?.getD 0 = x / pw i % 4294967296
  | 0, x => by
    rcases Nat.eq_zero_or_pos x with h | h
    · subst h; rw [digs_zero]; rfl
    · rw [digs_pos (by omega)]; simp [pw]
  | i + 1, x => by
    rcases Nat.eq_zero_or_pos x with h | h
    · subst h; rw [digs_zero]; simp
    · rw [digs_pos (by omega), List.getElem?_cons_succ, digs_get i, Nat.div_div_eq_div_mul]; rfl

/-- The words of two words of 64 bits. -/
def four (lo hi : Nat) (i : Nat) : Nat := match i with
  | 0 => lo % 4294967296
  | 1 => lo / 4294967296
  | 2 => hi % 4294967296
  | _ => hi / 4294967296
theorem four_eq {lo hi x : Nat} (hlo : lo < 18446744073709551616) (hhi : hi < 18446744073709551616) (e : x = lo + 18446744073709551616 * hi) : ∀ i, i < 4 → (digs x)[i]?.getD 0 = four lo hi i := by
  intro i hi4
  rw [digs_get]
  have p0 : pw 0 = 1 := rfl
  have p1 : pw 1 = 4294967296 := rfl
  have p2 : pw 2 = 18446744073709551616 := rfl
  have p3 : pw 3 = 79228162514264337593543950336 := rfl
  match i, hi4 with
  | 0, _ => rw [p0]; show x / 1 % 4294967296 = lo % 4294967296; omega
  | 1, _ => rw [p1]; show x / 4294967296 % 4294967296 = lo / 4294967296; omega
  | 2, _ => rw [p2]; show x / 18446744073709551616 % 4294967296 = hi % 4294967296; omega
  | 3, _ => rw [p3]; show x / 79228162514264337593543950336 % 4294967296 = hi / 4294967296; omega

end Go.Proofs.Ytlciocebbckdcaa.Nv


/- The contracts of the reference's Int, Compare and longer. -/
namespace Go.Proofs.Ytlciocebbckdcaa.Nr2
open Go.RowKit Go.Shelf Go.Proofs.Ytlciocebbckdcaa.Nm Go.Proofs.Ytlciocebbckdcaa.Ne Go.Proofs.Ytlciocebbckdcaa.Nf Go.Proofs.Ytlciocebbckdcaa.Nk Go.Proofs.Ytlciocebbckdcaa.Nv

/-- The digit with an index. -/
def dg (x i : Nat) : Nat := x / pw i % 4294967296
theorem dg_lt (x i : Nat) : dg x i < 4294967296 := Nat.mod_lt _ (by decide)
theorem dg_top {x y j : Nat} (h : x / pw (j + 1) = y / pw (j + 1)) : (dg x j = dg y j → x / pw j = y / pw j) ∧ (dg x j < dg y j → x < y) := by
  have e : pw (j + 1) = pw j * 4294967296 := by rw [pw_add]; rfl
  have ex : x / pw j / 4294967296 = y / pw j / 4294967296 := by rw [Nat.div_div_eq_div_mul, Nat.div_div_eq_div_mul, ← e]; exact h
  unfold dg
  refine ⟨fun hd => by omega, fun hd => ?_⟩
  apply Nat.lt_of_not_le
  intro hh
  have := Nat.div_le_div_right (c := pw j) hh
  omega

end Go.Proofs.Ytlciocebbckdcaa.Nr2


/- A list of words that a loop builds by append: what holds between two rounds. -/
namespace Go.Proofs.Ytlciocebbckdcaa.Nr2
open Go.RowKit Go.Shelf Go.Proofs.Ytlciocebbckdcaa.Nm Go.Proofs.Ytlciocebbckdcaa.Ne Go.Proofs.Ytlciocebbckdcaa.Nf Go.Proofs.Ytlciocebbckdcaa.Nk Go.Proofs.Ytlciocebbckdcaa.Nv

/-- The slice v holds the words r, in a block of its own that is younger than W0; what was in W0 is there. -/
def Bld (W0 : World) (v : Value) (r : List Nat) (w : World) : Prop :=
  (∃ p cap, v = .slice p r.length cap) ∧ w.ownsRow W0.heap.size 50 1 v r.length (cw r) ∧ Below W0.heap.size W0 w
theorem Bld.start (W0 : World) : Bld W0 (.slice none 0 0) [] W0 := ⟨⟨none, 0, rfl⟩, ⟨by simp [cw], .inl ⟨rfl, rfl⟩⟩, Below.refl _ _⟩
theorem ownsRow_below {w w' : World} {B : Nat} {e : TypeId} {s n : Nat} {v : Value} {xs : List Value} (h : w.ownsRow B e s v n xs) (g : Gr w w') : w'.ownsRow B e s v n xs := by
  refine ⟨h.1, ?_⟩
  rcases h.2 with h0 | ⟨b, cap, cur, h1, h2, h3, h4⟩
  · exact .inl h0
  · refine .inr ⟨b, cap, cur, h1, h2, ?_, h4⟩
    rw [g.block b (Array.getElem?_eq_some_iff.1 h3).1]
    exact h3
theorem Bld.grow {W0 w w' : World} {v : Value} {r : List Nat} (h : Bld W0 v r w) (g : Gr w w') : Bld W0 v r w' :=
  ⟨h.1, ownsRow_below h.2.1 g, Below.trans h.2.2 (Below.mono g h.2.2.size)⟩
theorem Bld.cell {W0 w : World} {v : Value} {r : List Nat} (h : Bld W0 v r w) {a : Addr} {u : Value} (hc : W0.cell? a = some u) : w.cell? a = some u :=
  Gr.cell (w := W0) h.2.2 hc
theorem Bld.frozen {W0 w : World} {v : Value} {r : List Nat} (h : Bld W0 v r w) {a : Addr} {u : Value} (hc : W0.cell? a = some u) (hf : W0.frozen? a = false) : w.frozen? a = false :=
  Gr.frozen (w := W0) h.2.2 hc hf
/-- The step: a word has been appended, out of a block that has just been written. -/
theorem Bld.step {W0 w w1 : World} {v v1 : Value} {r : List Nat} {x k : Nat} (hk : r.length = k) (h : Bld W0 v r w) (ho : w1.ownsRow W0.heap.size 50 1 v1 (k + 1) (cw r ++ [.int .u32 (x : Int)])) (hg : w.grownBy w1 v.ownBlock) :
    Bld W0 v1 (r ++ [x]) w1 ∧ ∃ p cap, v1 = .slice p (k + 1) cap := by
  subst hk
  have hl : (r ++ [x]).length = r.length + 1 := by simp
  have hc : cw (r ++ [x]) = cw r ++ [.int .u32 (x : Int)] := by simp [cw]
  have ho' : w1.ownsRow W0.heap.size 50 1 v1 (r ++ [x]).length (cw (r ++ [x])) := by rw [hl, hc]; exact ho
  have hs : ∃ p cap, v1 = .slice p (r ++ [x]).length cap := by
    obtain ⟨p, cap, e, _⟩ := own_row rfl ho'
    exact ⟨p, cap, e⟩
  refine ⟨⟨hs, ho', ?_⟩, by rw [hl] at hs; exact hs⟩
  refine ⟨hg.os.trans h.2.2.os, hg.tape.trans h.2.2.tape, hg.output.trans h.2.2.output, Nat.le_trans h.2.2.size hg.size, fun k hk => ?_⟩
  rw [← h.2.2.block k hk]
  refine hg.block k (Nat.lt_of_lt_of_le hk h.2.2.size) (fun e => ?_)
  rcases h.2.1.2 with ⟨e0, _⟩ | ⟨b, cap, cur, e0, hb, _⟩
  · rw [e0] at e; cases e
  · rw [e0] at e
    have : k = b := Option.some.inj e
    omega
theorem Bld.row {W0 w : World} {v : Value} {r : List Nat} {k : Nat} (hk : r.length = k) (h : Bld W0 v r w) (o : Obj) : (w.alloc o).ownsRow W0.heap.size 50 1 v k (cw r) := by
  subst hk
  exact h.2.1.alloc o
theorem Bld.nw' {W0 w : World} {p : Option Addr} {n cap : Nat} {r : List Nat} (h : Bld W0 (.slice p n cap) r w) (hok : ok r) (hs : r.length ≤ 1048576) : Nw w p n cap r := by
  obtain ⟨p', cap', e, hcap, hpn, ho⟩ := own_row rfl h.2.1
  cases e
  exact ⟨rfl, hcap, fun e => ⟨by rw [(hpn e).1]; rfl, (hpn e).2⟩, ho.rd, hok, hs⟩
theorem one_new (w : World) (x : Nat) : ∀ (j : Nat) (u : Value), ([Value.int .u32 (x : Int)])[j]? = some u → (w.alloc (.cells #[.int .u32 (x : Int)] 50)).cell? ((⟨w.heap.size, 0, none⟩ : Addr).add j) = some u := by
  intro j u hu
  match j, hu with
  | 0, hu =>
    simp at hu
    rw [← hu, addr_add]
    simp [go_sem]
  | j + 1, hu => simp at hu

theorem mod_step (x k : Nat) : x % pw (k + 1) = x % pw k + pw k * dg x k := by
  rw [pw_add, Nat.mod_mul]
  rfl
theorem val_snoc (r : List Nat) (x : Nat) : val (r ++ [x]) = val r + pw r.length * x := by
  rw [val_append]
  simp [val]
end Go.Proofs.Ytlciocebbckdcaa.Nr2


/- The state of a walk: the cells of variables, the facts that last. -/
namespace Go.Proofs.Ytlciocebbckdcaa.Kr
open Go Go.RowKit Go.Proofs.Ytlciocebbckdcaa.Nm Go.Proofs.Ytlciocebbckdcaa.Ne Go.Proofs.Ytlciocebbckdcaa.Nf Go.Proofs.Ytlciocebbckdcaa.Nk Go.Proofs.Ytlciocebbckdcaa.Nr2

/-- A value that no data of words or bytes holds. -/
def noData : Value → Bool
  | .int .u32 _ => false
  | .int .u8 _ => false
  | _ => true
/-- These cells hold these values, and can be written. -/
def Cells (W : World) : List (Nat × Nat × Value) → Prop
  | [] => True
  | x :: r => (W.cell? ⟨x.1, x.2.1, none⟩ = some x.2.2 ∧ W.frozen? ⟨x.1, x.2.1, none⟩ = false) ∧ Cells W r
theorem Cells.grow {W W' : World} (g : Gr W W') : ∀ {cs : List (Nat × Nat × Value)}, Cells W cs → Cells W' cs
  | [], _ => trivial
  | _ :: _, h => ⟨⟨g.cell h.1.1, g.frozen h.1.1 h.1.2⟩, Cells.grow g h.2⟩
theorem Cells.get {W : World} : ∀ {cs : List (Nat × Nat × Value)} (i : Nat) {x : Nat × Nat × Value}, Cells W cs → cs[i]? = some x → W.cell? ⟨x.1, x.2.1, none⟩ = some x.2.2 ∧ W.frozen? ⟨x.1, x.2.1, none⟩ = false
  | [], _, _, _, e => by simp at e
  | y :: _, 0, x, h, e => by
    have e2 : y = x := by simpa using e
    rw [← e2]; exact h.1
  | _ :: _, i + 1, _, h, e => Cells.get i h.2 (by simpa using e)
theorem Cells.sub {W : World} {cs : List (Nat × Nat × Value)} (h : Cells W cs) : ∀ (is : List Nat) {l : List (Nat × Nat × Value)}, is.filterMap (fun i => cs[i]?) = l → Cells W l
  | [], l, e => by
    have : l = [] := by simpa using e.symm
    subst this; trivial
  | i :: is, l, e => by
    cases hi : cs[i]? with
    | none =>
      rw [List.filterMap_cons_none hi] at e
      exact Cells.sub h is e
    | some x =>
      rw [List.filterMap_cons_some hi] at e
      subst e
      exact ⟨Cells.get i h hi, Cells.sub h is rfl⟩
/-- A fact that lasts: what grows, and what is stored into a variable, leave it. -/
structure Keep (F : World → Prop) : Prop where
  grow : ∀ {W W' : World}, F W → Gr W W' → F W'
  off : ∀ {W : World} {a : Addr} {v0 : Value} (v : Value), F W → W.cell? a = some v0 → noData v0 = true → F (W.setCell a v)
/-- A number. -/
def N (p : Option Addr) (n c x : Nat) : World → Prop := fun W => Nw W p n c (digs x)
theorem noInt_of {v : Value} {n : Int} (h : noData v = true) : v ≠ .int .u32 n := by
  rintro rfl
  cases h
theorem nw_offD {W : World} {p : Option Addr} {n c : Nat} {l : List Nat} (h : Nw W p n c l) {a : Addr} {v0 : Value} (hk : W.cell? a = some v0) (hv : noData v0 = true) (v : Value) : Nw (W.setCell a v) p n c l := by
  refine ⟨h.len, h.le, h.nil, ?_, h.ok, h.small⟩
  rcases h.rd with h0 | ⟨b, off, rfl, hc⟩
  · exact .inl h0
  · refine .inr ⟨b, off, rfl, fun i hi => ?_⟩
    rw [World.cell?_setCell_other _ _ _ _ (fun e => ?_)]
    · exact hc i hi
    · have h1 := hc i hi
      rw [← e, hk] at h1
      exact noInt_of hv (Option.some.inj h1)
theorem keepN (p : Option Addr) (n c x : Nat) : Keep (N p n c x) := ⟨fun h g => Nw.grow h g, fun v h hk hv => nw_offD h hk hv v⟩
/-- Words, whatever they are. -/
def Ws (p : Option Addr) (n c : Nat) (l : List Nat) : World → Prop := fun W => Nw W p n c l
theorem keepWs (p : Option Addr) (n c : Nat) (l : List Nat) : Keep (Ws p n c l) := ⟨fun h g => Nw.grow h g, fun v h hk hv => nw_offD h hk hv v⟩

structure Sta (w W : World) (cs : List (Nat × Nat × Value)) (fs : List (World → Prop)) : Prop where
  g : Gr w W
  c : Cells W cs
  low : ∀ x ∈ cs, w.heap.size ≤ x.1 ∧ noData x.2.2 = true
  ne : cs.Pairwise (fun x y => (x.1, x.2.1) ≠ (y.1, y.2.1))
  f : ∀ F ∈ fs, F W
  k : ∀ F ∈ fs, Keep F
variable {w W y : World} {cs : List (Nat × Nat × Value)} {fs : List (World → Prop)}
theorem Sta.start (w : World) : Sta w w [] [] := ⟨Gr.refl w, trivial, fun _ h => (by cases h), List.Pairwise.nil, fun _ h => (by cases h), fun _ h => (by cases h)⟩
theorem Sta.grow (H : Sta w W cs fs) (g : Gr W y) : Sta w y cs fs := ⟨H.g.trans g, H.c.grow g, H.low, H.ne, fun F h => (H.k F h).grow (H.f F h) g, H.k⟩
theorem Sta.add (H : Sta w W cs fs) {F : World → Prop} (k : Keep F) (h : F W) : Sta w W cs (F :: fs) :=
  ⟨H.g, H.c, H.low, H.ne, fun G hG => (List.mem_cons.1 hG).elim (fun e => e ▸ h) (H.f G), fun G hG => (List.mem_cons.1 hG).elim (fun e => e ▸ k) (H.k G)⟩
theorem Sta.num (H : Sta w W cs fs) {p : Option Addr} {n c x : Nat} (h : Nw W p n c (digs x)) : Sta w W cs (N p n c x :: fs) := H.add (keepN p n c x) h
theorem Sta.nw (H : Sta w W cs fs) (i : Nat) {p : Option Addr} {n c x : Nat} (h : fs[i]? = some (N p n c x)) : Nw W p n c (digs x) := H.f _ (List.mem_of_getElem? h)
theorem Sta.ws (H : Sta w W cs fs) (i : Nat) {p : Option Addr} {n c : Nat} {l : List Nat} (h : fs[i]? = some (Ws p n c l)) : Nw W p n c l := H.f _ (List.mem_of_getElem? h)
theorem Sta.fact (H : Sta w W cs fs) (i : Nat) {F : World → Prop} (h : fs[i]? = some F) : F W := H.f _ (List.mem_of_getElem? h)
theorem Sta.at (H : Sta w W cs fs) (i : Nat) {b o : Nat} {v : Value} (h : cs[i]? = some (b, o, v)) : W.cell? ⟨b, o, none⟩ = some v := (H.c.get i h).1
theorem cells_lt : ∀ {cs : List (Nat × Nat × Value)}, Cells W cs → ∀ x ∈ cs, x.1 < W.heap.size
  | [], _, _, h => by cases h
  | y :: _, h, x, hx => by
    rcases List.mem_cons.1 hx with rfl | h'
    · exact World.block_lt_of_cell? _ _ h.1.1
    · exact cells_lt h.2 x h'
theorem Sta.alloc (H : Sta w W cs fs) {v : Value} {T b : Nat} (hy : W.alloc (.cells #[v] T) = y) (hb : W.heap.size = b) (hv : noData v = true) : Sta w y ((b, 0, v) :: cs) fs := by
  have hg : Gr W y := by rw [← hy]; exact (Gr.refl _).alloc _
  refine ⟨H.g.trans hg, ⟨⟨by rw [← hy, ← hb]; simp [go_sem], by rw [← hy, ← hb]; simp [go_sem]⟩, H.c.grow hg⟩, ?_, List.Pairwise.cons ?_ H.ne, fun F h => (H.k F h).grow (H.f F h) hg, H.k⟩
  · intro x hx
    rcases List.mem_cons.1 hx with rfl | h'
    · exact ⟨hb ▸ H.g.le, hv⟩
    · exact H.low x h'
  · intro x hx e
    have := cells_lt H.c x hx
    simp only [Prod.mk.injEq] at e
    omega
theorem Cells.set {a : Addr} {b o : Nat} (ha : a = ⟨b, o, none⟩) (v : Value) : ∀ {cs : List (Nat × Nat × Value)}, Cells W cs → (∀ x ∈ cs, (b, o) ≠ (x.1, x.2.1)) → Cells (W.setCell a v) cs
  | [], _, _ => trivial
  | x :: _, h, hne => by
    subst ha
    refine ⟨⟨?_, setCell_frozen h.1.2⟩, Cells.set rfl v h.2 fun z hz => hne z (List.mem_cons_of_mem _ hz)⟩
    rw [World.cell?_setCell_other _ _ _ _ (fun e => ?_)]
    · exact h.1.1
    · have := hne x (List.mem_cons_self ..)
      cases e
      exact this rfl
theorem Cells.store {b o : Nat} {v0 : Value} (v : Value) : ∀ {cs : List (Nat × Nat × Value)} (i : Nat), Cells W cs → cs.Pairwise (fun x y => (x.1, x.2.1) ≠ (y.1, y.2.1)) → cs[i]? = some (b, o, v0) → Cells (W.setCell ⟨b, o, none⟩ v) (cs.set i (b, o, v))
  | [], _, _, _, e => by simp at e
  | x :: r, 0, h, hp, e => by
    have e2 : x = (b, o, v0) := by simpa using e
    subst e2
    exact ⟨⟨setCell_at h.1.1, setCell_frozen h.1.2⟩, Cells.set rfl v h.2 fun z hz => List.rel_of_pairwise_cons hp hz⟩
  | x :: r, i + 1, h, hp, e => by
    have e2 : r[i]? = some (b, o, v0) := by simpa using e
    refine ⟨⟨?_, setCell_frozen h.1.2⟩, Cells.store v i h.2 (List.Pairwise.of_cons hp) e2⟩
    rw [World.cell?_setCell_other _ _ _ _ (fun e3 => ?_)]
    · exact h.1.1
    · have := List.rel_of_pairwise_cons hp (List.mem_of_getElem? e2)
      cases e3
      exact this rfl
theorem mem_set {x z : Nat × Nat × Value} : ∀ {cs : List (Nat × Nat × Value)} {i : Nat}, z ∈ cs.set i x → z = x ∨ z ∈ cs
  | [], _, h => by simp at h
  | _ :: _, 0, h => (List.mem_cons.1 h).imp id (List.mem_cons_of_mem _)
  | _ :: _, i + 1, h => by
    rcases List.mem_cons.1 h with h | h
    · exact .inr (by rw [h]; exact List.mem_cons_self ..)
    · exact (mem_set h).imp id (List.mem_cons_of_mem _)
theorem pairwise_set {b o : Nat} {v0 v : Value} : ∀ {cs : List (Nat × Nat × Value)} (i : Nat), cs[i]? = some (b, o, v0) → cs.Pairwise (fun x y => (x.1, x.2.1) ≠ (y.1, y.2.1)) → (cs.set i (b, o, v)).Pairwise (fun x y => (x.1, x.2.1) ≠ (y.1, y.2.1))
  | [], _, e, _ => by simp at e
  | x :: r, 0, e, h => by
    have e2 : x = (b, o, v0) := by simpa using e
    subst e2
    exact List.Pairwise.cons (fun z hz => List.rel_of_pairwise_cons h hz) (List.Pairwise.of_cons h)
  | x :: r, i + 1, e, h => by
    have e2 : r[i]? = some (b, o, v0) := by simpa using e
    refine List.Pairwise.cons (fun z hz => ?_) (pairwise_set i e2 (List.Pairwise.of_cons h))
    rcases mem_set hz with rfl | hz
    · have := List.rel_of_pairwise_cons h (List.mem_of_getElem? e2)
      exact this
    · exact List.rel_of_pairwise_cons h hz
theorem Sta.store (H : Sta w W cs fs) (i : Nat) {b o : Nat} {v0 v : Value} (hy : W.setCell ⟨b, o, none⟩ v = y) (h : cs[i]? = some (b, o, v0)) (hv : noData v = true) : Sta w y (cs.set i (b, o, v)) fs := by
  subst hy
  have hx := H.low _ (List.mem_of_getElem? h)
  exact ⟨H.g.setCell hx.1 v, Cells.store v i H.c H.ne h, fun z hz => (mem_set hz).elim (fun e => by rw [e]; exact ⟨hx.1, hv⟩) (H.low z), pairwise_set i h H.ne,
    fun F hF => (H.k F hF).off v (H.f F hF) (H.at i h) hx.2, H.k⟩
theorem Sta.pick (H : Sta w W cs fs) (is : List Nat) {gs : List (World → Prop)} (h : is.filterMap (fun i => fs[i]?) = gs) : Sta w W cs gs := by
  subst h
  have hm : ∀ F ∈ is.filterMap (fun i => fs[i]?), F ∈ fs := fun F hF => by
    obtain ⟨i, _, hi⟩ := List.mem_filterMap.1 hF
    exact List.mem_of_getElem? hi
  exact ⟨H.g, H.c, H.low, H.ne, fun F hF => H.f F (hm F hF), fun F hF => H.k F (hm F hF)⟩
theorem ne_at {cs : List (Nat × Nat × Value)} (h : cs.Pairwise (fun x y => (x.1, x.2.1) ≠ (y.1, y.2.1))) {i j : Nat} {x y : Nat × Nat × Value} (hi : cs[i]? = some x) (hj : cs[j]? = some y) (hne : i ≠ j) : (x.1, x.2.1) ≠ (y.1, y.2.1) := by
  obtain ⟨h1, rfl⟩ := List.getElem?_eq_some_iff.1 hi
  obtain ⟨h2, rfl⟩ := List.getElem?_eq_some_iff.1 hj
  rcases Nat.lt_or_gt_of_ne hne with h3 | h3
  · exact List.pairwise_iff_getElem.1 h i j h1 h2 h3
  · exact fun e => List.pairwise_iff_getElem.1 h j i h2 h1 h3 e.symm
theorem ne_pick {cs : List (Nat × Nat × Value)} (h : cs.Pairwise (fun x y => (x.1, x.2.1) ≠ (y.1, y.2.1))) : ∀ (is : List Nat), is.Nodup → (is.filterMap (fun i => cs[i]?)).Pairwise (fun x y => (x.1, x.2.1) ≠ (y.1, y.2.1))
  | [], _ => List.Pairwise.nil
  | i :: is, hn => by
    cases hi : cs[i]? with
    | none => rw [List.filterMap_cons_none hi]; exact ne_pick h is (List.nodup_cons.1 hn).2
    | some x =>
      rw [List.filterMap_cons_some hi]
      refine List.Pairwise.cons (fun y hy => ?_) (ne_pick h is (List.nodup_cons.1 hn).2)
      obtain ⟨j, hj, hj2⟩ := List.mem_filterMap.1 hy
      exact ne_at h hi hj2 fun e => (List.nodup_cons.1 hn).1 (e ▸ hj)
theorem Sta.pickC (H : Sta w W cs fs) (is : List Nat) (hn : is.Nodup) {ds : List (Nat × Nat × Value)} (h : is.filterMap (fun i => cs[i]?) = ds) : Sta w W ds fs := by
  subst h
  refine ⟨H.g, H.c.sub is rfl, fun x hx => ?_, ne_pick H.ne is hn, H.f, H.k⟩
  obtain ⟨i, _, hi⟩ := List.mem_filterMap.1 hx
  exact H.low x (List.mem_of_getElem? hi)
theorem Cells.drop : ∀ {cs : List (Nat × Nat × Value)} (n : Nat), Cells W cs → Cells W (cs.drop n)
  | _, 0, h => h
  | [], _ + 1, _ => trivial
  | _ :: _, n + 1, h => Cells.drop n h.2
theorem Sta.drop (H : Sta w W cs fs) (n : Nat) : Sta w W (cs.drop n) fs := ⟨H.g, H.c.drop n, fun x hx => H.low x (List.mem_of_mem_drop hx), H.ne.drop, H.f, H.k⟩
theorem Sta.sub (H : Sta w W cs fs) (is : List Nat) {l : List (Nat × Nat × Value)} (h : is.filterMap (fun i => cs[i]?) = l) : Cells W l := H.c.sub is h
theorem ownsRow_at {W0 W : World} {v : Value} {r : List Nat} {k : Nat} (hk : r.length = k) (h : Bld W0 v r W) : W.ownsRow W0.heap.size 50 1 v k (cw r) := by
  subst hk
  exact h.2.1
end Go.Proofs.Ytlciocebbckdcaa.Kr


/- The steps of a walk, the state behind each of them worked out by itself. -/
namespace Go.Proofs.Ytlciocebbckdcaa.Kr
open Go
section
variable {P : Program} {ops : Array Oper} {Q : Exit → Act → World → Prop} {md : Region.Mode} {S : World → Prop} {st : List Nat}
/-- A list of operations that is still to be walked: a shell that no tactic looks into (a bare 'wpList' is unfolded by whoever asks for its head, and behind an operation whose guard is off that grows without end). -/
structure WL (P : Program) (ops : Array Oper) (Q : Exit → Act → World → Prop) (l : List Oper) (a : Act) (w : World) : Prop where
  out : wpList P ops Q l a w
theorem seqStartW {id : Nat} {l : List Oper} {a : Act} {w : World} (h : WL P l.toArray Q l a w) : (Code.region id l.toArray false).wp P Q a w := seqStart h.out
theorem seqQ {o : Oper} {rest : List Oper} {v : Value} {a a' : Act} {w : World} (hw : Region.wanted o (yielded ops a.tmps) = true) (hy : (execOp a.eval o).run P w = .ok (.value v) w)
    (ha : a.put o.dst v = a') (h : WL P ops Q rest a' w) : WL P ops Q (o :: rest) a w := by
  subst ha
  exact ⟨seqP hw hy h.out⟩
theorem seqSkipQ {o : Oper} {rest : List Oper} {a a' : Act} {w : World} (hw : Region.wanted o (yielded ops a.tmps) = false) (ha : a.put o.dst undef = a') (h : WL P ops Q rest a' w) : WL P ops Q (o :: rest) a w := by
  subst ha
  exact ⟨seqSkip hw h.out⟩
theorem outS {rest : List Oper} {K : Act → World → Prop} (hK : Shut (∀ a w, WL P ops Q rest a w → K a w)) {a a' : Act} {w : World} (ha : a = a') (h : WL P ops Q rest a' w) : K a w := by
  subst ha
  exact hK a w h
theorem seqR {o : Oper} {rest : List Oper} {a : Act} {w : World} (hw : Region.wanted o (yielded ops a.tmps) = true) (h : ∀ K : Act → World → Prop, Shut (∀ a w, WL P ops Q rest a w → K a w) → Oper.wp P o a w K Q) : WL P ops Q (o :: rest) a w :=
  ⟨seqS fun K hK => by rw [if_pos hw]; exact h K fun a w hw => hK a w hw.out⟩
theorem seqDoneW {a : Act} {w : World} (h : Q .normal a w) : WL P ops Q [] a w := ⟨seqDone h⟩
theorem tPQ (i : Nat) {oi : Oper} {v : Value} {fuel : Nat} {listed : Array Bool} {a a' : Act} {w : World} (hi : ops[i]? = some oi) (hc : okP md ops st listed i = true) (hQ : ∀ c a w, Q (.panic c) (a.put oi.dst v) w → Q (.panic c) a w) (hw : Region.wanted oi (yielded ops a.tmps) = true) (hS : still st listed = true → S w)
    (hy : ∀ w : World, (execOp a.eval oi).run P w = .ok (.value v) w) (ha : a.put oi.dst v = a') (h : wpAnyL P md ops Q S st fuel (listed.setIfInBounds i true) a' w) : wpAnyL P md ops Q S st (fuel + 1) listed a w := by
  subst ha
  exact tP i hi hc hQ hw hS hy h
theorem tOQ (i : Nat) {oi : Oper} {fuel : Nat} {listed : Array Bool} {a a' : Act} {w : World} (hi : ops[i]? = some oi) (hc : okP md ops st listed i = true) (hQ : ∀ c a w, Q (.panic c) (a.put oi.dst undef) w → Q (.panic c) a w) (hw : Region.wanted oi (yielded ops a.tmps) = false) (hS : still st listed = true → S w)
    (ha : a.put oi.dst undef = a') (h : wpAnyL P md ops Q S st fuel (listed.setIfInBounds i true) a' w) : wpAnyL P md ops Q S st (fuel + 1) listed a w := by
  subst ha
  exact tO i hi hc hQ hw hS h
theorem tSQ (i : Nat) (B : List Nat) {oi : Oper} {v : Value} {fuel : Nat} {listed : Array Bool} {a a' : Act} {w : World} (hi : ops[i]? = some oi) (hc : okS md ops st listed i B = true) (hQ : ∀ c a w, Q (.panic c) (a.put oi.dst v) w → Q (.panic c) a w) (hw : Region.wanted oi (yielded ops a.tmps) = true) (hS : S w)
    (hy : ∀ w : World, S w → (execOp a.eval oi).run P w = .ok (.value v) w) (ha : a.put oi.dst v = a') (h : wpAnyL P md ops Q S st fuel (listed.setIfInBounds i true) a' w) : wpAnyL P md ops Q S st (fuel + 1) listed a w := by
  subst ha
  exact tS i B hi hc hQ hw hS hy h
theorem outL {K : Act → World → Prop} {fuel : Nat} {listed : Array Bool} (hK : Shut (∀ a w, (still st listed = true → S w) → wpAnyL P md ops Q S st fuel listed a w → K a w)) {a a' : Act} {w : World} (ha : a = a') (hS : still st listed = true → S w) (h : wpAnyL P md ops Q S st fuel listed a' w) : K a w := by
  subst ha
  exact hK a w hS h
end
section
open Go.RowKit Go.Proofs.Ytlciocebbckdcaa.Ne
variable {w W y : World} {cs : List (Nat × Nat × Value)} {fs : List (World → Prop)}
theorem set_self {α : Type} {x : α} : ∀ {l : List α} {i : Nat}, l[i]? = some x → l.set i x = l
  | [], _, h => by simp at h
  | z :: _, 0, h => by
    have e : z = x := by simpa using h
    rw [e]; rfl
  | z :: l, i + 1, h => by
    rw [List.set_cons_succ, set_self (l := l) (by simpa using h)]
/-- The same value is stored again. -/
theorem Sta.same (H : Sta w W cs fs) (i : Nat) {b o : Nat} {v : Value} (hy : W.setCell ⟨b, o, none⟩ v = y) (h : cs[i]? = some (b, o, v)) (hv : noData v = true) : Sta w y cs fs := by
  have := H.store i hy h hv
  rwa [set_self h] at this
theorem Sta.tl {F : World → Prop} (H : Sta w W cs (F :: fs)) : Sta w W cs fs := ⟨H.g, H.c, H.low, H.ne, fun G hG => H.f G (List.mem_cons_of_mem _ hG), fun G hG => H.k G (List.mem_cons_of_mem _ hG)⟩
theorem Sta.tlC {x : Nat × Nat × Value} (H : Sta w W (x :: cs) fs) : Sta w W cs fs := H.drop 1
end
end Go.Proofs.Ytlciocebbckdcaa.Kr


/- A block of two cells among the cells of a walk. -/
namespace Go.Proofs.Ytlciocebbckdcaa.Kr
open Go Go.RowKit Go.Proofs.Ytlciocebbckdcaa.Nm Go.Proofs.Ytlciocebbckdcaa.Ne Go.Proofs.Ytlciocebbckdcaa.Nf Go.Proofs.Ytlciocebbckdcaa.Nk Go.Proofs.Ytlciocebbckdcaa.Nr2
variable {w W y : World} {cs : List (Nat × Nat × Value)} {fs : List (World → Prop)}
theorem Sta.alloc2 (H : Sta w W cs fs) {v0 v1 : Value} {T b : Nat} (hy : W.alloc (.cells #[v0, v1] T) = y) (hb : W.heap.size = b) (h0 : noData v0 = true) (h1 : noData v1 = true) : Sta w y ((b, 0, v0) :: (b, 1, v1) :: cs) fs := by
  have hg : Gr W y := by rw [← hy]; exact (Gr.refl _).alloc _
  have hlt := cells_lt H.c
  refine ⟨H.g.trans hg, ⟨⟨by rw [← hy, ← hb]; simp [go_sem], by rw [← hy, ← hb]; simp [go_sem]⟩, ⟨by rw [← hy, ← hb]; simp [go_sem], by rw [← hy, ← hb]; simp [go_sem]⟩, H.c.grow hg⟩, ?_, List.Pairwise.cons ?_ (List.Pairwise.cons ?_ H.ne), fun F h => (H.k F h).grow (H.f F h) hg, H.k⟩
  · intro x hx
    rcases List.mem_cons.1 hx with rfl | hx
    · exact ⟨hb ▸ H.g.le, h0⟩
    · rcases List.mem_cons.1 hx with rfl | hx
      · exact ⟨hb ▸ H.g.le, h1⟩
      · exact H.low x hx
  · intro x hx e
    rcases List.mem_cons.1 hx with rfl | hx
    · simp at e
    · have := hlt x hx
      simp only [Prod.mk.injEq] at e
      omega
  · intro x hx e
    have := hlt x hx
    simp only [Prod.mk.injEq] at e
    omega
end Go.Proofs.Ytlciocebbckdcaa.Kr


/- Bytes in memory; digits as numbers. -/
namespace Go.Proofs.Ytlciocebbckdcaa.Fb
open Go Go.RowKit Go.Proofs.Ytlciocebbckdcaa.Nm Go.Proofs.Ytlciocebbckdcaa.Ne Go.Proofs.Ytlciocebbckdcaa.Nf Go.Proofs.Ytlciocebbckdcaa.Nk Go.Proofs.Ytlciocebbckdcaa.Nr2 Go.Proofs.Ytlciocebbckdcaa.Kr

/-- A slice that reads as bytes. -/
structure Bt (w : World) (p : Option Addr) (n c : Nat) (l : List Nat) : Prop where
  len : l.length = n
  le : n ≤ c
  nil : p = none → n = 0 ∧ c = 0
  rd : l = [] ∨ ∃ b off, p = some ⟨b, off, none⟩ ∧ ∀ i, i < l.length → w.cell? ⟨b, off + i, none⟩ = some (.int .u8 ((l[i]?.getD 0 : Nat) : Int))
  ok : ∀ x ∈ l, x < 256
  small : n ≤ 1048576
theorem Bt.grow {w w' : World} {p : Option Addr} {n c : Nat} {l : List Nat} (h : Bt w p n c l) (g : Gr w w') : Bt w' p n c l :=
  ⟨h.len, h.le, h.nil, h.rd.imp id fun ⟨b, off, e, hc⟩ => ⟨b, off, e, fun i hi => g.cell (hc i hi)⟩, h.ok, h.small⟩
theorem Bt.off {w : World} {p : Option Addr} {n c : Nat} {l : List Nat} (h : Bt w p n c l) {a : Addr} {v0 : Value} (hk : w.cell? a = some v0) (hv : noData v0 = true) (v : Value) : Bt (w.setCell a v) p n c l := by
  refine ⟨h.len, h.le, h.nil, h.rd.imp id fun ⟨b, off, e, hc⟩ => ⟨b, off, e, fun i hi => ?_⟩, h.ok, h.small⟩
  rw [World.cell?_setCell_other _ _ _ _ (fun e => ?_)]
  · exact hc i hi
  · have h1 := hc i hi
    rw [← e, hk] at h1
    rw [Option.some.inj h1] at hv
    cases hv
def B (p : Option Addr) (n c : Nat) (l : List Nat) : World → Prop := fun W => Bt W p n c l
theorem keepB (p : Option Addr) (n c : Nat) (l : List Nat) : Keep (B p n c l) := ⟨fun h g => Bt.grow h g, fun v h hk hv => Bt.off h hk hv v⟩
theorem Bt.at {w : World} {p : Option Addr} {n c : Nat} {l : List Nat} (h : Bt w p n c l) {k : Nat} (hk : k < n) : ∃ b off, p = some ⟨b, off, none⟩ ∧ w.cell? ⟨b, off + k, none⟩ = some (.int .u8 ((l[k]?.getD 0 : Nat) : Int)) := by
  rcases h.rd with h0 | ⟨b, off, e, hc⟩
  · have := h.len; rw [h0] at this; simp at this; omega
  · exact ⟨b, off, e, hc k (by rw [h.len]; exact hk)⟩
/-- The number with these digits, the highest one first. -/
def dval (g : Nat) (l : List Nat) : Nat := l.foldl (fun a d => a * g + d) 0
theorem dval_snoc (g : Nat) (l : List Nat) (d : Nat) : dval g (l ++ [d]) = dval g l * g + d := by simp [dval]
theorem dval_take (g : Nat) (l : List Nat) {k : Nat} (hk : k < l.length) : dval g (l.take (k + 1)) = dval g (l.take k) * g + l[k]?.getD 0 := by
  have h : l.take (k + 1) = l.take k ++ [l[k]] := by rw [List.take_add_one, List.getElem?_eq_getElem hk]; rfl
  rw [h, dval_snoc, List.getElem?_eq_getElem hk]
  rfl
theorem dval_mono (g : Nat) (hg : 0 < g) (l m : List Nat) : dval g l ≤ dval g (l ++ m) := by
  induction m generalizing l with
  | nil => simp
  | cons d m ih =>
    have h := ih (l ++ [d])
    rw [dval_snoc, List.append_assoc] at h
    have := Nat.le_mul_of_pos_right (dval g l) hg
    exact Nat.le_trans (by omega) h
theorem dval_take_le (g : Nat) (hg : 0 < g) (l : List Nat) (k : Nat) : dval g (l.take k) ≤ dval g l := by
  have := dval_mono g hg (l.take k) (l.drop k)
  rwa [List.take_append_drop] at this
end Go.Proofs.Ytlciocebbckdcaa.Fb


/- A row of bytes of one's own beside the state of a walk. -/
namespace Go.Proofs.Ytlciocebbckdcaa.Fb
open Go Go.RowKit Go.Proofs.Ytlciocebbckdcaa.Nm Go.Proofs.Ytlciocebbckdcaa.Ne Go.Proofs.Ytlciocebbckdcaa.Nf Go.Proofs.Ytlciocebbckdcaa.Nk Go.Proofs.Ytlciocebbckdcaa.Nr2 Go.Proofs.Ytlciocebbckdcaa.Kr

/-- Bytes as values. -/
def cb (l : List Nat) : List Value := l.map fun (x : Nat) => .int .u8 (x : Int)
/-- The words of a slice lie outside this block. -/
def Away (row : Option Nat) (p : Option Addr) (n : Nat) : Prop := n = 0 ∨ ∀ a : Addr, p = some a → row ≠ some a.block
theorem Away.none (p : Option Addr) (n : Nat) : Away .none p n := .inr fun _ _ e => by cases e
theorem nw_grown {W W' : World} {row : Option Nat} {p : Option Addr} {n c : Nat} {l : List Nat} (h : Nw W p n c l) (ha : Away row p n) (g : W.grownBy W' row) : Nw W' p n c l := by
  refine ⟨h.len, h.le, h.nil, ?_, h.ok, h.small⟩
  rcases h.rd with h0 | ⟨b, off, e, hc⟩
  · exact .inl h0
  · rcases ha with h0 | ha
    · exact .inl (List.eq_nil_of_length_eq_zero (by rw [h.len, h0]))
    · exact .inr ⟨b, off, e, fun i hi => g.cell (hc i hi) (fun e2 => ha _ e e2.symm)⟩
theorem nw_block {W : World} {p : Option Addr} {n c : Nat} {l : List Nat} (h : Nw W p n c l) (h0 : n ≠ 0) {a : Addr} (e : p = some a) : a.block < W.heap.size := by
  rcases h.rd with h1 | ⟨b, off, e2, hc⟩
  · have := h.len; rw [h1] at this; exact absurd this.symm h0
  · rw [e2] at e
    have e3 := Option.some.inj e
    subst e3
    exact World.block_lt_of_cell? W _ (hc 0 (by have := h.len; omega))
theorem Away.next {W : World} {row row' : Option Nat} {p : Option Addr} {n c : Nat} {l : List Nat} (h : Nw W p n c l) (ha : Away row p n) (hat : row' = row ∨ row' = some W.heap.size) : Away row' p n := by
  by_cases h0 : n = 0
  · exact .inl h0
  refine .inr fun a e e2 => ?_
  rcases hat with e1 | e1
  · exact ha.elim h0 (fun h => h a e (e1 ▸ e2))
  · have h1 := nw_block h h0 e
    rw [e1] at e2
    have := Option.some.inj e2
    omega
theorem cells_grown {W W' : World} {row : Option Nat} (g : W.grownBy W' row) : ∀ {cs : List (Nat × Nat × Value)}, (∀ x ∈ cs, row ≠ some x.1) → Cells W cs → Cells W' cs
  | [], _, _ => trivial
  | x :: _, hn, h => by
    have hb := g.block x.1 (World.block_lt_of_cell? W _ h.1.1) (fun e => hn x (List.mem_cons_self ..) e.symm)
    exact ⟨⟨(World.cell?_of_block (a := ⟨x.1, x.2.1, none⟩) hb).trans h.1.1, (World.frozen?_of_block (a := ⟨x.1, x.2.1, none⟩) hb).trans h.1.2⟩, cells_grown g (fun y hy => hn y (List.mem_cons_of_mem _ hy)) h.2⟩
theorem away_own {B : Nat} {W : World} {row : Option Nat} {p : Option Addr} {n c : Nat} {l : List Nat} (h : Nr B W p n c l) (hr : ∀ k, row = some k → k < B) : Away row p n := by
  rcases h.own with h0 | ⟨b, off, e, hb, _⟩
  · exact .inl (by rw [← h.len, h0]; rfl)
  · refine .inr fun a e1 e2 => ?_
    rw [e] at e1
    have e3 := Option.some.inj e1
    subst e3
    have := hr _ e2
    simp only at this
    omega
/-- The row has grown: the cells elsewhere stay; each fact is given anew. -/
theorem sta_grown {w W W' : World} {cs : List (Nat × Nat × Value)} {fs : List (World → Prop)} {row : Option Nat} (H : Sta w W cs fs) (g : W.grownBy W' row)
    (hr : ∀ k, row = some k → w.heap.size ≤ k) (hc : ∀ x ∈ cs, row ≠ some x.1) (hf : ∀ F ∈ fs, F W') : Sta w W' cs fs := by
  refine ⟨?_, cells_grown g hc H.c, H.low, H.ne, hf, H.k⟩
  refine ⟨g.os.trans H.g.os, g.tape.trans H.g.tape, g.output.trans H.g.output, Nat.le_trans H.g.size g.size, fun k hk => ?_⟩
  rw [← H.g.block k hk]
  refine g.block k (Nat.lt_of_lt_of_le hk H.g.size) (fun e => ?_)
  have := hr k e.symm
  omega
end Go.Proofs.Ytlciocebbckdcaa.Fb


/- Digits in a base, the lowest one first: plain numbers. -/
namespace Go.Proofs.Ytlciocebbckdcaa.Fb
open Go Go.RowKit Go.Proofs.Ytlciocebbckdcaa.Nm Go.Proofs.Ytlciocebbckdcaa.Ne Go.Proofs.Ytlciocebbckdcaa.Nf Go.Proofs.Ytlciocebbckdcaa.Nk Go.Proofs.Ytlciocebbckdcaa.Nr2 Go.Proofs.Ytlciocebbckdcaa.Kr

/-- The digits of x in the base g, the lowest one first, without leading zeros. -/
def low (g x : Nat) : List Nat := if _h : g < 2 ∨ x = 0 then [] else x % g :: low g (x / g)
termination_by x
decreasing_by exact Nat.div_lt_self (by omega) (by omega)
theorem low_zero (g : Nat) : low g 0 = [] := by rw [low]; simp
theorem low_step {g x : Nat} (hg : 2 ≤ g) (hx : x ≠ 0) : low g x = x % g :: low g (x / g) := by
  rw [low, dif_neg (by omega)]
theorem low_nil {g x : Nat} (hg : 2 ≤ g) (h : low g x = []) : x = 0 := by
  by_cases hx : x = 0
  · exact hx
  · rw [low_step hg hx] at h
    cases h
theorem low_lt {g : Nat} (hg : 2 ≤ g) (x : Nat) : ∀ d ∈ low g x, d < g := by
  induction x using Nat.strongRecOn with
  | ind x ih =>
    intro d hd
    by_cases hx : x = 0
    · subst hx; rw [low_zero] at hd; cases hd
    · rw [low_step hg hx] at hd
      rcases List.mem_cons.1 hd with h | h
      · rw [h]; exact Nat.mod_lt _ (by omega)
      · exact ih _ (Nat.div_lt_self (by omega) (by omega)) d h
theorem dval_low {g : Nat} (hg : 2 ≤ g) (x : Nat) : dval g (low g x).reverse = x := by
  induction x using Nat.strongRecOn with
  | ind x ih =>
    by_cases hx : x = 0
    · subst hx; rw [low_zero]; rfl
    · rw [low_step hg hx, List.reverse_cons, dval_snoc, ih _ (Nat.div_lt_self (by omega) (by omega)), Nat.mul_comm]
      exact Nat.div_add_mod x g
theorem low_len {g : Nat} (hg : 2 ≤ g) (k : Nat) : ∀ x, x < g ^ k → (low g x).length ≤ k := by
  induction k with
  | zero => intro x hx; have : x = 0 := by simpa using hx
            subst this; rw [low_zero]; simp
  | succ k ih =>
    intro x hx
    by_cases h0 : x = 0
    · subst h0; rw [low_zero]; simp
    · rw [low_step hg h0, List.length_cons]
      have := ih (x / g) (Nat.div_lt_of_lt_mul (by rw [Nat.mul_comm, ← Nat.pow_succ]; exact hx))
      omega
/-- The highest digit is no zero. -/
theorem low_last {g : Nat} (hg : 2 ≤ g) (x : Nat) : ∀ d, (low g x).getLast? = some d → d ≠ 0 := by
  induction x using Nat.strongRecOn with
  | ind x ih =>
    intro d hd
    by_cases hx : x = 0
    · subst hx; rw [low_zero] at hd; cases hd
    · rw [low_step hg hx] at hd
      by_cases hq : x / g = 0
      · rw [hq, low_zero] at hd
        have h1 : x % g = d := by simpa using hd
        have h2 : x < g := by rcases Nat.div_eq_zero_iff.1 hq with h | h <;> omega
        rw [Nat.mod_eq_of_lt h2] at h1
        omega
      · have h1 : low g (x / g) ≠ [] := fun e => hq (low_nil hg e)
        rw [List.getLast?_cons_of_ne_nil h1] at hd
        exact ih _ (Nat.div_lt_self (by omega) (by omega)) d hd
/-- Digits without leading zeros are those of their number. -/
theorem low_dval {g : Nat} (hg : 2 ≤ g) (l : List Nat) (hl : ∀ d ∈ l, d < g) (h0 : ∀ d, l.head? = some d → d ≠ 0) : (low g (dval g l)).reverse = l := by
  suffices h : ∀ m : List Nat, (∀ d ∈ m, d < g) → (∀ d, m.getLast? = some d → d ≠ 0) → low g (dval g m.reverse) = m by
    have := h l.reverse (fun d hd => hl d (List.mem_reverse.1 hd)) (by rw [List.getLast?_reverse]; exact h0)
    rw [List.reverse_reverse] at this
    rw [this, List.reverse_reverse]
  intro m
  induction m with
  | nil => intro _ _; exact low_zero g
  | cons d m ih =>
    intro hm hlast
    rw [List.reverse_cons, dval_snoc]
    have hd := hm d (List.mem_cons_self ..)
    have hm2 : ∀ d ∈ m, d < g := fun e he => hm e (List.mem_cons_of_mem _ he)
    by_cases hnil : m = []
    · subst hnil
      have hd0 := hlast d rfl
      have e1 : dval g [].reverse * g + d = d := by simp [dval]
      rw [e1, low_step hg hd0, Nat.mod_eq_of_lt hd, Nat.div_eq_of_lt hd, low_zero]
    · have ih' := ih hm2 (by rw [List.getLast?_cons_of_ne_nil hnil] at hlast; exact hlast)
      have hne : dval g m.reverse ≠ 0 := fun e => hnil (by rw [← ih', e, low_zero])
      have hpos : 0 < dval g m.reverse * g := Nat.mul_pos (by omega) (by omega)
      rw [low_step hg (by omega)]
      have e1 : (dval g m.reverse * g + d) % g = d := by rw [Nat.add_comm, Nat.add_mul_mod_self_right, Nat.mod_eq_of_lt hd]
      have e2 : (dval g m.reverse * g + d) / g = dval g m.reverse := by rw [Nat.add_comm, Nat.add_mul_div_right _ _ (by omega), Nat.div_eq_of_lt hd, Nat.zero_add]
      rw [e1, e2, ih']
end Go.Proofs.Ytlciocebbckdcaa.Fb


/- A row of bytes turned round in place. -/
namespace Go.Proofs.Ytlciocebbckdcaa.Fb
open Go Go.RowKit Go.Lib Go.Sort Go.Proofs.Ytlciocebbckdcaa.Nm Go.Proofs.Ytlciocebbckdcaa.Ne Go.Proofs.Ytlciocebbckdcaa.Nf Go.Proofs.Ytlciocebbckdcaa.Nk Go.Proofs.Ytlciocebbckdcaa.Nr2

/-- A byte as a value. -/
def eb (x : Nat) : Value := .int .u8 (x : Int)
set_option maxHeartbeats 4000000 in
set_option maxRecDepth 1000000 in
theorem turn_row (blk off cap m : Nat) (d : Array Nat) (w : World) (hm : d.size = m) (hH : Holds eb w blk off d) (hs : m ≤ 1048576) :
    Calls Try.prog 128 #[.slice (some ⟨blk, off, none⟩) m cap] w fun e w' => e = .returned (.tuple #[]) ∧ ∃ n, w' = putRow eb (Sort.ahead w n) blk off d.reverse := by
  go_enter Try.func128, Try.ntmps128
  go_wp2
  go_loopg [2, 3] m (fun k u v wr => ∃ (i : Nat) (dk : Array Nat) (n : Nat), u = .int .i64 (i : Int) ∧ v = .int .i64 ((m : Int) - 1 - (i : Int)) ∧ i ≤ m ∧ m - i ≤ k ∧ dk.size = m ∧ wr = putRow eb (Sort.ahead w n) blk off dk ∧ reverseLoop i (m - 1 - i) dk = d.reverse)
  case atStart => exact ⟨0, d, 0, rfl, by simp, Nat.zero_le _, by omega, hm, (putRow_self eb w blk off d hH).symm, by rw [← hm]; exact Lib.reverseLoop_reverse d⟩
  case round =>
    obtain ⟨i, dk, n, rfl, rfl, him, hk, hds, hwr, heq⟩ := hrel
    by_cases hlt : (i : Int) < (m : Int) - 1 - (i : Int)
    · obtain ⟨j, hj⟩ : ∃ j : Nat, m - 1 - i = j := ⟨_, rfl⟩
      have hjz : (m : Int) - 1 - (i : Int) = (j : Int) := by omega
      rw [hjz] at hlt ⊢
      have hij : i < j := by omega
      have hjm : j < dk.size := by omega
      have hHk : Holds eb wr blk off dk := by rw [hwr]; exact holds_putRow eb _ blk off d dk (holds_ahead eb w n blk off d hH) (by omega)
      obtain ⟨ci, fi⟩ := hHk i (by omega)
      obtain ⟨cj, fj⟩ := hHk j hjm
      have A : Aside (wr = putRow eb (Sort.ahead w n) blk off dk) := hwr
      have hi2 : i < m := by omega
      have hj2 : j < m := by omega
      dsimp only [eb] at ci cj
      clear hwr hHk hH
      go_wp2_with fail
      go_region
      go_wp2
      go_roundg (m - (i + 1))
      case measure => omega
      case rel =>
        rw [hj, reverseLoop, if_pos hij] at heq
        refine ⟨i + 1, swp dk i j, n + 1, by simp, by congr 1; omega, by omega, Nat.le_refl _, by rw [size_swp]; exact hds,
          swap_world eb (by omega) (by omega) A.out (by first | rfl | simp [eb, getElem!_pos, hjm]) (by first | rfl | simp [eb, getElem!_pos, show i < dk.size by omega]), ?_⟩
        rw [show m - 1 - (i + 1) = j - 1 by omega]
        exact heq
    · go_wp2
      go_end0
      refine ⟨rfl, n, ?_⟩
      rw [reverseLoop, if_neg (by omega)] at heq
      rw [← heq]
end Go.Proofs.Ytlciocebbckdcaa.Fb


/- slices.Reverse upon a row of bytes of one's own. -/
namespace Go.Proofs.Ytlciocebbckdcaa.Fb
open Go Go.RowKit Go.Lib Go.Sort Go.Proofs.Ytlciocebbckdcaa.Nm Go.Proofs.Ytlciocebbckdcaa.Ne Go.Proofs.Ytlciocebbckdcaa.Nf Go.Proofs.Ytlciocebbckdcaa.Nk Go.Proofs.Ytlciocebbckdcaa.Nr2

theorem cb_get (r : List Nat) (j : Nat) (hj : j < r.length) : (cb r)[j]? = some (eb (r[j]?.getD 0)) := by
  simp [cb, eb, hj]
theorem row_holds {w : World} {b : Nat} {cur : Array Value} {e : TypeId} {r : List Nat} (hh : w.heap[b]? = some (.cells cur e (0, 0))) (ht : cur.toList.take r.length = cb r) : Holds eb w b 0 r.toArray := by
  intro j hj
  have hj2 : j < r.length := by simpa using hj
  have h1 := cb_get r j hj2
  rw [← ht, List.getElem?_take, if_pos hj2] at h1
  refine ⟨?_, by simp [World.frozen?, hh]⟩
  rw [Nat.zero_add, cell_of_row w b j cur e (0, 0) hh]
  have h2 : cur[j]? = some (eb (r[j]?.getD 0)) := by simpa using h1
  rw [h2]
  simp [hj2]
theorem put_heap {w : World} {b n : Nat} {cur : Array Value} {e : TypeId} (d : Array Nat) (hh : w.heap[b]? = some (.cells cur e (0, 0))) :
    (putRow eb (Sort.ahead w n) b 0 d).heap[b]? = some (.cells (putCells eb 0 d cur) e (0, 0)) := by
  have h1 : (Sort.ahead w n).heap[b]? = some (.cells cur e (0, 0)) := hh
  simp only [putRow, mapBlock, Array.getElem?_modify, if_true, h1, Option.map_some, onCells]
theorem put_grown (w : World) (b n : Nat) (d : Array Nat) : w.grownBy (putRow eb (Sort.ahead w n) b 0 d) (some b) := by
  refine ⟨rfl, rfl, rfl, by simp [putRow, mapBlock, Sort.ahead], fun k _ hne => ?_⟩
  have hkb : b ≠ k := fun e => hne (by rw [e])
  simp only [putRow, mapBlock, Array.getElem?_modify, if_neg hkb]
  rfl
theorem put_take {cur : Array Value} {r : List Nat} (hc : r.length ≤ cur.size) : (putCells eb 0 r.toArray cur).toList.take r.length = cb r := by
  apply List.ext_getElem?
  intro j
  rw [List.getElem?_take]
  by_cases hj : j < r.length
  · have hjc : j < cur.size := by omega
    rw [if_pos hj, cb_get r j hj]
    simp [putCells, hj, hjc]
  · rw [if_neg hj, List.getElem?_eq_none (by simp [cb]; omega)]
/-- The row is turned round in place. -/
theorem turn_own {B : Nat} {v : Value} {r : List Nat} {w : World} (h : w.ownsRow B 5 1 v r.length (cb r)) (h0 : r ≠ []) (hs : r.length ≤ 1048576) :
    Calls Try.prog 128 #[v] w fun e w' => e = .returned (.tuple #[]) ∧ w'.ownsRow B 5 1 v r.length (cb r.reverse) ∧ w.grownBy w' v.ownBlock := by
  have hl : r.length ≠ 0 := fun e => h0 (List.eq_nil_of_length_eq_zero e)
  rcases h.2 with ⟨_, e0⟩ | ⟨b, cap, cur, rfl, hb, hh, hn, hm, hcs, ht⟩
  · exact absurd e0 hl
  have hcs' : cur.size = cap := by rw [hcs, Nat.mul_one]
  have ht' : cur.toList.take r.length = cb r := by rw [← ht, Nat.mul_one]
  refine (turn_row b 0 cap r.length r.toArray w (by simp) (row_holds hh ht') hs).mono ?_
  rintro e w' ⟨he, n, rfl⟩
  have hrev : r.toArray.reverse = r.reverse.toArray := by simp
  rw [hrev]
  refine ⟨he, ⟨by simp [cb], .inr ⟨b, cap, putCells eb 0 r.reverse.toArray cur, rfl, hb, put_heap _ hh, hn, hm, by simp [putCells, hcs], ?_⟩⟩, put_grown w b n _⟩
  have := put_take (cur := cur) (r := r.reverse) (by rw [List.length_reverse, hcs']; exact hn)
  rw [List.length_reverse] at this
  rw [Nat.mul_one]
  exact this
set_option maxHeartbeats 4000000 in
set_option maxRecDepth 1000000 in
/-- At a nil slice nothing happens. -/
theorem turn_nil (w : World) : Calls Try.prog 128 #[.slice none 0 0] w fun e w' => e = .returned (.tuple #[]) ∧ w' = w := by
  go_enter Try.func128, Try.ntmps128
  go_wp2
  go_loopg [2, 3] 0 (fun _ u v wr => u = .int .i64 0 ∧ v = .int .i64 (-1) ∧ wr = w)
  case atStart => exact ⟨rfl, rfl, rfl⟩
  case round =>
    obtain ⟨rfl, rfl, rfl⟩ := hrel
    go_wp2
    go_end0
    exact ⟨rfl, rfl⟩
/-- Both. -/
theorem turn_any {B : Nat} {v : Value} {r : List Nat} {w : World} (h : w.ownsRow B 5 1 v r.length (cb r)) (hs : r.length ≤ 1048576) :
    Calls Try.prog 128 #[v] w fun e w' => e = .returned (.tuple #[]) ∧ w'.ownsRow B 5 1 v r.length (cb r.reverse) ∧ w.grownBy w' v.ownBlock := by
  by_cases h0 : r = []
  · subst h0
    rcases h.2 with ⟨rfl, _⟩ | ⟨b, cap, cur, rfl, hb, hh, hn, hm, hcs, ht⟩
    · refine (turn_nil w).mono ?_
      rintro e w' ⟨he, rfl⟩
      exact ⟨he, h, rfl, rfl, rfl, Nat.le_refl _, fun _ _ _ => rfl⟩
    · refine (turn_row b 0 cap 0 #[] w rfl (fun j hj => absurd hj (Nat.not_lt_zero j)) (by decide)).mono ?_
      rintro e w' ⟨he, n, rfl⟩
      refine ⟨he, ⟨by simp [cb], .inr ⟨b, cap, putCells eb 0 (#[] : Array Nat).reverse cur, rfl, hb, put_heap _ hh, hn, hm, by simp [putCells, hcs], by simp [cb]⟩⟩, put_grown w b n _⟩
  · exact turn_own h h0 hs
end Go.Proofs.Ytlciocebbckdcaa.Fb


/- The row of bytes of one's own, as a fact that a walk carries. -/
namespace Go.Proofs.Ytlciocebbckdcaa.Fb
open Go Go.RowKit Go.Proofs.Ytlciocebbckdcaa.Nm Go.Proofs.Ytlciocebbckdcaa.Ne Go.Proofs.Ytlciocebbckdcaa.Nf Go.Proofs.Ytlciocebbckdcaa.Nk Go.Proofs.Ytlciocebbckdcaa.Nr2 Go.Proofs.Ytlciocebbckdcaa.Kr

/-- The slice v is the call's own and holds these bytes. -/
def RowB (B : Nat) (v : Value) (r : List Nat) (W : World) : Prop := W.ownsRow B 5 1 v r.length (cb r)
theorem RowB.start (B : Nat) (W : World) : RowB B (.slice none 0 0) [] W := ⟨by simp [cb], .inl ⟨rfl, rfl⟩⟩
theorem RowB.grow {B : Nat} {v : Value} {r : List Nat} {W W' : World} (h : RowB B v r W) (g : Gr W W') : RowB B v r W' := ownsRow_below h g
theorem RowB.lt {B : Nat} {v : Value} {r : List Nat} {W : World} (h : RowB B v r W) : ∀ k, v.ownBlock = some k → B ≤ k ∧ k < W.heap.size := World.ownsRow.lt h
theorem set_grown (W : World) (a : Addr) (u : Value) : W.grownBy (W.setCell a u) (some a.block) := by
  have h := Below.setCell (Below.refl a.block W) (Nat.le_refl _) u
  refine ⟨h.os, h.tape, h.output, h.size, fun k _ hne => ?_⟩
  have hk : a.block ≠ k := fun e => hne (by rw [e])
  simp only [World.setCell, Array.getElem?_modify, if_neg hk]
/-- A store elsewhere leaves the row. -/
theorem RowB.off {B : Nat} {v : Value} {r : List Nat} {W : World} (h : RowB B v r W) (a : Addr) (u : Value) (hne : v.ownBlock ≠ some a.block) : RowB B v r (W.setCell a u) :=
  World.ownsRow.kept h (set_grown W a u) (.inr hne)
/-- The row lies apart from these cells. -/
def Apart (row : Option Nat) (cs : List (Nat × Nat × Value)) : Prop := ∀ x ∈ cs, row ≠ some x.1
theorem Apart.none (cs : List (Nat × Nat × Value)) : Apart .none cs := fun _ _ e => by cases e
theorem cells_lt {W : World} : ∀ {cs : List (Nat × Nat × Value)}, Cells W cs → ∀ x ∈ cs, x.1 < W.heap.size
  | [], _, _, h => by cases h
  | y :: _, hc, x, h => by
    rcases List.mem_cons.1 h with e | h
    · rw [e]; exact World.block_lt_of_cell? W _ hc.1.1
    · exact cells_lt hc.2 x h
theorem Apart.next {W : World} {row row' : Option Nat} {cs : List (Nat × Nat × Value)} (hc : Cells W cs) (h : Apart row cs) (hat : row' = row ∨ row' = some W.heap.size) : Apart row' cs := by
  intro x hx e
  rcases hat with e1 | e1
  · exact h x hx (e1 ▸ e)
  · rw [e1] at e
    have h1 := Option.some.inj e
    have := cells_lt hc x hx
    omega
theorem Apart.cons {row : Option Nat} {cs : List (Nat × Nat × Value)} {b o : Nat} {v : Value} (h : Apart row cs) (hb : ∀ k, row = some k → k < b) : Apart row ((b, o, v) :: cs) := by
  intro x hx e
  rcases List.mem_cons.1 hx with e1 | hx
  · subst e1
    exact Nat.lt_irrefl _ (hb _ e)
  · exact h x hx e
theorem Apart.set {row : Option Nat} {cs : List (Nat × Nat × Value)} {b o : Nat} {v0 : Value} (h : Apart row cs) (i : Nat) (hi : cs[i]? = some (b, o, v0)) (v : Value) : Apart row (cs.set i (b, o, v)) := by
  intro x hx e
  rcases List.mem_or_eq_of_mem_set hx with hx | e1
  · exact h x hx e
  · subst e1
    exact h _ (List.mem_of_getElem? hi) e
end Go.Proofs.Ytlciocebbckdcaa.Fb


/- A row of bytes that grows beside the numbers of a walk; how many digits a number has. -/
namespace Go.Proofs.Ytlciocebbckdcaa.Fb
open Go Go.RowKit Go.Proofs.Ytlciocebbckdcaa.Nm Go.Proofs.Ytlciocebbckdcaa.Ne Go.Proofs.Ytlciocebbckdcaa.Nf Go.Proofs.Ytlciocebbckdcaa.Nk Go.Proofs.Ytlciocebbckdcaa.Nr2 Go.Proofs.Ytlciocebbckdcaa.Kr

theorem infoB : (Try.prog.info? 5).map (fun i => (i.zero, i.size, i.bytes)) = some (some (.int .u8 0), 1, 1) := by kernel_rfl
theorem pw_two (k : Nat) : pw k = 2 ^ (32 * k) := pw_eq k
theorem low_small {g x : Nat} (hg : 2 ≤ g) (hx : x < pw 64) : (low g x).length ≤ 2048 := by
  rw [pw_two] at hx
  generalize hN : 32 * 64 = N at hx
  have h2 := low_len hg N x (Nat.lt_of_lt_of_le hx (Nat.pow_le_pow_left hg N))
  omega
theorem cb_length (r : List Nat) : (cb r).length = r.length := by simp [cb]
theorem cb_snoc (r : List Nat) (d : Nat) : cb (r ++ [d]) = cb r ++ [.int .u8 (d : Int)] := by simp [cb]
theorem one_byte (w : World) (x : Int) : ∀ (j : Nat) (u : Value), ([Value.int .u8 x])[j]? = some u → (w.alloc (.cells #[.int .u8 x] 5)).cell? ((⟨w.heap.size, 0, none⟩ : Addr).add j) = some u := by
  intro j u hu
  match j, hu with
  | 0, hu =>
    simp at hu
    rw [← hu, addr_add]
    simp [go_sem]
  | j + 1, hu => simp at hu
section
variable {w W W' : World} {cs : List (Nat × Nat × Value)} {p : Option Addr} {n c z : Nat} {pg : Option Addr} {ng cg g : Nat} {v v1 : Value} {r : List Nat} {d gb cap : Nat}
/-- A byte has been appended. -/
theorem row_append (H : Sta w W cs [N p n c z, N pg ng cg g]) (HR : RowB w.heap.size v r W) (HP : Apart v.ownBlock cs) (A1 : Away v.ownBlock p n) (A2 : Away v.ownBlock pg ng)
    (hv : v1 = .slice (some ⟨gb, 0, none⟩) (r.length + 1) cap) (ho : W'.ownsRow w.heap.size 5 1 v1 (r.length + 1) (cb r ++ [.int .u8 (d : Int)])) (hg : W.grownBy W' v.ownBlock) (hat : v.ownBlock = some gb ∨ gb = W.heap.size) :
    Sta w W' cs [N p n c z, N pg ng cg g] ∧ RowB w.heap.size v1 (r ++ [d]) W' ∧ Apart v1.ownBlock cs ∧ Away v1.ownBlock p n ∧ Away v1.ownBlock pg ng := by
  have hn : v1.ownBlock = v.ownBlock ∨ v1.ownBlock = some W.heap.size := by
    rw [hv]
    rcases hat with h | h
    · exact .inl h.symm
    · exact .inr (by rw [h]; rfl)
  refine ⟨sta_grown H hg (fun k e => (HR.lt k e).1) HP ?_, ?_, HP.next H.c hn, A1.next (H.nw 0 rfl) hn, A2.next (H.nw 1 rfl) hn⟩
  · intro F hF
    rcases List.mem_cons.1 hF with rfl | hF
    · exact nw_grown (H.nw 0 rfl) A1 hg
    · rcases List.mem_cons.1 hF with rfl | hF
      · exact nw_grown (H.nw 1 rfl) A2 hg
      · cases hF
  · show W'.ownsRow w.heap.size 5 1 v1 (r ++ [d]).length (cb (r ++ [d]))
    rw [cb_snoc, List.length_append]
    exact ho
/-- The row has been written in place. -/
theorem row_grown (H : Sta w W cs []) (HR : RowB w.heap.size v r W) (HP : Apart v.ownBlock cs) (hg : W.grownBy W' v.ownBlock) : Sta w W' cs [] :=
  sta_grown H hg (fun k e => (HR.lt k e).1) HP (fun F hF => by cases hF)
end
end Go.Proofs.Ytlciocebbckdcaa.Fb


/- The contract of natform's split. -/
namespace Go.Proofs.Ytlciocebbckdcaa.Ff
open Go.RowKit Go.Shelf Go.Proofs.Ytlciocebbckdcaa.Nm Go.Proofs.Ytlciocebbckdcaa.Ne Go.Proofs.Ytlciocebbckdcaa.Nf Go.Proofs.Ytlciocebbckdcaa.Nk Go.Proofs.Ytlciocebbckdcaa.Nv Go.Proofs.Ytlciocebbckdcaa.Nr2 Go.Proofs.Ytlciocebbckdcaa.Kr Go.Proofs.Ytlciocebbckdcaa.Fb

theorem len_zero {W : World} {p : Option Addr} {n c z : Nat} (h : Nw W p n c (digs z)) : n = 0 ↔ z = 0 := by
  rw [← h.len]
  constructor
  · intro e
    have h2 := val_digs z
    rw [List.eq_nil_of_length_eq_zero e] at h2
    exact h2.symm
  · rintro rfl
    rw [digs_zero]; rfl
set_option linter.unusedSimpArgs false in
set_option maxRecDepth 100000 in
set_option maxHeartbeats 16000000 in
theorem split_v {pn : Option Addr} {nn cn x g : Nat} {w : World} (hn : Nw w pn nn cn (digs x)) (hx : x < pw 64) (hg : 2 ≤ g ∧ g ≤ 256) :
    Calls Try.prog 107 #[.agg #[.slice pn nn cn], .int .i64 (g : Int)] w fun e w' => ∃ v, e = .returned v ∧ RowB w.heap.size v (low g x).reverse w' ∧ Gr w w' := by
  have HG := Lib.hid hg; have HGL : Hid (g < pw 64) := Lib.hid (Nat.lt_of_lt_of_le (show g < pw 1 from by have h : pw 1 = 4294967296 := rfl; omega) (pw_mono (by decide)))
  have HX := Lib.hid hx; have HG0 : Hid (0 < g) := Lib.hid (by omega); have HLEN := Lib.hid (low_small hg.1 hx)
  obtain ⟨i0, hi, hz0, hz1, hz2⟩ := info_parts infoB
  have H := Sta.start w
  replace H := H.num hn
  go_enter Try.func107, Try.ntmps107
  go_upto_region 0 with fail
  refine Kr.seqStartW ?_
  refine Kr.seqR (by rfl) (fun K hK => ?_)
  go_simp
  obtain ⟨y1, hy⟩ : ∃ y, w.alloc (.cells #[.slice pn nn cn] 24) = y := ⟨_, rfl⟩
  obtain ⟨bn, hb⟩ : ∃ b, w.heap.size = b := ⟨_, rfl⟩
  rw [hy, hb]
  replace H := H.alloc hy hb rfl
  clear hy hb
  (refine Kr.outS hK (a' := ?_) ?_ ?_; rotate_left; (focus ((try simp only [Act.put, List.getElem_toArray, List.getElem_cons_zero, List.getElem_cons_succ, List.setIfInBounds_toArray, List.set_cons_zero, List.set_cons_succ]); first | done | rfl))); clear hK K
  (refine Kr.seqQ (v := ?_) (a' := ?_) (by rfl) ?_ ?_ ?_; rotate_left 2; (focus (go_simp; first | done | rfl)); (focus ((try simp only [Act.put, List.getElem_toArray, List.getElem_cons_zero, List.getElem_cons_succ, List.setIfInBounds_toArray, List.set_cons_zero, List.set_cons_succ]); first | done | rfl)))
  refine Kr.seqDoneW ?_
  go_upto_region 1 with fail
  refine Kr.seqStartW ?_
  (refine Kr.seqQ (v := ?_) (a' := ?_) (by rfl) ?_ ?_ ?_; rotate_left 2; (focus (go_simp; first | done | rfl)); (focus ((try simp only [Act.put, List.getElem_toArray, List.getElem_cons_zero, List.getElem_cons_succ, List.setIfInBounds_toArray, List.set_cons_zero, List.set_cons_succ]); first | done | rfl)))
  refine Kr.seqDoneW ?_
  go_upto_region 2 with fail
  refine Kr.seqStartW ?_
  (refine Kr.seqQ (v := ?_) (a' := ?_) (by rfl) ?_ ?_ ?_; rotate_left 2; (focus (go_simp; first | done | rfl)); (focus ((try simp only [Act.put, List.getElem_toArray, List.getElem_cons_zero, List.getElem_cons_succ, List.setIfInBounds_toArray, List.set_cons_zero, List.set_cons_succ]); first | done | rfl)))
  refine Kr.seqR (by rfl) (fun K hK => ?_)
  go_simp
  go_at_call 126
  refine (Of_v (x := g) (by have := HG.out; omega)).mono ?_
  rintro e y2 ⟨pg, ng, cg, rfl, hr, hg⟩
  replace H := H.grow hg
  replace H := H.num hr.toNw
  clear hr hg
  (refine Kr.outS hK (a' := ?_) ?_ ?_; rotate_left; (focus ((try simp only [Act.put, List.getElem_toArray, List.getElem_cons_zero, List.getElem_cons_succ, List.setIfInBounds_toArray, List.set_cons_zero, List.set_cons_succ]); first | done | rfl))); clear hK K
  iterate 3 (refine Kr.seqQ (v := ?_) (a' := ?_) (by rfl) ?_ ?_ ?_; rotate_left 2; (focus (go_simp; first | done | rfl)); (focus ((try simp only [Act.put, List.getElem_toArray, List.getElem_cons_zero, List.getElem_cons_succ, List.setIfInBounds_toArray, List.set_cons_zero, List.set_cons_succ]); first | done | rfl)))
  refine Kr.seqR (by rfl) (fun K hK => ?_)
  go_simp
  obtain ⟨y3, hy⟩ : ∃ y, y2.alloc (.cells #[.slice none 0 0] 24) = y := ⟨_, rfl⟩
  obtain ⟨bg, hb⟩ : ∃ b, y2.heap.size = b := ⟨_, rfl⟩
  rw [hy, hb]
  replace H := H.alloc hy hb rfl
  clear hy hb
  (refine Kr.outS hK (a' := ?_) ?_ ?_; rotate_left; (focus ((try simp only [Act.put, List.getElem_toArray, List.getElem_cons_zero, List.getElem_cons_succ, List.setIfInBounds_toArray, List.set_cons_zero, List.set_cons_succ]); first | done | rfl))); clear hK K
  have hk := H.c
  simp only [Kr.Cells] at hk
  refine Kr.seqR (by rfl) (fun K hK => ?_)
  go_simp
  clear hk
  obtain ⟨y4, hy⟩ : ∃ y, y3.setCell ⟨bg, 0, none⟩ (.slice pg ng cg) = y := ⟨_, rfl⟩
  rw [hy]
  replace H := H.store 0 hy rfl rfl
  dsimp only [List.set] at H
  clear hy
  (refine Kr.outS hK (a' := ?_) ?_ ?_; rotate_left; (focus ((try simp only [Act.put, List.getElem_toArray, List.getElem_cons_zero, List.getElem_cons_succ, List.setIfInBounds_toArray, List.set_cons_zero, List.set_cons_succ]); first | done | rfl))); clear hK K
  (refine Kr.seqQ (v := ?_) (a' := ?_) (by rfl) ?_ ?_ ?_; rotate_left 2; (focus (go_simp; first | done | rfl)); (focus ((try simp only [Act.put, List.getElem_toArray, List.getElem_cons_zero, List.getElem_cons_succ, List.setIfInBounds_toArray, List.set_cons_zero, List.set_cons_succ]); first | done | rfl)))
  refine Kr.seqDoneW ?_
  have H2 : Hid (Sta w y4 [(bg, 0, .slice pg ng cg), (bn, 0, .slice pn nn cn)] [N pn nn cn (x), N pg ng cg (g)]) := Lib.hid (H.pick [1, 0] rfl)
  have h0 : Hid (RowB w.heap.size (.slice none 0 0) [] y4) := Lib.hid (RowB.start _ _)
  go_wp2
  go_loopg [5] x (fun k v wr => ∃ (z : Nat) (r : List Nat) (pz : Option Addr) (nz cz : Nat), z ≤ k ∧ Hid (z < pw 64) ∧ Hid (r ++ low g z = low g x) ∧ Hid (RowB w.heap.size v r wr) ∧ Hid (Apart v.ownBlock [(bg, 0, .slice pg ng cg), (bn, 0, .slice pz nz cz)]) ∧ Hid (Away v.ownBlock pz nz) ∧ Hid (Away v.ownBlock pg ng) ∧ Hid (Sta w wr [(bg, 0, .slice pg ng cg), (bn, 0, .slice pz nz cz)] [N pz nz cz (z), N pg ng cg (g)]))
  case atStart => exact ⟨x, [], _, _, _, Nat.le_refl _, HX, Lib.hid rfl, h0, Lib.hid (Apart.none _), Lib.hid (Away.none _ _), Lib.hid (Away.none _ _), H2⟩
  case round =>
    clear H H2 h0
    obtain ⟨z, r, pz, nz, cz, hk, HZ, HL, HR, HP, AN, AG, HH⟩ := hrel
    have H := HH.out
    clear HH
    have HNZ := Lib.hid (len_zero (H.nw 0 rfl))
    by_cases hz : z = 0
    · subst hz
      obtain rfl : nz = 0 := HNZ.out.2 rfl
      clear HNZ
      have hrl : r = low g x := by have h := HL.out; rwa [low_zero, List.append_nil] at h
      subst hrl
      clear HL hk
      go_upto_region 3 with fail
      refine Kr.seqStartW ?_
      (refine Kr.seqQ (v := ?_) (a' := ?_) (by rfl) ?_ ?_ ?_; rotate_left 2; (focus (go_simp; first | done | rfl)); (focus ((try simp only [Act.put, List.getElem_toArray, List.getElem_cons_zero, List.getElem_cons_succ, List.setIfInBounds_toArray, List.set_cons_zero, List.set_cons_succ]); first | done | rfl)))
      have hk := H.c
      simp only [Kr.Cells] at hk
      iterate 3 (refine Kr.seqQ (v := ?_) (a' := ?_) (by rfl) ?_ ?_ ?_; rotate_left 2; (focus (go_simp; first | done | rfl)); (focus ((try simp only [Act.put, List.getElem_toArray, List.getElem_cons_zero, List.getElem_cons_succ, List.setIfInBounds_toArray, List.set_cons_zero, List.set_cons_succ]); first | done | rfl)))
      clear hk
      refine Kr.seqDoneW ?_
      go_upto_region 8 with fail
      refine Kr.seqStartW ?_
      (refine Kr.seqQ (v := ?_) (a' := ?_) (by rfl) ?_ ?_ ?_; rotate_left 2; (focus (go_simp; first | done | rfl)); (focus ((try simp only [Act.put, List.getElem_toArray, List.getElem_cons_zero, List.getElem_cons_succ, List.setIfInBounds_toArray, List.set_cons_zero, List.set_cons_succ]); first | done | rfl)))
      refine Kr.seqR (by rfl) (fun K hK => ?_)
      go_simp
      go_at_call 128
      replace H := H.pick [] rfl
      refine (turn_any HR.out (Nat.le_trans HLEN.out (by decide))).mono ?_
      rintro e y5 ⟨rfl, hrow, hgr⟩
      replace H := row_grown H HR.out HP.out hgr
      replace HR : Hid (RowB w.heap.size u5 (low g x).reverse y5) := Lib.hid (by unfold RowB; rw [List.length_reverse]; exact hrow)
      clear hrow hgr
      (refine Kr.outS hK (a' := ?_) ?_ ?_; rotate_left; (focus ((try simp only [Act.put, List.getElem_toArray, List.getElem_cons_zero, List.getElem_cons_succ, List.setIfInBounds_toArray, List.set_cons_zero, List.set_cons_succ]); first | done | rfl))); clear hK K
      refine Kr.seqDoneW ?_
      go_upto_region 9 with fail
      refine Kr.seqStartW ?_
      iterate 2 (refine Kr.seqQ (v := ?_) (a' := ?_) (by rfl) ?_ ?_ ?_; rotate_left 2; (focus (go_simp; first | done | rfl)); (focus ((try simp only [Act.put, List.getElem_toArray, List.getElem_cons_zero, List.getElem_cons_succ, List.setIfInBounds_toArray, List.set_cons_zero, List.set_cons_succ]); first | done | rfl)))
      refine Kr.seqDoneW ?_
      have hk0 := trivial
      have hk := H.c
      simp only [Kr.Cells] at hk
      go_wp2
      refine bodyPost_ret (v := u5) (by simp [results, Try.results107, go_sem, hk]) rfl ⟨u5, rfl, HR.out, H.g⟩
    · have hnz : 0 < nz := Nat.pos_of_ne_zero (mt HNZ.out.1 hz)
      have hnz2 : (0 : Int) < (nz : Int) := by omega
      have HZ0 := Lib.hid hz
      clear HNZ hz
      obtain ⟨d, hd⟩ : ∃ d, z % g = d := ⟨_, rfl⟩
      have hdl : d < g := by rw [← hd]; exact Nat.mod_lt _ HG0.out
      have HD := Lib.hid hd; have HDL := Lib.hid hdl
      clear hd hdl
      go_upto_region 3 with fail
      refine Kr.seqStartW ?_
      (refine Kr.seqQ (v := ?_) (a' := ?_) (by rfl) ?_ ?_ ?_; rotate_left 2; (focus (go_simp; first | done | rfl)); (focus ((try simp only [Act.put, List.getElem_toArray, List.getElem_cons_zero, List.getElem_cons_succ, List.setIfInBounds_toArray, List.set_cons_zero, List.set_cons_succ]); first | done | rfl)))
      have hk := H.c
      simp only [Kr.Cells] at hk
      iterate 3 (refine Kr.seqQ (v := ?_) (a' := ?_) (by rfl) ?_ ?_ ?_; rotate_left 2; (focus (go_simp; first | done | rfl)); (focus ((try simp only [Act.put, List.getElem_toArray, List.getElem_cons_zero, List.getElem_cons_succ, List.setIfInBounds_toArray, List.set_cons_zero, List.set_cons_succ]); first | done | rfl)))
      clear hk
      refine Kr.seqDoneW ?_
      clear hnz hnz2
      go_upto_region 4 with fail
      refine Kr.seqStartW ?_
      have hk := H.c
      simp only [Kr.Cells] at hk
      iterate 2 (refine Kr.seqQ (v := ?_) (a' := ?_) (by rfl) ?_ ?_ ?_; rotate_left 2; (focus (go_simp; first | done | rfl)); (focus ((try simp only [Act.put, List.getElem_toArray, List.getElem_cons_zero, List.getElem_cons_succ, List.setIfInBounds_toArray, List.set_cons_zero, List.set_cons_succ]); first | done | rfl)))
      refine Kr.seqR (by rfl) (fun K hK => ?_)
      go_simp
      go_at_call 45
      refine (Div_v HG0.out (H.nw 0 rfl) (H.nw 1 rfl) HZ.out HGL.out).mono ?_
      rintro e y0 ⟨pq, pr, nq, cq, nr, cr, rfl, hr, hr2, hg⟩
      rw [HD.out] at hr2
      have AQ := Lib.hid (away_own hr (fun k hk => (HR.out.lt k hk).2))
      replace HR := Lib.hid (HR.out.grow hg)
      clear hk
      replace H := H.grow hg
      replace H := H.num hr.toNw
      replace H := H.num hr2.toNw
      clear hr hr2 hg
      (refine Kr.outS hK (a' := ?_) ?_ ?_; rotate_left; (focus ((try simp only [Act.put, List.getElem_toArray, List.getElem_cons_zero, List.getElem_cons_succ, List.setIfInBounds_toArray, List.set_cons_zero, List.set_cons_succ]); first | done | rfl))); clear hK K
      iterate 4 (refine Kr.seqQ (v := ?_) (a' := ?_) (by rfl) ?_ ?_ ?_; rotate_left 2; (focus (go_simp; first | done | rfl)); (focus ((try simp only [Act.put, List.getElem_toArray, List.getElem_cons_zero, List.getElem_cons_succ, List.setIfInBounds_toArray, List.set_cons_zero, List.set_cons_succ]); first | done | rfl)))
      refine Kr.seqR (by rfl) (fun K hK => ?_)
      go_simp
      obtain ⟨y6, hy⟩ : ∃ y, y0.alloc (.cells #[.slice none 0 0] 24) = y := ⟨_, rfl⟩
      obtain ⟨bq, hb⟩ : ∃ b, y0.heap.size = b := ⟨_, rfl⟩
      replace HP := Lib.hid (HP.out.cons (b := bq) (o := 0) (v := .slice none 0 0) (fun k hk => hb ▸ (HR.out.lt k hk).2))
      replace HR := Lib.hid (HR.out.grow (hy ▸ (Gr.refl _).alloc _))
      rw [hy, hb]
      replace H := H.alloc hy hb rfl
      clear hy hb
      (refine Kr.outS hK (a' := ?_) ?_ ?_; rotate_left; (focus ((try simp only [Act.put, List.getElem_toArray, List.getElem_cons_zero, List.getElem_cons_succ, List.setIfInBounds_toArray, List.set_cons_zero, List.set_cons_succ]); first | done | rfl))); clear hK K
      refine Kr.seqR (by rfl) (fun K hK => ?_)
      go_simp
      obtain ⟨y7, hy⟩ : ∃ y, y6.alloc (.cells #[.slice none 0 0] 24) = y := ⟨_, rfl⟩
      obtain ⟨br, hb⟩ : ∃ b, y6.heap.size = b := ⟨_, rfl⟩
      replace HP := Lib.hid (HP.out.cons (b := br) (o := 0) (v := .slice none 0 0) (fun k hk => hb ▸ (HR.out.lt k hk).2))
      replace HR := Lib.hid (HR.out.grow (hy ▸ (Gr.refl _).alloc _))
      rw [hy, hb]
      replace H := H.alloc hy hb rfl
      clear hy hb
      (refine Kr.outS hK (a' := ?_) ?_ ?_; rotate_left; (focus ((try simp only [Act.put, List.getElem_toArray, List.getElem_cons_zero, List.getElem_cons_succ, List.setIfInBounds_toArray, List.set_cons_zero, List.set_cons_succ]); first | done | rfl))); clear hK K
      have hk := H.c
      simp only [Kr.Cells] at hk
      refine Kr.seqR (by rfl) (fun K hK => ?_)
      go_simp
      clear hk
      obtain ⟨y8, hy⟩ : ∃ y, y7.setCell ⟨bq, 0, none⟩ (.slice pq nq cq) = y := ⟨_, rfl⟩
      replace HR := Lib.hid (HR.out.off ⟨bq, 0, none⟩ (.slice pq nq cq) (HP.out _ (List.mem_of_getElem? (i := 1) rfl)))
      rw [hy] at HR
      rw [hy]
      replace H := H.store 1 hy rfl rfl
      dsimp only [List.set] at H
      clear hy
      replace HP := Lib.hid (HP.out.set 1 rfl (.slice pq nq cq))
      dsimp only [List.set] at HP
      (refine Kr.outS hK (a' := ?_) ?_ ?_; rotate_left; (focus ((try simp only [Act.put, List.getElem_toArray, List.getElem_cons_zero, List.getElem_cons_succ, List.setIfInBounds_toArray, List.set_cons_zero, List.set_cons_succ]); first | done | rfl))); clear hK K
      have hk := H.c
      simp only [Kr.Cells] at hk
      refine Kr.seqR (by rfl) (fun K hK => ?_)
      go_simp
      clear hk
      obtain ⟨y9, hy⟩ : ∃ y, y8.setCell ⟨br, 0, none⟩ (.slice pr nr cr) = y := ⟨_, rfl⟩
      replace HR := Lib.hid (HR.out.off ⟨br, 0, none⟩ (.slice pr nr cr) (HP.out _ (List.mem_of_getElem? (i := 0) rfl)))
      rw [hy] at HR
      rw [hy]
      replace H := H.store 0 hy rfl rfl
      dsimp only [List.set] at H
      clear hy
      replace HP := Lib.hid (HP.out.set 0 rfl (.slice pr nr cr))
      dsimp only [List.set] at HP
      (refine Kr.outS hK (a' := ?_) ?_ ?_; rotate_left; (focus ((try simp only [Act.put, List.getElem_toArray, List.getElem_cons_zero, List.getElem_cons_succ, List.setIfInBounds_toArray, List.set_cons_zero, List.set_cons_succ]); first | done | rfl))); clear hK K
      (refine Kr.seqQ (v := ?_) (a' := ?_) (by rfl) ?_ ?_ ?_; rotate_left 2; (focus (go_simp; first | done | rfl)); (focus ((try simp only [Act.put, List.getElem_toArray, List.getElem_cons_zero, List.getElem_cons_succ, List.setIfInBounds_toArray, List.set_cons_zero, List.set_cons_succ]); first | done | rfl)))
      refine Kr.seqDoneW ?_
      go_upto_region 5 with fail
      refine Kr.seqStartW ?_
      have hk := H.c
      simp only [Kr.Cells] at hk
      (refine Kr.seqQ (v := ?_) (a' := ?_) (by rfl) ?_ ?_ ?_; rotate_left 2; (focus (go_simp; first | done | rfl)); (focus ((try simp only [Act.put, List.getElem_toArray, List.getElem_cons_zero, List.getElem_cons_succ, List.setIfInBounds_toArray, List.set_cons_zero, List.set_cons_succ]); first | done | rfl)))
      refine Kr.seqR (by rfl) (fun K hK => ?_)
      go_simp
      go_at_call 127
      refine (Int_v (x := d) (by have h := HDL.out; have h2 := HG.out; omega) (H.nw 0 rfl)).mono ?_
      rintro e y10 ⟨rfl, hg⟩
      replace HR := Lib.hid (HR.out.grow hg)
      clear hk
      replace H := H.grow hg
      clear hg
      (refine Kr.outS hK (a' := ?_) ?_ ?_; rotate_left; (focus ((try simp only [Act.put, List.getElem_toArray, List.getElem_cons_zero, List.getElem_cons_succ, List.setIfInBounds_toArray, List.set_cons_zero, List.set_cons_succ]); first | done | rfl))); clear hK K
      iterate 5 (refine Kr.seqQ (v := ?_) (a' := ?_) (by rfl) ?_ ?_ ?_; rotate_left 2; (focus (go_simp; first | done | rfl)); (focus ((try simp only [Act.put, List.getElem_toArray, List.getElem_cons_zero, List.getElem_cons_succ, List.setIfInBounds_toArray, List.set_cons_zero, List.set_cons_succ]); first | done | rfl)))
      refine Kr.seqDoneW ?_
      have hwd : IntKind.u8.wrap (d : Int) = (d : Int) := IntWalk.u8_in _ (by have h1 := HDL.out; have h2 := HG.out; omega)
      replace H := H.pick [1, 3] rfl
      obtain ⟨m, hm⟩ : ∃ m, r.length = m := ⟨_, rfl⟩
      have HM := Lib.hid hm
      have hmb : m ≤ 2048 := by have h := congrArg List.length HL.out; have h2 := HLEN.out; rw [List.length_append] at h; omega
      clear hm
      go_upto_region 6 with fail
      refine Kr.seqStartW ?_
      iterate 3 (refine Kr.seqQ (v := ?_) (a' := ?_) (by rfl) ?_ ?_ ?_; rotate_left 2; (focus (go_simp; first | done | rfl)); (focus ((try simp only [Act.put, List.getElem_toArray, List.getElem_cons_zero, List.getElem_cons_succ, List.setIfInBounds_toArray, List.set_cons_zero, List.set_cons_succ]); first | done | rfl)))
      refine Kr.seqR (by rfl) (fun K hK => ?_)
      go_simp
      obtain ⟨y11, hy⟩ : ∃ y, y10.alloc (.cells #[.int .u8 (d : Int)] 5) = y := ⟨_, rfl⟩
      obtain ⟨bone, hbn⟩ : ∃ b, y10.heap.size = b := ⟨_, rfl⟩
      rw [hy, hbn]
      have hg : Gr y10 y11 := hy ▸ (Gr.refl _).alloc _
      have HONE := Lib.hid (hbn ▸ hy ▸ one_byte y10 (d : Int))
      replace HR := Lib.hid (HR.out.grow hg)
      replace H := H.grow hg
      clear hg hy hbn
      (refine Kr.outS hK (a' := ?_) ?_ ?_; rotate_left; (focus ((try simp only [Act.put, List.getElem_toArray, List.getElem_cons_zero, List.getElem_cons_succ, List.setIfInBounds_toArray, List.set_cons_zero, List.set_cons_succ]); first | done | rfl))); clear hK K
      refine Kr.seqR (by rfl) (fun K hK => ?_)
      refine wp_append_lies _ (.tmp 34) (.tmp 37) 62 rfl w.heap.size 5 i0 (.int .u8 0) 1 1 Try.underlying62 hi hz0 hz1 hz2 rfl (by decide) u5 m (cb r) rfl (HM.out ▸ HR.out) ⟨bone, 0, none⟩ 1 1 [.int .u8 (d : Int)] rfl rfl HONE.out (by simp [Value.oneCell']) (by decide) (by unfold maxLen; omega) (by omega) H.g.le _ rfl ?_
      intro gb cap w3 hown hgrow hat _
      have h5 := row_append H HR.out HP.out AQ.out AG.out (by rw [HM.out]) (HM.out ▸ hown) hgrow hat
      obtain ⟨v1, hv1⟩ : ∃ v1 : Value, .slice (some ⟨gb, 0, none⟩) (m + 1) cap = v1 := ⟨_, rfl⟩
      rw [HM.out, hv1] at h5
      rw [hv1]
      clear hown hgrow hat hv1 HM hmb HONE
      clear H HR HP AQ AG
      obtain ⟨H, hR, hP, aQ, aG⟩ := h5
      have HR := Lib.hid hR; have HP := Lib.hid hP; have AQ := Lib.hid aQ; have AG := Lib.hid aG
      clear hR hP aQ aG
      (refine Kr.outS hK (a' := ?_) ?_ ?_; rotate_left; (focus ((try simp only [Act.put, List.getElem_toArray, List.getElem_cons_zero, List.getElem_cons_succ, List.setIfInBounds_toArray, List.set_cons_zero, List.set_cons_succ]); first | done | rfl))); clear hK K
      (refine Kr.seqQ (v := ?_) (a' := ?_) (by rfl) ?_ ?_ ?_; rotate_left 2; (focus (go_simp; first | done | rfl)); (focus ((try simp only [Act.put, List.getElem_toArray, List.getElem_cons_zero, List.getElem_cons_succ, List.setIfInBounds_toArray, List.set_cons_zero, List.set_cons_succ]); first | done | rfl)))
      refine Kr.seqDoneW ?_
      try clear hwd
      go_upto_region 7 with fail
      refine Kr.seqStartW ?_
      have hk := H.c
      simp only [Kr.Cells] at hk
      (refine Kr.seqQ (v := ?_) (a' := ?_) (by rfl) ?_ ?_ ?_; rotate_left 2; (focus (go_simp; first | done | rfl)); (focus ((try simp only [Act.put, List.getElem_toArray, List.getElem_cons_zero, List.getElem_cons_succ, List.setIfInBounds_toArray, List.set_cons_zero, List.set_cons_succ]); first | done | rfl)))
      refine Kr.seqR (by rfl) (fun K hK => ?_)
      go_simp
      clear hk
      obtain ⟨y12, hy⟩ : ∃ y, w3.setCell ⟨bn, 0, none⟩ (.slice pq nq cq) = y := ⟨_, rfl⟩
      replace HR := Lib.hid (HR.out.off ⟨bn, 0, none⟩ (.slice pq nq cq) (HP.out _ (List.mem_of_getElem? (i := 3) rfl)))
      rw [hy] at HR
      rw [hy]
      replace H := H.store 3 hy rfl rfl
      dsimp only [List.set] at H
      clear hy
      replace HP := Lib.hid (HP.out.set 3 rfl (.slice pq nq cq))
      dsimp only [List.set] at HP
      (refine Kr.outS hK (a' := ?_) ?_ ?_; rotate_left; (focus ((try simp only [Act.put, List.getElem_toArray, List.getElem_cons_zero, List.getElem_cons_succ, List.setIfInBounds_toArray, List.set_cons_zero, List.set_cons_succ]); first | done | rfl))); clear hK K
      refine Kr.seqDoneW ?_
      go_wp2
      go_roundg (z / g)
      case measure => exact Nat.lt_of_lt_of_le (Nat.div_lt_self (Nat.pos_of_ne_zero HZ0.out) HG.out.1) hk
      case rel => exact ⟨z / g, r ++ [d], _, _, _, Nat.le_refl _, Lib.hid (Nat.lt_of_le_of_lt (Nat.div_le_self _ _) HZ.out), Lib.hid (by rw [List.append_assoc, ← HL.out, low_step HG.out.1 HZ0.out, HD.out]; rfl), HR, Lib.hid (fun x hx => HP.out x (List.mem_of_mem_drop (i := 2) hx)), AQ, AG, Lib.hid ((H.drop 2).pick [0, 1] rfl)⟩
end Go.Proofs.Ytlciocebbckdcaa.Ff


/- Strings as lists of bytes; a row of bytes whose cells are known, among the facts of a walk; operations told by their run. -/
namespace Go.Proofs.Ytlciocebbckdcaa.Fb
open Go Go.RowKit Go.Proofs.Ytlciocebbckdcaa.Nm Go.Proofs.Ytlciocebbckdcaa.Ne Go.Proofs.Ytlciocebbckdcaa.Nf Go.Proofs.Ytlciocebbckdcaa.Nk Go.Proofs.Ytlciocebbckdcaa.Nr2 Go.Proofs.Ytlciocebbckdcaa.Kr

/-- An operation told by the run of what it does. -/
theorem val_of {P : Program} {ev : Operand → Value} {o : Oper} {v : Value} {w w' : World} {m : Sem Value} (he : execOp ev o = m >>= fun x => pure (Next.value x)) (hm : m.run P w = .ok v w') : (execOp ev o).run P w = .ok (.value v) w' := by
  rw [he, Sem.run_bind, hm]
  simp [Result.andThen]
theorem wp_run {P : Program} {o : Oper} {a : Act} {w w' : World} {v : Value} {K : Act → World → Prop} {Q : Exit → Act → World → Prop} (h : (execOp a.eval o).run P w = .ok (.value v) w') (hk : K (a.put o.dst v) w') : o.wp P a w K Q := by
  unfold Oper.wp
  rw [h]
  exact hk

/-- A list of bytes as a string, and back. -/
def str (l : List Nat) : ByteArray := ⟨(l.map UInt8.ofNat).toArray⟩
def bs (s : ByteArray) : List Nat := s.data.toList.map UInt8.toNat
theorem str_bs (s : ByteArray) : str (bs s) = s := by
  cases s with
  | mk d =>
    simp only [str, bs, List.map_map]
    congr 1
    have : (UInt8.ofNat ∘ UInt8.toNat) = id := by funext x; simp
    rw [this]; simp
theorem bs_str {l : List Nat} (h : ∀ x ∈ l, x < 256) : bs (str l) = l := by
  simp only [str, bs, List.map_map]
  rw [List.map_congr_left (g := id) (fun x hx => by simp [UInt8.toNat_ofNat', Nat.mod_eq_of_lt (h x hx)])]
  simp
theorem bs_lt (s : ByteArray) : ∀ x ∈ bs s, x < 256 := by
  intro x hx
  obtain ⟨b, _, rfl⟩ := List.mem_map.1 hx
  exact b.toNat_lt
theorem bs_length (s : ByteArray) : (bs s).length = s.size := by
  cases s
  simp [bs, ByteArray.size]
theorem str_size (l : List Nat) : (str l).size = l.length := by simp [str, ByteArray.size]
theorem str_inj {l m : List Nat} (hl : ∀ x ∈ l, x < 256) (hm : ∀ x ∈ m, x < 256) (h : str l = str m) : l = m := by
  rw [← bs_str hl, ← bs_str hm, h]
theorem bs_inj {s t : ByteArray} (h : bs s = bs t) : s = t := by rw [← str_bs s, ← str_bs t, h]
theorem str_append (l m : List Nat) : str (l ++ m) = str l ++ str m := by
  simp only [str, List.map_append]
  rw [ByteArray.mk_append_mk]
theorem str_nil : str [] = ⟨#[]⟩ := rfl

section
variable {P : Program} {w : World}
theorem run_eql (t : TypeId) (a b : ByteArray) : (binOp .eql t (.string a) (.string b)).run P w = .ok (.bool (decide (a = b))) w := by
  rw [binOp_string_eql, Sem.run_pure]
  congr 2
  rw [ByteArray.toList_eq, ByteArray.toList_eq, Bool.eq_iff_iff]
  simp only [beq_iff_eq, decide_eq_true_eq]
  constructor
  · intro h
    cases a; cases b
    simpa using h
  · rintro rfl; rfl
theorem run_neq (t : TypeId) (a b : ByteArray) : (binOp .neq t (.string a) (.string b)).run P w = .ok (.bool (!decide (a = b))) w := by
  have h := run_eql (P := P) (w := w) t a b
  rw [binOp_string_eql, Sem.run_pure] at h
  rw [binOp_string_neq, Sem.run_pure]
  injection h with h _
  injection h with h
  rw [h]
theorem run_at {t : TypeId} (ht : P.underlying t = some .string) (k : IntKind) (s : ByteArray) {i : Nat} (hi : i < s.size) : (Instr.index t (.string s) (.int k (i : Int))).run P w = .ok (.int .u8 (((bs s)[i]?.getD 0 : Nat) : Int)) w := by
  have h1 : (bs s)[i]?.getD 0 = (s[i]).toNat := by
    have h2 : i < s.data.size := hi
    have h3 : s.data[i]? = some s.data[i] := Array.getElem?_eq_getElem h2
    simp [bs, h3]
    rfl
  rw [h1]
  simp [Instr.index, asIntOf, run_underlying ht, ByteArray.getElem?_lt' s i hi]
end

/-- A row of bytes whose cells are known. -/
def Rw (b : Nat) (l : List Nat) : World → Prop := fun W => ∀ i, i < l.length → W.cell? ⟨b, i, none⟩ = some (.int .u8 ((l[i]?.getD 0 : Nat) : Int)) ∧ W.frozen? ⟨b, i, none⟩ = false
theorem Rw.grow {b : Nat} {l : List Nat} {W W' : World} (h : Rw b l W) (g : Gr W W') : Rw b l W' := fun i hi => ⟨g.cell (h i hi).1, g.frozen (h i hi).1 (h i hi).2⟩
theorem keepRw (b : Nat) (l : List Nat) : Keep (Rw b l) := by
  refine ⟨fun h g => Rw.grow h g, fun v h hk hv i hi => ⟨?_, setCell_frozen (h i hi).2⟩⟩
  rw [World.cell?_setCell_other _ _ _ _ (fun e => ?_)]
  · exact (h i hi).1
  · have h1 := (h i hi).1
    rw [← e, hk] at h1
    rw [Option.some.inj h1] at hv
    cases hv
/-- A byte is stored into the row. -/
theorem Rw.put {b : Nat} {l : List Nat} {W : World} (h : Rw b l W) {i x : Nat} (hi : i < l.length) : Rw b (l.set i x) (W.setCell ⟨b, i, none⟩ (.int .u8 (x : Int))) := by
  intro j hj
  rw [List.length_set] at hj
  refine ⟨?_, setCell_frozen (h j hj).2⟩
  by_cases e : j = i
  · subst e
    rw [setCell_at (h j hj).1]
    simp [hj]
  · rw [World.cell?_setCell_other _ _ _ _ (fun e2 => e (by injection e2 with _ e3; exact e3.symm)), (h j hj).1]
    simp [List.getElem?_set_ne (Ne.symm e)]
theorem cells_put {W : World} {b i n : Nat} {x : Value} (hc : W.cell? ⟨b, i, none⟩ = some (.int .u8 (n : Int))) : ∀ {cs : List (Nat × Nat × Value)}, (∀ y ∈ cs, noData y.2.2 = true) → Cells W cs → Cells (W.setCell ⟨b, i, none⟩ x) cs
  | [], _, _ => trivial
  | y :: _, hd, h => by
    refine ⟨⟨?_, setCell_frozen h.1.2⟩, cells_put hc (fun z hz => hd z (List.mem_cons_of_mem _ hz)) h.2⟩
    rw [World.cell?_setCell_other _ _ _ _ (fun e => ?_)]
    · exact h.1.1
    · have h1 := h.1.1
      rw [← e, hc] at h1
      have h2 := hd y (List.mem_cons_self ..)
      rw [← Option.some.inj h1] at h2
      cases h2
/-- Words are not where a byte is. -/
theorem nw_put8 {W : World} {b i n : Nat} {x : Value} (hc : W.cell? ⟨b, i, none⟩ = some (.int .u8 (n : Int))) {p : Option Addr} {m c : Nat} {l : List Nat} (h : Nw W p m c l) : Nw (W.setCell ⟨b, i, none⟩ x) p m c l := by
  refine ⟨h.len, h.le, h.nil, ?_, h.ok, h.small⟩
  rcases h.rd with h0 | ⟨b2, off, rfl, hc2⟩
  · exact .inl h0
  · refine .inr ⟨b2, off, rfl, fun j hj => ?_⟩
    rw [World.cell?_setCell_other _ _ _ _ (fun e => ?_)]
    · exact hc2 j hj
    · have h1 := hc2 j hj
      rw [← e, hc] at h1
      cases Option.some.inj h1
theorem sta_put8 {w W : World} {cs : List (Nat × Nat × Value)} {fs : List (World → Prop)} (H : Sta w W cs fs) {b i n : Nat} {x : Value} (hb : w.heap.size ≤ b) (hc : W.cell? ⟨b, i, none⟩ = some (.int .u8 (n : Int))) {gs : List (World → Prop)} (hk : ∀ F ∈ gs, Keep F) (hf : ∀ F ∈ gs, F (W.setCell ⟨b, i, none⟩ x)) :
    Sta w (W.setCell ⟨b, i, none⟩ x) cs gs :=
  ⟨H.g.setCell hb x, cells_put hc (fun y hy => (H.low y hy).2) H.c, H.low, H.ne, hf, hk⟩
/-- A row alone: a byte is stored. -/
theorem sta_byte {w W y : World} {cs : List (Nat × Nat × Value)} {b i x : Nat} {l : List Nat} (H : Sta w W cs [Rw b l]) (hb : w.heap.size ≤ b) (hi : i < l.length) (hy : W.setCell ⟨b, i, none⟩ (.int .u8 (x : Int)) = y) : Sta w y cs [Rw b (l.set i x)] := by
  subst hy
  have hr : Rw b l W := H.fact 0 rfl
  exact sta_put8 H hb (hr i hi).1 (fun F hF => by rw [List.mem_singleton.1 hF]; exact keepRw _ _) (fun F hF => by rw [List.mem_singleton.1 hF]; exact hr.put hi)
/-- A row of one's own, written out. -/
theorem RowB.form {B : Nat} {v : Value} {r : List Nat} {W : World} (h : RowB B v r W) (h0 : r ≠ []) : ∃ b cap, v = .slice (some ⟨b, 0, none⟩) r.length cap ∧ B ≤ b ∧ r.length ≤ cap ∧ Rw b r W := by
  rcases h.2 with ⟨_, e⟩ | ⟨b, cap, cur, hv, hb, hh, hn, hm, hcs, ht⟩
  · exact absurd (List.eq_nil_of_length_eq_zero e) h0
  · refine ⟨b, cap, hv, hb, hn, fun i hi => ?_⟩
    have ht' : cur.toList.take r.length = cb r := by rw [← ht, Nat.mul_one]
    have hc : (cb r)[i]? = some (.int .u8 ((r[i]?.getD 0 : Nat) : Int)) := by simp [cb, hi]
    rw [← ht', List.getElem?_take, if_pos hi] at hc
    refine ⟨?_, by simp [World.frozen?, hh]⟩
    rw [cell_of_row W b i cur _ (0, 0) hh]
    simpa using hc
/-- A row reads as bytes. -/
theorem Rw.bt {b n c : Nat} {l : List Nat} {W : World} (h : Rw b l W) (hn : l.length = n) (hc : n ≤ c) (ok : ∀ x ∈ l, x < 256) (hs : n ≤ 1048576) : Bt W (some ⟨b, 0, none⟩) n c l :=
  ⟨hn, hc, (fun e => by cases e), .inr ⟨b, 0, rfl, fun i hi => by rw [Nat.zero_add]; exact (h i hi).1⟩, ok, hs⟩
/-- string(b). -/
theorem run_string {b n cap : Nat} {l : List Nat} {W : World} (h : Rw b l W) (hn : l.length = n) (ok : ∀ x ∈ l, x < 256) :
    (convert 62 9 (.slice (some ⟨b, 0, none⟩) n cap)).run Try.prog W = .ok (.string (str l)) W := by
  have h1 : n = (l.map UInt8.ofNat).length := by rw [List.length_map, hn]
  subst h1
  refine run_convert_bytes_back W _ _ 5 ⟨b, 0, none⟩ cap (l.map UInt8.ofNat) Try.underlying62 Try.underlying5 Try.underlying9 (fun j hj => ?_)
  have hj' : j < l.length := by simpa using hj
  rw [addr_add, Nat.zero_add, (h j hj').1]
  have h2 : l[j] < 256 := ok _ (List.getElem_mem _)
  simp [hj', UInt8.toNat_ofNat', Nat.mod_eq_of_lt h2]
/-- []byte(s): a new row. -/
theorem wp_bytes {o : Oper} {a : Act} {w : World} {K : Act → World → Prop} {Q : Exit → Act → World → Prop} (S : ByteArray) (x : Operand) (ho : o.op = .convert 9 62 x) (hx : a.eval x = .string S)
    (h : ∀ b cap y, Rw b (bs S) y → Gr w y → w.heap.size ≤ b → S.size ≤ cap → K (a.put o.dst (.slice (some ⟨b, 0, none⟩) S.size cap)) y) : o.wp Try.prog a w K Q := by
  have hr := run_bytes_of_string (P := Try.prog) w 9 62 5 S Try.underlying9 Try.underlying62 Try.underlying5
  rw [← hx] at hr
  have he : execOp a.eval o = convert 9 62 (a.eval x) >>= fun x => pure (Next.value x) := by unfold execOp; rw [ho]
  refine wp_run (val_of he hr) (h _ _ _ ?_ (((Gr.refl _).drew).alloc _) (Nat.le_refl _) (grownCap_ge _ _ _ _))
  intro i hi
  have hi' : i < S.data.size := by simpa [bs] using hi
  have hz : w.heap.size = w.drew.heap.size := rfl
  constructor
  · rw [hz, World.cell?_alloc_mark, bytesRow_at S _ i hi']
    have h3 : S.data[i]? = some S.data[i] := Array.getElem?_eq_getElem hi'
    simp [bs, h3]
  · rw [hz, World.frozen?_alloc_mark]
    have h2 : S.data.size ≤ (bytesRow S (grownCap w S.size 0 5)).size := by simp [bytesRow]
    have h3 : ¬ (bytesRow S (grownCap w S.size 0 5)).size ≤ i := by omega
    simp [h3]
end Go.Proofs.Ytlciocebbckdcaa.Fb


/- The contract of natform's join. -/
namespace Go.Proofs.Ytlciocebbckdcaa.Ff
open Go.RowKit Go.Shelf Go.Proofs.Ytlciocebbckdcaa.Nm Go.Proofs.Ytlciocebbckdcaa.Ne Go.Proofs.Ytlciocebbckdcaa.Nf Go.Proofs.Ytlciocebbckdcaa.Nk Go.Proofs.Ytlciocebbckdcaa.Nv Go.Proofs.Ytlciocebbckdcaa.Nr2 Go.Proofs.Ytlciocebbckdcaa.Kr Go.Proofs.Ytlciocebbckdcaa.Fb

set_option linter.unusedSimpArgs false in
set_option maxRecDepth 100000 in
set_option maxHeartbeats 16000000 in
theorem join_v {pl : Option Addr} {nl cl g : Nat} {l : List Nat} {w : World} (hl : Bt w pl nl cl l) (hg : 2 ≤ g ∧ g ≤ 256) :
    Calls Try.prog 108 #[.slice pl nl cl, .int .i64 (g : Int)] w fun e w' => ∃ z k, Fits (dval g l) z k ∧ HasE z k w e w' := by
  have HG := Lib.hid hg; have HL := Lib.hid hl; have HGL : Hid (g < pw 64) := Lib.hid (Nat.lt_of_lt_of_le (show g < pw 1 from by have h : pw 1 = 4294967296 := rfl; omega) (pw_mono (by decide)))
  have h1 := hl.len
  have h2 := hl.small
  have H := Sta.start w
  replace H := H.add (keepB _ _ _ _) hl
  go_enter Try.func108, Try.ntmps108
  go_upto_region 0 with fail
  refine Kr.seqStartW ?_
  refine Kr.seqR (by rfl) (fun K hK => ?_)
  go_simp
  obtain ⟨y1, hy⟩ : ∃ y, w.alloc (.cells #[.slice none 0 0] 24) = y := ⟨_, rfl⟩
  obtain ⟨br, hb⟩ : ∃ b, w.heap.size = b := ⟨_, rfl⟩
  rw [hy, hb]
  replace H := H.alloc hy hb rfl
  clear hy hb
  (refine Kr.outS hK (a' := ?_) ?_ ?_; rotate_left; (focus ((try simp only [Act.put, List.getElem_toArray, List.getElem_cons_zero, List.getElem_cons_succ, List.setIfInBounds_toArray, List.set_cons_zero, List.set_cons_succ]); first | done | rfl))); clear hK K
  (refine Kr.seqQ (v := ?_) (a' := ?_) (by rfl) ?_ ?_ ?_; rotate_left 2; (focus (go_simp; first | done | rfl)); (focus ((try simp only [Act.put, List.getElem_toArray, List.getElem_cons_zero, List.getElem_cons_succ, List.setIfInBounds_toArray, List.set_cons_zero, List.set_cons_succ]); first | done | rfl)))
  refine Kr.seqDoneW ?_
  go_upto_region 1 with fail
  refine Kr.seqStartW ?_
  refine Kr.seqR (by rfl) (fun K hK => ?_)
  go_simp
  obtain ⟨y2, hy⟩ : ∃ y, y1.alloc (.cells #[.slice none 0 0] 24) = y := ⟨_, rfl⟩
  obtain ⟨bn, hb⟩ : ∃ b, y1.heap.size = b := ⟨_, rfl⟩
  rw [hy, hb]
  replace H := H.alloc hy hb rfl
  clear hy hb
  (refine Kr.outS hK (a' := ?_) ?_ ?_; rotate_left; (focus ((try simp only [Act.put, List.getElem_toArray, List.getElem_cons_zero, List.getElem_cons_succ, List.setIfInBounds_toArray, List.set_cons_zero, List.set_cons_succ]); first | done | rfl))); clear hK K
  refine Kr.seqDoneW ?_
  go_upto_region 2 with fail
  refine Kr.seqStartW ?_
  (refine Kr.seqQ (v := ?_) (a' := ?_) (by rfl) ?_ ?_ ?_; rotate_left 2; (focus (go_simp; first | done | rfl)); (focus ((try simp only [Act.put, List.getElem_toArray, List.getElem_cons_zero, List.getElem_cons_succ, List.setIfInBounds_toArray, List.set_cons_zero, List.set_cons_succ]); first | done | rfl)))
  refine Kr.seqR (by rfl) (fun K hK => ?_)
  go_simp
  go_at_call 126
  refine (Of_v (x := g) (by have := HG.out; omega)).mono ?_
  rintro e y3 ⟨p3, n3, c3, rfl, hr, hg⟩
  replace H := H.grow hg
  replace H := H.num hr.toNw
  clear hr hg
  (refine Kr.outS hK (a' := ?_) ?_ ?_; rotate_left; (focus ((try simp only [Act.put, List.getElem_toArray, List.getElem_cons_zero, List.getElem_cons_succ, List.setIfInBounds_toArray, List.set_cons_zero, List.set_cons_succ]); first | done | rfl))); clear hK K
  iterate 3 (refine Kr.seqQ (v := ?_) (a' := ?_) (by rfl) ?_ ?_ ?_; rotate_left 2; (focus (go_simp; first | done | rfl)); (focus ((try simp only [Act.put, List.getElem_toArray, List.getElem_cons_zero, List.getElem_cons_succ, List.setIfInBounds_toArray, List.set_cons_zero, List.set_cons_succ]); first | done | rfl)))
  refine Kr.seqR (by rfl) (fun K hK => ?_)
  go_simp
  obtain ⟨y4, hy⟩ : ∃ y, y3.alloc (.cells #[.slice none 0 0] 24) = y := ⟨_, rfl⟩
  obtain ⟨bg, hb⟩ : ∃ b, y3.heap.size = b := ⟨_, rfl⟩
  rw [hy, hb]
  replace H := H.alloc hy hb rfl
  clear hy hb
  (refine Kr.outS hK (a' := ?_) ?_ ?_; rotate_left; (focus ((try simp only [Act.put, List.getElem_toArray, List.getElem_cons_zero, List.getElem_cons_succ, List.setIfInBounds_toArray, List.set_cons_zero, List.set_cons_succ]); first | done | rfl))); clear hK K
  have hk := H.c
  simp only [Kr.Cells] at hk
  refine Kr.seqR (by rfl) (fun K hK => ?_)
  go_simp
  clear hk
  obtain ⟨y5, hy⟩ : ∃ y, y4.setCell ⟨bg, 0, none⟩ (.slice p3 n3 c3) = y := ⟨_, rfl⟩
  rw [hy]
  replace H := H.store 0 hy rfl rfl
  dsimp only [List.set] at H
  clear hy
  (refine Kr.outS hK (a' := ?_) ?_ ?_; rotate_left; (focus ((try simp only [Act.put, List.getElem_toArray, List.getElem_cons_zero, List.getElem_cons_succ, List.setIfInBounds_toArray, List.set_cons_zero, List.set_cons_succ]); first | done | rfl))); clear hK K
  (refine Kr.seqQ (v := ?_) (a' := ?_) (by rfl) ?_ ?_ ?_; rotate_left 2; (focus (go_simp; first | done | rfl)); (focus ((try simp only [Act.put, List.getElem_toArray, List.getElem_cons_zero, List.getElem_cons_succ, List.setIfInBounds_toArray, List.set_cons_zero, List.set_cons_succ]); first | done | rfl)))
  refine Kr.seqDoneW ?_
  go_upto_region 3 with fail
  refine Kr.seqStartW ?_
  iterate 3 (refine Kr.seqQ (v := ?_) (a' := ?_) (by rfl) ?_ ?_ ?_; rotate_left 2; (focus (go_simp; first | done | rfl)); (focus ((try simp only [Act.put, List.getElem_toArray, List.getElem_cons_zero, List.getElem_cons_succ, List.setIfInBounds_toArray, List.set_cons_zero, List.set_cons_succ]); first | done | rfl)))
  refine Kr.seqDoneW ?_
  replace H := H.num (nw_none _)
  have H2 : Hid (Sta w y5 [(bg, 0, .slice p3 n3 c3), (bn, 0, .slice none 0 0), (br, 0, .slice none 0 0)] [N none 0 0 (dval g (l.take 0)), N p3 n3 c3 (g), B pl nl cl l]) := Lib.hid (H.pick [0, 1, 2] rfl)
  go_wp2
  go_loopw [22] (fun i wr => ∃ (k : Nat) (pz : Option Addr) (nz cz : Nat), k ≤ nl ∧ i = .int .i64 (k : Int) ∧ Hid (dval g (l.take k) < pw 64) ∧ Hid (Sta w wr [(bg, 0, .slice p3 n3 c3), (bn, 0, .slice pz nz cz), (br, 0, .slice none 0 0)] [N pz nz cz (dval g (l.take k)), N p3 n3 c3 (g), B pl nl cl l])) (fun i _ => nl - (intOf i).toNat)
  case atStart => exact ⟨0, _, _, _, Nat.zero_le _, rfl, pw_pos 64, H2⟩
  case round =>
    clear H H2
    obtain ⟨k, pz, nz, cz, hk, rfl, HB, HH⟩ := hrel
    have H := HH.out
    clear HH
    by_cases hlt : k < nl
    · skip
      obtain ⟨b0, off, rfl, hc⟩ := (H.fact 2 rfl : B pl nl cl l wr).at hlt
      obtain ⟨d, hd⟩ : ∃ d, l[k]?.getD 0 = d := ⟨_, rfl⟩
      rw [hd] at hc
      have hdl : d < 256 := by rw [← hd, List.getElem?_eq_getElem (by omega)]; exact HL.out.ok _ (List.getElem_mem _)
      have HS : Hid (dval g (l.take (k + 1)) = dval g (l.take k) * g + d) := Lib.hid (by rw [← hd]; exact dval_take g l (by omega))
      have HT : Hid (dval g (l.take (k + 1)) ≤ dval g l) := Lib.hid (dval_take_le g (by have := HG.out; omega) l _)
      have HDL : Hid (d < pw 64) := Lib.hid (Nat.lt_of_lt_of_le (show d < pw 1 from by have h : pw 1 = 4294967296 := rfl; omega) (pw_mono (by decide)))
      have k0 : (0 : Int) ≤ (k : Int) := by omega
      have k1 : (k : Int) < (nl : Int) := by omega
      have kt : ((k : Int)).toNat = k := by omega
      have dw : IntKind.i64.wrap (d : Int) = (d : Int) := IntWalk.i64_in _ (by omega)
      have kw : IntKind.i64.wrap ((k : Int) + 1) = (k : Int) + 1 := IntWalk.i64_in _ (by omega)
      clear hd
      go_upto_region 5 with fail
      refine Kr.seqStartW ?_
      (refine Kr.seqQ (v := ?_) (a' := ?_) (by rfl) ?_ ?_ ?_; rotate_left 2; (focus (go_simp; first | done | rfl)); (focus ((try simp only [Act.put, List.getElem_toArray, List.getElem_cons_zero, List.getElem_cons_succ, List.setIfInBounds_toArray, List.set_cons_zero, List.set_cons_succ]); first | done | rfl)))
      have hk := H.c
      simp only [Kr.Cells] at hk
      iterate 2 (refine Kr.seqQ (v := ?_) (a' := ?_) (by rfl) ?_ ?_ ?_; rotate_left 2; (focus (go_simp; first | done | rfl)); (focus ((try simp only [Act.put, List.getElem_toArray, List.getElem_cons_zero, List.getElem_cons_succ, List.setIfInBounds_toArray, List.set_cons_zero, List.set_cons_succ]); first | done | rfl)))
      clear hk
      refine Kr.seqDoneW ?_
      clear hc k0 k1 kt
      go_upto_region 6 with fail
      refine Kr.seqStartW ?_
      iterate 2 (refine Kr.seqQ (v := ?_) (a' := ?_) (by rfl) ?_ ?_ ?_; rotate_left 2; (focus (go_simp; first | done | rfl)); (focus ((try simp only [Act.put, List.getElem_toArray, List.getElem_cons_zero, List.getElem_cons_succ, List.setIfInBounds_toArray, List.set_cons_zero, List.set_cons_succ]); first | done | rfl)))
      refine Kr.seqR (by rfl) (fun K hK => ?_)
      go_simp
      go_at_call 126
      refine (Of_v (x := d) (by omega)).mono ?_
      rintro e y6 ⟨p6, n6, c6, rfl, hr, hg⟩
      replace H := H.grow hg
      replace H := H.num hr.toNw
      clear hr hg
      (refine Kr.outS hK (a' := ?_) ?_ ?_; rotate_left; (focus ((try simp only [Act.put, List.getElem_toArray, List.getElem_cons_zero, List.getElem_cons_succ, List.setIfInBounds_toArray, List.set_cons_zero, List.set_cons_succ]); first | done | rfl))); clear hK K
      iterate 3 (refine Kr.seqQ (v := ?_) (a' := ?_) (by rfl) ?_ ?_ ?_; rotate_left 2; (focus (go_simp; first | done | rfl)); (focus ((try simp only [Act.put, List.getElem_toArray, List.getElem_cons_zero, List.getElem_cons_succ, List.setIfInBounds_toArray, List.set_cons_zero, List.set_cons_succ]); first | done | rfl)))
      refine Kr.seqR (by rfl) (fun K hK => ?_)
      go_simp
      obtain ⟨y7, hy⟩ : ∃ y, y6.alloc (.cells #[.slice none 0 0] 24) = y := ⟨_, rfl⟩
      obtain ⟨bd, hb⟩ : ∃ b, y6.heap.size = b := ⟨_, rfl⟩
      rw [hy, hb]
      replace H := H.alloc hy hb rfl
      clear hy hb
      (refine Kr.outS hK (a' := ?_) ?_ ?_; rotate_left; (focus ((try simp only [Act.put, List.getElem_toArray, List.getElem_cons_zero, List.getElem_cons_succ, List.setIfInBounds_toArray, List.set_cons_zero, List.set_cons_succ]); first | done | rfl))); clear hK K
      have hk := H.c
      simp only [Kr.Cells] at hk
      refine Kr.seqR (by rfl) (fun K hK => ?_)
      go_simp
      clear hk
      obtain ⟨y8, hy⟩ : ∃ y, y7.setCell ⟨bd, 0, none⟩ (.slice p6 n6 c6) = y := ⟨_, rfl⟩
      rw [hy]
      replace H := H.store 0 hy rfl rfl
      dsimp only [List.set] at H
      clear hy
      (refine Kr.outS hK (a' := ?_) ?_ ?_; rotate_left; (focus ((try simp only [Act.put, List.getElem_toArray, List.getElem_cons_zero, List.getElem_cons_succ, List.setIfInBounds_toArray, List.set_cons_zero, List.set_cons_succ]); first | done | rfl))); clear hK K
      (refine Kr.seqQ (v := ?_) (a' := ?_) (by rfl) ?_ ?_ ?_; rotate_left 2; (focus (go_simp; first | done | rfl)); (focus ((try simp only [Act.put, List.getElem_toArray, List.getElem_cons_zero, List.getElem_cons_succ, List.setIfInBounds_toArray, List.set_cons_zero, List.set_cons_succ]); first | done | rfl)))
      refine Kr.seqDoneW ?_
      clear dw
      by_cases hp : dval g (l.take k) * g < pw 64
      · have HP := Lib.hid hp
        clear hp
        go_upto_region 7 with fail
        refine Kr.seqStartW ?_
        have hk := H.c
        simp only [Kr.Cells] at hk
        iterate 2 (refine Kr.seqQ (v := ?_) (a' := ?_) (by rfl) ?_ ?_ ?_; rotate_left 2; (focus (go_simp; first | done | rfl)); (focus ((try simp only [Act.put, List.getElem_toArray, List.getElem_cons_zero, List.getElem_cons_succ, List.setIfInBounds_toArray, List.set_cons_zero, List.set_cons_succ]); first | done | rfl)))
        refine Kr.seqR (by rfl) (fun K hK => ?_)
        go_simp
        go_at_call 48
        refine (Mul_v _ 0 (.inl ⟨HP.out, rfl, rfl⟩) (H.nw 1 rfl) (H.nw 2 rfl) HB.out HGL.out).mono ?_
        rintro e y9 ⟨p9, n9, c9, rfl, hr, hg⟩
        clear hk
        replace H := H.grow hg
        replace H := H.num hr.toNw
        clear hr hg
        (refine Kr.outS hK (a' := ?_) ?_ ?_; rotate_left; (focus ((try simp only [Act.put, List.getElem_toArray, List.getElem_cons_zero, List.getElem_cons_succ, List.setIfInBounds_toArray, List.set_cons_zero, List.set_cons_succ]); first | done | rfl))); clear hK K
        iterate 3 (refine Kr.seqQ (v := ?_) (a' := ?_) (by rfl) ?_ ?_ ?_; rotate_left 2; (focus (go_simp; first | done | rfl)); (focus ((try simp only [Act.put, List.getElem_toArray, List.getElem_cons_zero, List.getElem_cons_succ, List.setIfInBounds_toArray, List.set_cons_zero, List.set_cons_succ]); first | done | rfl)))
        refine Kr.seqR (by rfl) (fun K hK => ?_)
        go_simp
        obtain ⟨y10, hy⟩ : ∃ y, y9.alloc (.cells #[.slice none 0 0] 24) = y := ⟨_, rfl⟩
        obtain ⟨bp, hb⟩ : ∃ b, y9.heap.size = b := ⟨_, rfl⟩
        rw [hy, hb]
        replace H := H.alloc hy hb rfl
        clear hy hb
        (refine Kr.outS hK (a' := ?_) ?_ ?_; rotate_left; (focus ((try simp only [Act.put, List.getElem_toArray, List.getElem_cons_zero, List.getElem_cons_succ, List.setIfInBounds_toArray, List.set_cons_zero, List.set_cons_succ]); first | done | rfl))); clear hK K
        have hk := H.c
        simp only [Kr.Cells] at hk
        refine Kr.seqR (by rfl) (fun K hK => ?_)
        go_simp
        clear hk
        obtain ⟨y11, hy⟩ : ∃ y, y10.setCell ⟨bp, 0, none⟩ (.slice p9 n9 c9) = y := ⟨_, rfl⟩
        rw [hy]
        replace H := H.store 0 hy rfl rfl
        dsimp only [List.set] at H
        clear hy
        (refine Kr.outS hK (a' := ?_) ?_ ?_; rotate_left; (focus ((try simp only [Act.put, List.getElem_toArray, List.getElem_cons_zero, List.getElem_cons_succ, List.setIfInBounds_toArray, List.set_cons_zero, List.set_cons_succ]); first | done | rfl))); clear hK K
        (refine Kr.seqQ (v := ?_) (a' := ?_) (by rfl) ?_ ?_ ?_; rotate_left 2; (focus (go_simp; first | done | rfl)); (focus ((try simp only [Act.put, List.getElem_toArray, List.getElem_cons_zero, List.getElem_cons_succ, List.setIfInBounds_toArray, List.set_cons_zero, List.set_cons_succ]); first | done | rfl)))
        refine Kr.seqDoneW ?_
        go_upto_region 8 with fail
        refine Kr.seqStartW ?_
        iterate 2 (refine Kr.seqQ (v := ?_) (a' := ?_) (by rfl) ?_ ?_ ?_; rotate_left 2; (focus (go_simp; first | done | rfl)); (focus ((try simp only [Act.put, List.getElem_toArray, List.getElem_cons_zero, List.getElem_cons_succ, List.setIfInBounds_toArray, List.set_cons_zero, List.set_cons_succ]); first | done | rfl)))
        refine Kr.seqDoneW ?_
        by_cases hq : dval g (l.take k) * g + d < pw 64
        · have HQ := Lib.hid hq
          clear hq
          go_upto_region 10 with fail
          refine Kr.seqStartW ?_
          have hk := H.c
          simp only [Kr.Cells] at hk
          iterate 2 (refine Kr.seqQ (v := ?_) (a' := ?_) (by rfl) ?_ ?_ ?_; rotate_left 2; (focus (go_simp; first | done | rfl)); (focus ((try simp only [Act.put, List.getElem_toArray, List.getElem_cons_zero, List.getElem_cons_succ, List.setIfInBounds_toArray, List.set_cons_zero, List.set_cons_succ]); first | done | rfl)))
          refine Kr.seqR (by rfl) (fun K hK => ?_)
          go_simp
          go_at_call 110
          refine (Add_v _ 0 (.inl ⟨HQ.out, rfl, rfl⟩) (H.nw 0 rfl) (H.nw 1 rfl) HP.out HDL.out).mono ?_
          rintro e y12 ⟨p12, n12, c12, rfl, hr, hg⟩
          clear hk
          replace H := H.grow hg
          replace H := H.num hr.toNw
          clear hr hg
          (refine Kr.outS hK (a' := ?_) ?_ ?_; rotate_left; (focus ((try simp only [Act.put, List.getElem_toArray, List.getElem_cons_zero, List.getElem_cons_succ, List.setIfInBounds_toArray, List.set_cons_zero, List.set_cons_succ]); first | done | rfl))); clear hK K
          iterate 3 (refine Kr.seqQ (v := ?_) (a' := ?_) (by rfl) ?_ ?_ ?_; rotate_left 2; (focus (go_simp; first | done | rfl)); (focus ((try simp only [Act.put, List.getElem_toArray, List.getElem_cons_zero, List.getElem_cons_succ, List.setIfInBounds_toArray, List.set_cons_zero, List.set_cons_succ]); first | done | rfl)))
          have hk := H.c
          simp only [Kr.Cells] at hk
          refine Kr.seqR (by rfl) (fun K hK => ?_)
          go_simp
          clear hk
          obtain ⟨y13, hy⟩ : ∃ y, y12.setCell ⟨bn, 0, none⟩ (.slice p12 n12 c12) = y := ⟨_, rfl⟩
          rw [hy]
          replace H := H.store 3 hy rfl rfl
          dsimp only [List.set] at H
          clear hy
          (refine Kr.outS hK (a' := ?_) ?_ ?_; rotate_left; (focus ((try simp only [Act.put, List.getElem_toArray, List.getElem_cons_zero, List.getElem_cons_succ, List.setIfInBounds_toArray, List.set_cons_zero, List.set_cons_succ]); first | done | rfl))); clear hK K
          (refine Kr.seqQ (v := ?_) (a' := ?_) (by rfl) ?_ ?_ ?_; rotate_left 2; (focus (go_simp; first | done | rfl)); (focus ((try simp only [Act.put, List.getElem_toArray, List.getElem_cons_zero, List.getElem_cons_succ, List.setIfInBounds_toArray, List.set_cons_zero, List.set_cons_succ]); first | done | rfl)))
          refine Kr.seqDoneW ?_
          go_upto_region 11 with fail
          refine Kr.seqStartW ?_
          iterate 2 (refine Kr.seqQ (v := ?_) (a' := ?_) (by rfl) ?_ ?_ ?_; rotate_left 2; (focus (go_simp; first | done | rfl)); (focus ((try simp only [Act.put, List.getElem_toArray, List.getElem_cons_zero, List.getElem_cons_succ, List.setIfInBounds_toArray, List.set_cons_zero, List.set_cons_succ]); first | done | rfl)))
          refine Kr.seqDoneW ?_
          go_wp2
          go_roundw
          case rel => exact ⟨k + 1, _, _, _, by omega, rfl, Lib.hid (by rw [HS.out]; exact HQ.out), Lib.hid (by rw [HS.out]; exact (H.drop 2).pick [0, 4, 5] rfl)⟩
          case measure => (simp [intOf] <;> omega)
        · have HQ := Lib.hid hq
          clear hq
          go_upto_region 10 with fail
          refine Kr.seqStartW ?_
          have hk := H.c
          simp only [Kr.Cells] at hk
          iterate 2 (refine Kr.seqQ (v := ?_) (a' := ?_) (by rfl) ?_ ?_ ?_; rotate_left 2; (focus (go_simp; first | done | rfl)); (focus ((try simp only [Act.put, List.getElem_toArray, List.getElem_cons_zero, List.getElem_cons_succ, List.setIfInBounds_toArray, List.set_cons_zero, List.set_cons_succ]); first | done | rfl)))
          refine Kr.seqR (by rfl) (fun K hK => ?_)
          go_simp
          go_at_call 110
          refine (Add_v 0 9 (.inr ⟨Nat.le_of_not_lt HQ.out, rfl, rfl⟩) (H.nw 0 rfl) (H.nw 1 rfl) HP.out HDL.out).mono ?_
          rintro e y14 ⟨p14, n14, c14, rfl, hr, hg⟩
          clear hk
          replace H := H.grow hg
          replace H := H.num hr.toNw
          clear hr hg
          (refine Kr.outS hK (a' := ?_) ?_ ?_; rotate_left; (focus ((try simp only [Act.put, List.getElem_toArray, List.getElem_cons_zero, List.getElem_cons_succ, List.setIfInBounds_toArray, List.set_cons_zero, List.set_cons_succ]); first | done | rfl))); clear hK K
          iterate 3 (refine Kr.seqQ (v := ?_) (a' := ?_) (by rfl) ?_ ?_ ?_; rotate_left 2; (focus (go_simp; first | done | rfl)); (focus ((try simp only [Act.put, List.getElem_toArray, List.getElem_cons_zero, List.getElem_cons_succ, List.setIfInBounds_toArray, List.set_cons_zero, List.set_cons_succ]); first | done | rfl)))
          have hk := H.c
          simp only [Kr.Cells] at hk
          refine Kr.seqR (by rfl) (fun K hK => ?_)
          go_simp
          clear hk
          obtain ⟨y15, hy⟩ : ∃ y, y14.setCell ⟨bn, 0, none⟩ (.slice p14 n14 c14) = y := ⟨_, rfl⟩
          rw [hy]
          replace H := H.store 3 hy rfl rfl
          dsimp only [List.set] at H
          clear hy
          (refine Kr.outS hK (a' := ?_) ?_ ?_; rotate_left; (focus ((try simp only [Act.put, List.getElem_toArray, List.getElem_cons_zero, List.getElem_cons_succ, List.setIfInBounds_toArray, List.set_cons_zero, List.set_cons_succ]); first | done | rfl))); clear hK K
          (refine Kr.seqQ (v := ?_) (a' := ?_) (by rfl) ?_ ?_ ?_; rotate_left 2; (focus (go_simp; first | done | rfl)); (focus ((try simp only [Act.put, List.getElem_toArray, List.getElem_cons_zero, List.getElem_cons_succ, List.setIfInBounds_toArray, List.set_cons_zero, List.set_cons_succ]); first | done | rfl)))
          refine Kr.seqDoneW ?_
          go_upto_region 11 with fail
          refine Kr.seqStartW ?_
          iterate 2 (refine Kr.seqQ (v := ?_) (a' := ?_) (by rfl) ?_ ?_ ?_; rotate_left 2; (focus (go_simp; first | done | rfl)); (focus ((try simp only [Act.put, List.getElem_toArray, List.getElem_cons_zero, List.getElem_cons_succ, List.setIfInBounds_toArray, List.set_cons_zero, List.set_cons_succ]); first | done | rfl)))
          refine Kr.seqDoneW ?_
          go_upto_region 12 with fail
          refine Kr.seqStartW ?_
          iterate 2 (refine Kr.seqQ (v := ?_) (a' := ?_) (by rfl) ?_ ?_ ?_; rotate_left 2; (focus (go_simp; first | done | rfl)); (focus ((try simp only [Act.put, List.getElem_toArray, List.getElem_cons_zero, List.getElem_cons_succ, List.setIfInBounds_toArray, List.set_cons_zero, List.set_cons_succ]); first | done | rfl)))
          have hk := H.c
          simp only [Kr.Cells] at hk
          refine Kr.seqR (by rfl) (fun K hK => ?_)
          go_simp
          clear hk
          obtain ⟨y16, hy⟩ : ∃ y, y15.setCell ⟨br, 0, none⟩ (.slice none 0 0) = y := ⟨_, rfl⟩
          rw [hy]
          replace H := H.store 4 hy rfl rfl
          dsimp only [List.set] at H
          clear hy
          (refine Kr.outS hK (a' := ?_) ?_ ?_; rotate_left; (focus ((try simp only [Act.put, List.getElem_toArray, List.getElem_cons_zero, List.getElem_cons_succ, List.setIfInBounds_toArray, List.set_cons_zero, List.set_cons_succ]); first | done | rfl))); clear hK K
          (refine Kr.seqQ (v := ?_) (a' := ?_) (by rfl) ?_ ?_ ?_; rotate_left 2; (focus (go_simp; first | done | rfl)); (focus ((try simp only [Act.put, List.getElem_toArray, List.getElem_cons_zero, List.getElem_cons_succ, List.setIfInBounds_toArray, List.set_cons_zero, List.set_cons_succ]); first | done | rfl)))
          refine Kr.seqDoneW ?_
          have hk := H.c
          simp only [Kr.Cells] at hk
          go_wp2
          refine bodyPost_ret (v := .tuple #[.agg #[.slice none 0 0], .int .i64 9]) (by simp [results, Try.results108, go_sem, hk]) rfl ⟨0, 9, .inr ⟨by have h1 := HQ.out; have h2 := HS.out; have h3 := HT.out; omega, rfl, rfl⟩, none, 0, 0, rfl, nw_none _, H.g⟩
      · have HP := Lib.hid hp
        clear hp
        go_upto_region 7 with fail
        refine Kr.seqStartW ?_
        have hk := H.c
        simp only [Kr.Cells] at hk
        iterate 2 (refine Kr.seqQ (v := ?_) (a' := ?_) (by rfl) ?_ ?_ ?_; rotate_left 2; (focus (go_simp; first | done | rfl)); (focus ((try simp only [Act.put, List.getElem_toArray, List.getElem_cons_zero, List.getElem_cons_succ, List.setIfInBounds_toArray, List.set_cons_zero, List.set_cons_succ]); first | done | rfl)))
        refine Kr.seqR (by rfl) (fun K hK => ?_)
        go_simp
        go_at_call 48
        refine (Mul_v 0 9 (.inr ⟨Nat.le_of_not_lt HP.out, rfl, rfl⟩) (H.nw 1 rfl) (H.nw 2 rfl) HB.out HGL.out).mono ?_
        rintro e y17 ⟨p17, n17, c17, rfl, hr, hg⟩
        clear hk
        replace H := H.grow hg
        replace H := H.num hr.toNw
        clear hr hg
        (refine Kr.outS hK (a' := ?_) ?_ ?_; rotate_left; (focus ((try simp only [Act.put, List.getElem_toArray, List.getElem_cons_zero, List.getElem_cons_succ, List.setIfInBounds_toArray, List.set_cons_zero, List.set_cons_succ]); first | done | rfl))); clear hK K
        iterate 3 (refine Kr.seqQ (v := ?_) (a' := ?_) (by rfl) ?_ ?_ ?_; rotate_left 2; (focus (go_simp; first | done | rfl)); (focus ((try simp only [Act.put, List.getElem_toArray, List.getElem_cons_zero, List.getElem_cons_succ, List.setIfInBounds_toArray, List.set_cons_zero, List.set_cons_succ]); first | done | rfl)))
        refine Kr.seqR (by rfl) (fun K hK => ?_)
        go_simp
        obtain ⟨y18, hy⟩ : ∃ y, y17.alloc (.cells #[.slice none 0 0] 24) = y := ⟨_, rfl⟩
        obtain ⟨bp, hb⟩ : ∃ b, y17.heap.size = b := ⟨_, rfl⟩
        rw [hy, hb]
        replace H := H.alloc hy hb rfl
        clear hy hb
        (refine Kr.outS hK (a' := ?_) ?_ ?_; rotate_left; (focus ((try simp only [Act.put, List.getElem_toArray, List.getElem_cons_zero, List.getElem_cons_succ, List.setIfInBounds_toArray, List.set_cons_zero, List.set_cons_succ]); first | done | rfl))); clear hK K
        have hk := H.c
        simp only [Kr.Cells] at hk
        refine Kr.seqR (by rfl) (fun K hK => ?_)
        go_simp
        clear hk
        obtain ⟨y19, hy⟩ : ∃ y, y18.setCell ⟨bp, 0, none⟩ (.slice p17 n17 c17) = y := ⟨_, rfl⟩
        rw [hy]
        replace H := H.store 0 hy rfl rfl
        dsimp only [List.set] at H
        clear hy
        (refine Kr.outS hK (a' := ?_) ?_ ?_; rotate_left; (focus ((try simp only [Act.put, List.getElem_toArray, List.getElem_cons_zero, List.getElem_cons_succ, List.setIfInBounds_toArray, List.set_cons_zero, List.set_cons_succ]); first | done | rfl))); clear hK K
        (refine Kr.seqQ (v := ?_) (a' := ?_) (by rfl) ?_ ?_ ?_; rotate_left 2; (focus (go_simp; first | done | rfl)); (focus ((try simp only [Act.put, List.getElem_toArray, List.getElem_cons_zero, List.getElem_cons_succ, List.setIfInBounds_toArray, List.set_cons_zero, List.set_cons_succ]); first | done | rfl)))
        refine Kr.seqDoneW ?_
        go_upto_region 8 with fail
        refine Kr.seqStartW ?_
        iterate 2 (refine Kr.seqQ (v := ?_) (a' := ?_) (by rfl) ?_ ?_ ?_; rotate_left 2; (focus (go_simp; first | done | rfl)); (focus ((try simp only [Act.put, List.getElem_toArray, List.getElem_cons_zero, List.getElem_cons_succ, List.setIfInBounds_toArray, List.set_cons_zero, List.set_cons_succ]); first | done | rfl)))
        refine Kr.seqDoneW ?_
        go_upto_region 9 with fail
        refine Kr.seqStartW ?_
        iterate 2 (refine Kr.seqQ (v := ?_) (a' := ?_) (by rfl) ?_ ?_ ?_; rotate_left 2; (focus (go_simp; first | done | rfl)); (focus ((try simp only [Act.put, List.getElem_toArray, List.getElem_cons_zero, List.getElem_cons_succ, List.setIfInBounds_toArray, List.set_cons_zero, List.set_cons_succ]); first | done | rfl)))
        have hk := H.c
        simp only [Kr.Cells] at hk
        refine Kr.seqR (by rfl) (fun K hK => ?_)
        go_simp
        clear hk
        obtain ⟨y20, hy⟩ : ∃ y, y19.setCell ⟨br, 0, none⟩ (.slice none 0 0) = y := ⟨_, rfl⟩
        rw [hy]
        replace H := H.store 4 hy rfl rfl
        dsimp only [List.set] at H
        clear hy
        (refine Kr.outS hK (a' := ?_) ?_ ?_; rotate_left; (focus ((try simp only [Act.put, List.getElem_toArray, List.getElem_cons_zero, List.getElem_cons_succ, List.setIfInBounds_toArray, List.set_cons_zero, List.set_cons_succ]); first | done | rfl))); clear hK K
        (refine Kr.seqQ (v := ?_) (a' := ?_) (by rfl) ?_ ?_ ?_; rotate_left 2; (focus (go_simp; first | done | rfl)); (focus ((try simp only [Act.put, List.getElem_toArray, List.getElem_cons_zero, List.getElem_cons_succ, List.setIfInBounds_toArray, List.set_cons_zero, List.set_cons_succ]); first | done | rfl)))
        refine Kr.seqDoneW ?_
        have hk := H.c
        simp only [Kr.Cells] at hk
        go_wp2
        refine bodyPost_ret (v := .tuple #[.agg #[.slice none 0 0], .int .i64 9]) (by simp [results, Try.results108, go_sem, hk]) rfl ⟨0, 9, .inr ⟨by have h1 := HP.out; have h2 := HS.out; have h3 := HT.out; omega, rfl, rfl⟩, none, 0, 0, rfl, nw_none _, H.g⟩
    · obtain rfl : k = nl := by omega
      have HLK : Hid (l.take k = l) := Lib.hid (List.take_of_length_le (by omega))
      rw [HLK.out] at HB H
      go_upto_region 14 with fail
      refine Kr.seqStartW ?_
      have hk := H.c
      simp only [Kr.Cells] at hk
      (refine Kr.seqQ (v := ?_) (a' := ?_) (by rfl) ?_ ?_ ?_; rotate_left 2; (focus (go_simp; first | done | rfl)); (focus ((try simp only [Act.put, List.getElem_toArray, List.getElem_cons_zero, List.getElem_cons_succ, List.setIfInBounds_toArray, List.set_cons_zero, List.set_cons_succ]); first | done | rfl)))
      refine Kr.seqR (by rfl) (fun K hK => ?_)
      go_simp
      clear hk
      obtain ⟨y21, hy⟩ : ∃ y, wr.setCell ⟨br, 0, none⟩ (.slice pz nz cz) = y := ⟨_, rfl⟩
      rw [hy]
      replace H := H.store 2 hy rfl rfl
      dsimp only [List.set] at H
      clear hy
      (refine Kr.outS hK (a' := ?_) ?_ ?_; rotate_left; (focus ((try simp only [Act.put, List.getElem_toArray, List.getElem_cons_zero, List.getElem_cons_succ, List.setIfInBounds_toArray, List.set_cons_zero, List.set_cons_succ]); first | done | rfl))); clear hK K
      (refine Kr.seqQ (v := ?_) (a' := ?_) (by rfl) ?_ ?_ ?_; rotate_left 2; (focus (go_simp; first | done | rfl)); (focus ((try simp only [Act.put, List.getElem_toArray, List.getElem_cons_zero, List.getElem_cons_succ, List.setIfInBounds_toArray, List.set_cons_zero, List.set_cons_succ]); first | done | rfl)))
      refine Kr.seqDoneW ?_
      have hk := H.c
      simp only [Kr.Cells] at hk
      go_wp2
      refine bodyPost_ret (v := .tuple #[.agg #[.slice pz nz cz], .int .i64 0]) (by simp [results, Try.results108, go_sem, hk]) rfl ⟨dval g l, 0, .inl ⟨HB.out, rfl, rfl⟩, pz, nz, cz, rfl, H.nw 0 rfl, H.g⟩
end Go.Proofs.Ytlciocebbckdcaa.Ff
