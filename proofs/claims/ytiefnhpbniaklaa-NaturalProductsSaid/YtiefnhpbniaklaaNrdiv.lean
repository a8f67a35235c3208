/- The contract of the reference's Div. -/
import Derived.Test.YtiefnhpbniaklaaNrshift
import Derived.Test.YtiefnhpbniaklaaNrdif
import Derived.Test.YtiefnhpbniaklaaNrtwice
import Derived.Deep.RegionWith
import Derived.Deep.RegionHeld3
import Derived.Deep.CutRange
namespace Go.Proofs.Ytiefnhpbniaklaa.Nr2
open Go.RowKit Go.Shelf Go.Proofs.Ytiefnhpbniaklaa.Nm Go.Proofs.Ytiefnhpbniaklaa.Ne Go.Proofs.Ytiefnhpbniaklaa.Nf Go.Proofs.Ytiefnhpbniaklaa.Nk Go.Proofs.Ytiefnhpbniaklaa.Nv

theorem bit_high {r : List Nat} (hok : ok r) {i M : Nat} (h : val r = M * 2 ^ (i + 1)) : r[i / 32]?.getD 0 + 2 ^ (i % 32) < 4294967296 := by
  rw [val_get r hok]
  have e1 : 2 ^ (i + 1) = 2 ^ (i % 32 + 1) * pw (i / 32) := by rw [Nat.pow_succ, pow_split, Nat.pow_succ]; ac_rfl
  have e2 : val r / pw (i / 32) = M * 2 ^ (i % 32 + 1) := by rw [h, e1, ← Nat.mul_assoc, Nat.mul_div_cancel _ (pw_pos _)]
  have e3 : (4294967296 : Nat) = 2 ^ (31 - i % 32) * 2 ^ (i % 32 + 1) := by
    rw [← Nat.pow_add, show 31 - i % 32 + (i % 32 + 1) = 32 by omega]
  rw [e2]
  obtain ⟨c, hc⟩ : ∃ c, 2 ^ (i % 32 + 1) = c := ⟨_, rfl⟩
  obtain ⟨d, hd⟩ : ∃ d, 2 ^ (31 - i % 32) = d := ⟨_, rfl⟩
  have hc2 : c = 2 * 2 ^ (i % 32) := by rw [← hc, Nat.pow_succ, Nat.mul_comm]
  have hp : 0 < 2 ^ (i % 32) := Nat.pow_pos (by decide)
  have hdp : 0 < d := by rw [← hd]; exact Nat.pow_pos (by decide)
  rw [hc, hd] at e3
  rw [hc]
  have h1 : M * c % (d * c) = M % d * c := Nat.mul_mod_mul_right c M d
  have h2 : M % d < d := Nat.mod_lt _ hdp
  have h3 : M % d * c + c ≤ d * c := by
    have := Nat.mul_le_mul_right c (show M % d + 1 ≤ d by omega)
    rwa [Nat.add_mul, Nat.one_mul] at this
  rw [← e3] at h1 h3
  omega
theorem half_bit (x j : Nat) : x / 2 ^ j = 2 * (x / 2 ^ (j + 1)) + (x.testBit j).toNat := by
  rw [Nat.pow_succ, ← Nat.div_div_eq_div_mul, Nat.testBit_eq_decide_div_mod_eq]
  have : x / 2 ^ j % 2 < 2 := Nat.mod_lt _ (by decide)
  by_cases h : x / 2 ^ j % 2 = 1
  · rw [h]; simp; omega
  · have h0 : x / 2 ^ j % 2 = 0 := by omega
    rw [h0]; simp; omega
def DvAt (x y N k : Nat) (qs : List Nat) : Prop := qs.length = N ∧ ok qs ∧ val qs = x / 2 ^ k / y * 2 ^ k
/-- What a step does: v2 is twice the remainder, and a bit. -/
theorem dv_lt {x y j v2 : Nat} (hy : 0 < y) (hv : v2 = 2 * (x / 2 ^ (j + 1) % y) + (x.testBit j).toNat) : v2 < 2 * y := by
  have := Nat.mod_lt (x / 2 ^ (j + 1)) hy
  have : (x.testBit j).toNat ≤ 1 := by cases x.testBit j <;> decide
  omega
theorem dv_eq {x y j v2 : Nat} (hv : v2 = 2 * (x / 2 ^ (j + 1) % y) + (x.testBit j).toNat) : x / 2 ^ j = y * (2 * (x / 2 ^ (j + 1) / y)) + v2 := by
  rw [half_bit, hv]
  have := Nat.div_add_mod (x / 2 ^ (j + 1)) y
  have e : y * (2 * (x / 2 ^ (j + 1) / y)) = 2 * (y * (x / 2 ^ (j + 1) / y)) := by ac_rfl
  rw [e]
  omega
theorem DvAt.skip {x y N j v2 : Nat} {qs : List Nat} (h : DvAt x y N (j + 1) qs) (hy : 0 < y) (hv : v2 = 2 * (x / 2 ^ (j + 1) % y) + (x.testBit j).toNat) (hlt : v2 < y) :
    DvAt x y N j qs ∧ x / 2 ^ j % y = v2 := by
  have e := dv_eq hv
  have hd : x / 2 ^ j / y = 2 * (x / 2 ^ (j + 1) / y) := by rw [e, Nat.mul_add_div hy, Nat.div_eq_of_lt hlt, Nat.add_zero]
  refine ⟨⟨h.1, h.2.1, ?_⟩, ?_⟩
  · rw [h.2.2, hd, Nat.pow_succ]; ac_rfl
  · rw [e, Nat.mul_add_mod, Nat.mod_eq_of_lt hlt]
theorem DvAt.take {x y N j v2 : Nat} {qs : List Nat} (h : DvAt x y N (j + 1) qs) (hy : 0 < y) (hv : v2 = 2 * (x / 2 ^ (j + 1) % y) + (x.testBit j).toNat) (hge : y ≤ v2) (hN : j / 32 < N) :
    qs[j / 32]?.getD 0 + 2 ^ (j % 32) < 4294967296 ∧ DvAt x y N j (qs.set (j / 32) (qs[j / 32]?.getD 0 + 2 ^ (j % 32))) ∧ x / 2 ^ j % y = v2 - y := by
  have e := dv_eq hv
  have h2 := dv_lt hy hv
  have h1 := bit_high h.2.1 h.2.2
  have e1 : v2 = y * 1 + (v2 - y) := by omega
  have h3 : v2 - y < y := by omega
  have hv1 : v2 / y = 1 := by rw [e1, Nat.mul_add_div hy, Nat.div_eq_of_lt h3]
  have hd : x / 2 ^ j / y = 2 * (x / 2 ^ (j + 1) / y) + 1 := by rw [e, Nat.mul_add_div hy, hv1]
  refine ⟨h1, ⟨by simpa using h.1, ok_set h.2.1 _ _ h1, ?_⟩, ?_⟩
  · rw [set_bit (by rw [h.1]; exact hN), h.2.2, hd, Nat.pow_succ, Nat.add_mul, Nat.one_mul]
    congr 1
    ac_rfl
  · rw [e, Nat.mul_add_mod]
    conv => lhs; rw [e1]
    rw [Nat.mul_add_mod, Nat.mod_eq_of_lt h3]

theorem hold_far {w : World} {g R : Nat} {r : List Nat} {u : Value} (h : Hold w g 0 r) (hne : 0 < r.length → g ≠ R) : Hold (w.setCell ⟨R, 0, none⟩ u) g 0 r := by
  intro i hi
  refine ⟨?_, by rw [World.frozen?_setCell]; exact (h i hi).2⟩
  rw [World.cell?_setCell_other _ _ _ _ (by intro e; injection e with e1; exact hne (by omega) e1.symm)]
  exact (h i hi).1
theorem own_ne2 {B b : Nat} {w : World} {p : Option Addr} {n c : Nat} {l : List Nat} (h : Nr (B + 1) w p n c l) (hb : b ≤ B) {x : Addr} (e : p = some x) : x.block ≠ b ∨ val l = 0 := by
  rcases h.own with h0 | ⟨b', off, e2, hb', _⟩
  · right
    rw [h0]
    rfl
  · left
    rw [e] at e2
    cases e2
    show b' ≠ b
    omega
theorem cell_far {w : World} {a R : Nat} {u v : Value} (hne : a ≠ R) (h : w.cell? ⟨R, 0, none⟩ = some v) : (w.setCell ⟨a, 0, none⟩ u).cell? ⟨R, 0, none⟩ = some v := by
  rw [World.cell?_setCell_other _ _ _ _ (by intro e; injection e with e1; exact hne e1)]
  exact h
/-- Two numbers, without an error. -/
def Num2 (x y : Nat) (w : World) (e : Ending) (w' : World) : Prop :=
  ∃ (p q : Option Addr) (n cap m cap2 : Nat), e = .returned (.tuple #[.agg #[.slice p n cap], .agg #[.slice q m cap2]]) ∧ Nr w.heap.size w' p n cap (digs x) ∧ Nr w.heap.size w' q m cap2 (digs y) ∧ Gr w w'

set_option maxRecDepth 100000 in
set_option maxHeartbeats 16000000 in
theorem rdiv_v (p q : Option Addr) (n c m d x y : Nat) (hx : x < pw 64) (hy : 0 < y) (hy2 : y < pw 64) (w : World) (h : Nw w p n c (digs x)) (h2 : Nw w q m d (digs y)) :
    Calls Try.prog 45 #[.agg #[.slice p n c], .agg #[.slice q m d]] w (Num2 (x / y) (x % y) w) := by
  obtain ⟨i0, hi, hz0, hz1, hz2⟩ := info_parts infoW
  have hn : n ≤ 64 := by have := (digs_length_le x 64).2 hx; rwa [h.len] at this
  have HA := Lib.hid h
  have HB := Lib.hid h2
  have HY := Lib.hid hy
  have HY2 := Lib.hid hy2
  have HBT := Lib.hid (fun i W (hW : Gr w W) => rbit_v p n c i x W (h.grow hW))
  have HBS := Lib.hid (fun W (hW : Gr w W) => rbits_v p n c x W (h.grow hW))
  have hnb : nb x ≤ 32 * n := (nb_le _ _).2 (by
    have h1 : x < pw n := (digs_length_le x n).1 (by rw [h.len]; exact Nat.le_refl _)
    rwa [pw_eq] at h1)
  have HNX : Hid (x / 2 ^ nb x = 0) := Lib.hid (Nat.div_eq_of_lt ((nb_le _ _).1 (Nat.le_refl _)))
  obtain ⟨B, eB⟩ : ∃ B, nb x = B := ⟨_, rfl⟩
  rw [eB] at HBS hnb HNX
  clear h h2 hx hy hy2 eB
  obtain ⟨W0, hW0⟩ : ∃ W0, W0 = (((w.alloc (.cells #[.slice p n c] 24)).alloc (.cells #[.slice q m d] 24)).alloc (.cells #[.slice none 0 0] 24)).alloc (.cells #[.slice none 0 0] 24) := ⟨_, rfl⟩
  have e0 : W0.heap.size = w.heap.size + 1 + 1 + 1 + 1 := by rw [hW0]; simp
  have k1 : W0.cell? ⟨w.heap.size, 0, none⟩ = some (.slice p n c) := by rw [hW0]; simp [go_sem]
  have k2 : W0.cell? ⟨w.heap.size + 1, 0, none⟩ = some (.slice q m d) := by rw [hW0]; simp [go_sem]
  have k3 : W0.cell? ⟨w.heap.size + 1 + 1, 0, none⟩ = some (.slice none 0 0) := by rw [hW0]; simp [go_sem]
  have k4 : W0.cell? ⟨w.heap.size + 1 + 1 + 1, 0, none⟩ = some (.slice none 0 0) := by rw [hW0]; simp [go_sem]
  have f3 : W0.frozen? ⟨w.heap.size + 1 + 1, 0, none⟩ = false := by rw [hW0]; simp [go_sem]
  have f4 : W0.frozen? ⟨w.heap.size + 1 + 1 + 1, 0, none⟩ = false := by rw [hW0]; simp [go_sem]
  have GW : Hid (Gr w W0) := Lib.hid (by rw [hW0]; exact ((((Gr.refl w).alloc _).alloc _).alloc _).alloc _)
  have E0 := Lib.hid e0
  have K1 := Lib.hid k1
  have K2 := Lib.hid k2
  have K3 := Lib.hid k3
  have K4 := Lib.hid k4
  have F3 := Lib.hid f3
  have F4 := Lib.hid f4
  clear e0 k2 k3 k4 f3 f4
  go_enter Try.func45, Try.ntmps45
  go_upto_region 1 with fail
  rw [← hW0]
  clear hW0
  go_wp2_with (refine wpList_make_full _ rfl _ _ _ rfl W0.heap.size 62 i0 (.int .u32 0) 1 Try.underlying22 hi hz0 hz1 .i64 .i64 _ _ n rfl rfl (by omega) (by omega) (by rw [hz2]; omega) (by unfold maxLen; omega) (Nat.le_refl _) ?_; intro w3 hown hgrow; have HO := Lib.hid hown; have G3 := Lib.hid (Gr.grown hgrow); have c1 := (((Gr.refl w3).alloc (.cells #[.slice none 0 0] 24)).cell (G3.out.cell k1)); clear hown hgrow)
  have GA := Lib.hid ((Gr.refl w3).alloc (.cells #[.slice none 0 0] 24))
  have c7 : (w3.alloc (.cells #[.slice none 0 0] 24)).cell? ⟨w3.heap.size, 0, none⟩ = some (.slice none 0 0) := by simp [go_sem]
  have f7 : (w3.alloc (.cells #[.slice none 0 0] 24)).frozen? ⟨w3.heap.size, 0, none⟩ = false := by simp [go_sem]
  refine (HBS.out _ (GW.out.trans (G3.out.trans GA.out))).mono ?_
  rintro e w5 ⟨rfl, hg⟩
  have HC7 := Lib.hid (hg.cell c7)
  have HF7 := Lib.hid (hg.frozen c7 f7)
  have H5 : Hid (Gr W0 w5) := Lib.hid ((G3.out.trans GA.out).trans hg)
  have HH5 : Hid (Hold w5 W0.heap.size 0 (List.replicate n 0)) := Lib.hid (((hold_made HO.out).grow GA.out).grow hg)
  have HS5 : Hid (w3.heap.size + 1 ≤ w5.heap.size) := Lib.hid (by have := hg.le; simp at this; exact this)
  have hgb : W0.heap.size ≤ w3.heap.size := G3.out.le
  have hgn : 0 < n → W0.heap.size ≠ w3.heap.size := fun h0 e => by
    have := World.block_lt_of_cell? w3 _ ((hold_made HO.out) 0 (by simpa using h0)).1
    simp at this
    omega
  obtain ⟨g, hgg⟩ : ∃ g, W0.heap.size = g := ⟨_, rfl⟩
  obtain ⟨R, hR⟩ : ∃ R, w3.heap.size = R := ⟨_, rfl⟩
  rw [hgg] at hgb hgn HH5 ⊢
  rw [hR] at hgb hgn HC7 HF7 HS5 ⊢
  have HGG := Lib.hid hgg
  have HGB := Lib.hid hgb
  have HGN := Lib.hid hgn
  clear hg c1 c7 f7 hgb hgn hgg hR k1 HO GA G3
  go_wp2
  go_loopw [8] (fun i wr => ∃ (k : Nat) (qs : List Nat) (pr : Option Addr) (nr cr : Nat), k ≤ B ∧ (k = 0 ∧ i = .int .i64 (-1) ∨ ∃ j : Nat, k = j + 1 ∧ i = .int .i64 (j : Int)) ∧ Hid (DvAt x y n k qs) ∧ Hid (Hold wr g 0 qs) ∧ Hid (wr.cell? ⟨R, 0, none⟩ = some (.slice pr nr cr)) ∧ Hid (wr.frozen? ⟨R, 0, none⟩ = false) ∧ Hid (Nr (R + 1) wr pr nr cr (digs (x / 2 ^ k % y))) ∧ Hid (Gr W0 wr) ∧ Hid (R + 1 ≤ wr.heap.size)) (fun i _ => (intOf i + 1).toNat)
  case atStart =>
    refine ⟨B, List.replicate n 0, none, 0, 0, Nat.le_refl _, ?_, ⟨by simp, ok_replicate n, by rw [HNX.out, Nat.zero_div, Nat.zero_mul]; exact val_replicate n⟩, HH5, HC7, HF7, by rw [HNX.out, Nat.zero_mod, digs_zero]; exact Nr.zero _ _, H5, HS5⟩
    rcases Nat.eq_zero_or_pos B with h0 | h0
    · exact .inl ⟨h0, by subst h0; rfl⟩
    · exact .inr ⟨B - 1, by omega, by congr 1; omega⟩
  case round =>
    obtain ⟨k, qs, pr, nr, cr, hk, hik, HD, HH, HC, HF, HNR, HG, HSZ⟩ := hrel
    have HGw := Lib.hid (GW.out.trans HG.out)
    rcases hik with ⟨rfl, rfl⟩ | ⟨j, rfl, rfl⟩
    · skip
      have HQ : Hid (val qs = x / y) := Lib.hid (by rw [HD.out.2.2, Nat.pow_zero, Nat.div_one, Nat.mul_one])
      have HR0 : Hid (Nr (R + 1) wr pr nr cr (digs (x % y))) := Lib.hid (by have := HNR.out; rwa [Nat.pow_zero, Nat.div_one] at this)
      have HOK := Lib.hid HD.out.2.1
      have HLN := Lib.hid HD.out.1
      have HE4 : Hid (w.heap.size + 1 + 1 + 1 + 1 ≤ R) := Lib.hid (by rw [← E0.out, HGG.out]; exact HGB.out)
      have Z7 : wr.drew.cell? ⟨R, 0, none⟩ = some (.slice pr nr cr) := HC.out
      have Z3 : wr.drew.cell? ⟨w.heap.size + 1 + 1, 0, none⟩ = some (.slice none 0 0) := HG.out.cell K3.out
      have Z4 : wr.drew.cell? ⟨w.heap.size + 1 + 1 + 1, 0, none⟩ = some (.slice none 0 0) := HG.out.cell K4.out
      have V3 : wr.drew.frozen? ⟨w.heap.size + 1 + 1, 0, none⟩ = false := HG.out.frozen K3.out F3.out
      have V4 : wr.drew.frozen? ⟨w.heap.size + 1 + 1 + 1, 0, none⟩ = false := HG.out.frozen K4.out F4.out
      have HTR := Lib.hid (rtrim_any (some ⟨g, 0, none⟩) n n qs wr.drew (hold_nw (show Hold wr.drew g 0 qs from HH.out) HLN.out HOK.out (by omega)))
      go_wp2_with fail
      have hf2 : w.heap.size + 1 + 1 ≠ R := by have := HE4.out; omega
      have hf3 : w.heap.size + 1 + 1 + 1 ≠ R := by have := HE4.out; omega
      first
      | (go_region_held3 (fun W' => W'.cell? ⟨R, 0, none⟩ = some (.slice pr nr cr))
          (first | exact Z7 | assumption | (refine cell_far hf2 ?_; assumption) | (refine cell_far hf3 ?_; assumption) | (refine cell_far hf3 (cell_far hf2 ?_); assumption) | (refine cell_far hf2 (cell_far hf3 ?_); assumption))
          (first
          | (go_at_call 86; refine HTR.out.mono ?_; rintro e y1 ⟨p5, n5, c5, rfl, hr, hg1⟩; have x7 := hg1.cell (p := ⟨R, 0, none⟩) (v := .slice pr nr cr) Z7; have x3 := hg1.cell (p := ⟨w.heap.size + 1 + 1, 0, none⟩) (v := .slice none 0 0) Z3; have x4 := hg1.cell (p := ⟨w.heap.size + 1 + 1 + 1, 0, none⟩) (v := .slice none 0 0) Z4; have u3 := hg1.frozen (p := ⟨w.heap.size + 1 + 1, 0, none⟩) (v := .slice none 0 0) Z3 V3; have u4 := hg1.frozen (p := ⟨w.heap.size + 1 + 1 + 1, 0, none⟩) (v := .slice none 0 0) Z4 V4; have HGY := Lib.hid ((GW.out.trans HG.out).trans (Gr.trans (Gr.refl wr).drew hg1)); have HRY := Lib.hid (HR0.out.grow (Gr.trans (Gr.refl wr).drew hg1)); have HQY : Hid (Nr (R + 1) y1 p5 n5 c5 (digs (x / y))) := Lib.hid (by rw [← HQ.out]; exact hr.mono HSZ.out); clear hr)))
      | fail
      all_goals
        go_wp2
        have h3 : w.heap.size + 1 + 1 ≤ R := by have := HE4.out; omega
        have h4 : w.heap.size + 1 + 1 + 1 ≤ R := by have := HE4.out; omega
        refine bodyPost_ret (v := .tuple #[.agg #[.slice p5 n5 c5], .agg #[.slice pr nr cr]]) (by simp [results, Try.results45, go_sem, x3, x4]) rfl ⟨p5, pr, n5, c5, nr, cr, rfl, ?_, ?_, (HGY.out.setCell (by simp; omega) _).setCell (by simp; omega) _⟩
        · have q1 := HQY.out.set' ⟨w.heap.size + 1 + 1, 0, none⟩ (.slice p5 n5 c5) (fun x e => own_ne2 HQY.out h3 e) (tight_digs _)
          exact (q1.set' _ _ (fun x e => own_ne2 q1 h4 e) (tight_digs _)).mono (by omega)
        · have q1 := HRY.out.set' ⟨w.heap.size + 1 + 1, 0, none⟩ (.slice p5 n5 c5) (fun x e => own_ne2 HRY.out h3 e) (tight_digs _)
          exact (q1.set' _ _ (fun x e => own_ne2 q1 h4 e) (tight_digs _)).mono (by omega)
    · obtain ⟨rv, hrv⟩ : ∃ rv, x / 2 ^ (j + 1) % y = rv := ⟨_, rfl⟩
      have hry : rv < y := by rw [← hrv]; exact Nat.mod_lt _ HY.out
      rw [hrv] at HNR
      have hnr : nr ≤ 1000 := by
        have := (digs_length_le rv 64).2 (Nat.lt_trans hry HY2.out)
        rw [HNR.out.len] at this
        omega
      obtain ⟨v2, hv2⟩ : ∃ v2, 2 * rv + (x.testBit j).toNat = v2 := ⟨_, rfl⟩
      have HV2 : Hid (v2 = 2 * (x / 2 ^ (j + 1) % y) + (x.testBit j).toNat) := Lib.hid (by rw [hrv]; exact hv2.symm)
      have HVV := Lib.hid hv2
      have hjn : j / 32 < n := by omega
      have hj0 : (0 : Int) ≤ (j : Int) := by omega
      have b1 := HG.out.cell K1.out
      have b7 := HC.out
      have e7 := HF.out
      clear hrv hry hv2
      go_upto_region 6 with fail
      go_cut [] from 16 to 43 (fun W => ∃ (p2 : Option Addr) (n2 c2 : Nat), Hid (W.cell? ⟨R, 0, none⟩ = some (.slice p2 n2 c2)) ∧ Hid (W.frozen? ⟨R, 0, none⟩ = false) ∧ Hid (Nr (R + 1) W p2 n2 c2 (digs v2)) ∧ Hid (Hold W g 0 qs) ∧ Hid (Gr W0 W) ∧ Hid (R + 1 ≤ W.heap.size))
      case first =>
        have Z1 : wr.drew.cell? ⟨w.heap.size, 0, none⟩ = some (.slice p n c) := b1
        have Z7 : wr.drew.cell? ⟨R, 0, none⟩ = some (.slice pr nr cr) := b7
        have V7 : wr.drew.frozen? ⟨R, 0, none⟩ = false := e7
        have GD : Gr w wr.drew := HGw.out.drew
        clear b1 b7 e7
        go_region_with (first
          | (go_at_call 31; refine (HBT.out j _ ?_).mono ?_; assumption; rintro e y1 ⟨rfl, hg1⟩; have z1 := hg1.cell (p := ⟨w.heap.size, 0, none⟩) (v := .slice p n c) (by assumption); have z7 := hg1.cell (p := ⟨R, 0, none⟩) (v := .slice pr nr cr) (by assumption); have v7 := hg1.frozen (p := ⟨R, 0, none⟩) (v := .slice pr nr cr) (by assumption) (by assumption); have r1 := Lib.hid (HNR.out.grow (Gr.trans (Gr.refl wr).drew hg1)); have q1 : Gr wr y1 := Gr.trans (Gr.refl wr).drew hg1)
          | (go_at_call 100; refine (rtwice_v pr nr cr rv (x.testBit j) hnr _ r1.out.toNw).mono ?_; rintro e y2 ⟨p2, n2, c2, rfl, hr2, hg2⟩; have x7 := hg2.cell (p := ⟨R, 0, none⟩) (v := .slice pr nr cr) (by assumption); have u7 := hg2.frozen (p := ⟨R, 0, none⟩) (v := .slice pr nr cr) (by assumption) (by assumption); have q2 : Gr wr y2 := Gr.trans q1 hg2; have s2 := Lib.hid (hr2.mono (Nat.le_trans HSZ.out q1.le))))
        all_goals
          go_wp2_with fail
          go_meet
          have hN2 : Hid (Nr (R + 1) y2 p2 n2 c2 (digs v2)) := Lib.hid (by rw [← HVV.out]; exact s2.out)
          refine ⟨p2, n2, c2, World.cell?_setCell_same' _ _ _ (by rw [x7]; rfl), by show World.frozen? _ _ = false; rw [World.frozen?_setCell]; exact u7, hN2.out.set' _ _ (fun x e => own_ne hN2.out e) (tight_digs _), hold_far (HH.out.grow q2) (fun h0 => HGN.out (by rw [← HD.out.1]; exact h0)), (HG.out.trans q2).setCell (by rw [HGG.out]; exact HGB.out) _, ?_⟩
          show R + 1 ≤ (World.setCell _ _ _).heap.size
          simp only [World.setCell, Array.size_modify]
          exact Nat.le_trans HSZ.out q2.le
      case rest =>
        obtain ⟨p2, n2, c2, HC2, HF2, HN2, HH2, HG2, HZ2⟩ := hcut
        have HGw2 := Lib.hid (GW.out.trans HG2.out)
        have b1 := HG2.out.cell K1.out
        have b2 := HG2.out.cell K2.out
        have b7 := HC2.out
        go_wp2_with fail
        refine (rlonger_v p2 q n2 c2 m d v2 y HY2.out _ HN2.out.toNw (HB.out.grow HGw2.out)).mono ?_
        rintro e y3 ⟨rfl, hg3⟩
        have c7 := hg3.cell HC2.out
        have e7 := hg3.frozen HC2.out HF2.out
        have d2 := hg3.cell b2
        have HN3 := Lib.hid (HN2.out.grow hg3)
        have HH3 : Hid (Hold y3 g 0 qs) := Lib.hid (HH2.out.grow hg3)
        have HG3 := Lib.hid (HG2.out.trans hg3)
        have HZ3 := Lib.hid (Nat.le_trans HZ2.out hg3.le)
        clear b1 b2 b7 hg3
        by_cases hge : y ≤ v2
        · rw [decide_eq_true hge]
          obtain ⟨hsum, hST, hmod⟩ := HD.out.take HY.out HV2.out hge hjn
          have hn2 : n2 ≤ 1000 := by
            have h1 := dv_lt HY.out HV2.out
            have h2 : v2 < pw 65 := by
              have e : pw 65 = pw 64 * 4294967296 := by rw [show 65 = 64 + 1 from rfl, pw_add]; rfl
              have := HY2.out
              omega
            have := (digs_length_le v2 65).2 h2
            rw [HN3.out.len] at this
            omega
          have HGw3 := Lib.hid (GW.out.trans HG3.out)
          go_wp2_with fail
          refine (rsub_v p2 q n2 c2 m d v2 y hn2 hge _ HN3.out.toNw (HB.out.grow HGw3.out)).mono ?_
          rintro e y4 ⟨p4, n4, c4, rfl, hr4, hg4⟩
          have a7 := hg4.cell c7
          have i7 := hg4.frozen c7 e7
          have HR4 : Hid (Nr (R + 1) y4 p4 n4 c4 (digs (x / 2 ^ j % y))) := Lib.hid (by rw [hmod]; exact hr4.mono HZ3.out)
          have HH4 : Hid (Hold y4 g 0 qs) := Lib.hid (HH3.out.grow hg4)
          have HG4 := Lib.hid (HG3.out.trans hg4)
          have HZ4 := Lib.hid (Nat.le_trans HZ3.out hg4.le)
          have HGR : Hid (g ≠ R) := Lib.hid (HGN.out (by omega))
          have HLQ : Hid (j / 32 < qs.length) := Lib.hid (by rw [HD.out.1]; exact hjn)
          have HH9 : Hid (Hold (y4.setCell ⟨R, 0, none⟩ (.slice p4 n4 c4)) g 0 qs) := Lib.hid (hold_far HH4.out (fun _ => HGR.out))
          have HR9 : Hid (Nr (R + 1) (y4.setCell ⟨R, 0, none⟩ (.slice p4 n4 c4)) p4 n4 c4 (digs (x / 2 ^ j % y))) := Lib.hid (HR4.out.set' _ _ (fun x e => own_ne HR4.out e) (tight_digs _))
          have HC9 : Hid ((y4.setCell ⟨R, 0, none⟩ (.slice p4 n4 c4)).cell? ⟨R, 0, none⟩ = some (.slice p4 n4 c4)) := Lib.hid (World.cell?_setCell_same' _ _ _ (by rw [a7]; rfl))
          have HF9 : Hid ((y4.setCell ⟨R, 0, none⟩ (.slice p4 n4 c4)).frozen? ⟨R, 0, none⟩ = false) := Lib.hid (by rw [World.frozen?_setCell]; exact i7)
          have HG9 : Hid (Gr W0 (y4.setCell ⟨R, 0, none⟩ (.slice p4 n4 c4))) := Lib.hid (HG4.out.setCell (by rw [HGG.out]; exact HGB.out) _)
          have HZ9 : Hid (R + 1 ≤ (y4.setCell ⟨R, 0, none⟩ (.slice p4 n4 c4)).heap.size) := Lib.hid (by simp only [World.setCell, Array.size_modify]; exact HZ4.out)
          obtain ⟨hco, hcf⟩ := hold_at HH9.out HLQ.out
          have HSN := Lib.hid hST
          obtain ⟨q', hq⟩ : ∃ q', j / 32 = q' := ⟨_, rfl⟩
          obtain ⟨t, ht⟩ : ∃ t, j % 32 = t := ⟨_, rfl⟩
          rw [hq] at HSN hsum hco hcf HLQ
          rw [ht] at HSN hsum
          obtain ⟨o, ho⟩ : ∃ o, qs[q']?.getD 0 = o := ⟨_, rfl⟩
          rw [ho] at HSN hsum hco
          obtain ⟨P2, hP⟩ : ∃ P2, 2 ^ t = P2 := ⟨_, rfl⟩
          rw [hP] at HSN hsum
          have d1 : (j : Int) / 32 = (q' : Int) := by omega
          have d5 : (j : Int) % 32 = (t : Int) := by omega
          have d3 : (j : Int).tdiv 32 = (q' : Int) := by rw [Int.tdiv_eq_ediv_of_nonneg (by omega)]; exact d1
          have d4 : (j : Int).tmod 32 = (t : Int) := by rw [Int.tmod_eq_emod_of_nonneg (by omega)]; exact d5
          have w1 : IntKind.i64.wrap (q' : Int) = (q' : Int) := IntWalk.i64_in _ (by omega)
          have t0 : ¬ (t : Int) < 0 := by omega
          have t1 : (0 : Int) ≤ (t : Int) := by omega
          have t2 : t < 32 := by omega
          have P1 : (2 : Int) ^ t = (P2 : Int) := by rw [← hP, Int.natCast_pow]; rfl
          have P3 : IntKind.u32.wrap (P2 : Int) = (P2 : Int) := by rw [IntKind.wrap_u32]; omega
          have P4 : (P2 : Int) % 4294967296 = (P2 : Int) := by omega
          have P5 : IntKind.u32.wrap ((o : Int) + (P2 : Int)) = ((o + P2 : Nat) : Int) := by rw [IntKind.wrap_u32]; omega
          have P6 : ((o : Int) + (P2 : Int)) % 4294967296 = ((o + P2 : Nat) : Int) := by omega
          have q0 : (0 : Int) ≤ (q' : Int) := by omega
          have q1 : (q' : Int) < (n : Int) := by omega
          clear hST hmod hq ht ho hP hsum hr4 hg4 hge hn2
          go_wp2_with fail
          generalize y4.setCell ⟨R, 0, none⟩ (.slice p4 n4 c4) = W9 at HH9 HR9 HC9 HF9 HG9 HZ9 hco hcf ⊢
          clear a7 i7 c7 e7 d2
          go_region
          all_goals
            go_wp2
            go_roundw
            case rel =>
              refine ⟨j, qs.set q' (o + P2), p4, n4, c4, by omega, ?_, HSN, (show Hold _ g 0 _ from hold_set0 HH9.out HLQ.out), ?_, ?_, ?_, (HG9.out.setCell (by rw [HGG.out]; exact Nat.le_refl _) _).drew, ?_⟩
              · rcases Nat.eq_zero_or_pos j with h0 | h0
                · exact .inl ⟨h0, by subst h0; rfl⟩
                · exact .inr ⟨j - 1, by omega, by congr 1; omega⟩
              · show World.cell? _ _ = _
                exact (World.cell?_setCell_other _ _ _ _ (by intro e; injection e with e1; exact HGR.out e1)).trans HC9.out
              · show World.frozen? _ _ = _
                exact (World.frozen?_setCell _ _ _ _).trans HF9.out
              · have hs9 := HR9.out.set' ⟨g, q', none⟩ (.int .u32 ((o : Int) + (P2 : Int))) (fun x e => own_ne2 HR9.out HGB.out e) (tight_digs _)
                exact hs9.grow ((Gr.refl _).drew)
              · show R + 1 ≤ (World.setCell _ _ _).heap.size
                simp only [World.setCell, Array.size_modify]
                exact HZ9.out
            case measure => simp [intOf]
        · rw [decide_eq_false hge]
          obtain ⟨hSK, hmod⟩ := HD.out.skip HY.out HV2.out (by omega)
          have HSK := Lib.hid hSK
          have HN4 : Hid (Nr (R + 1) y3 p2 n2 c2 (digs (x / 2 ^ j % y))) := Lib.hid (by rw [hmod]; exact HN3.out)
          have HC7' := Lib.hid c7
          have HF7' := Lib.hid e7
          clear hSK hmod c7 e7 d2 hge
          go_wp2
          go_roundw
          case rel =>
            refine ⟨j, qs, p2, n2, c2, by omega, ?_, HSK, HH3, HC7', HF7', HN4, HG3, HZ3⟩
            rcases Nat.eq_zero_or_pos j with h0 | h0
            · exact .inl ⟨h0, by subst h0; rfl⟩
            · exact .inr ⟨j - 1, by omega, by congr 1; omega⟩
          case measure => simp [intOf]
end Go.Proofs.Ytiefnhpbniaklaa.Nr2
