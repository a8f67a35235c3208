/- The walk of NaturalProducts: Mul, Div and Shift return what is specified. -/
import Derived.Test.YtiefnhpbniaklaaNlintm
import Derived.Test.YtiefnhpbniaklaaNrmul
import Derived.Test.YtiefnhpbniaklaaNrshift2
import Derived.Test.YtiefnhpbniaklaaNrdiv
namespace Go.Proofs.Ytiefnhpbniaklaa.Nlprods
open Go.RowKit Go.Shelf Go.Proofs.Ytiefnhpbniaklaa.Nm Go.Proofs.Ytiefnhpbniaklaa.Ne Go.Proofs.Ytiefnhpbniaklaa.Nf Go.Proofs.Ytiefnhpbniaklaa.Nk Go.Proofs.Ytiefnhpbniaklaa.Nv Go.Proofs.Ytiefnhpbniaklaa.Nl Go.Proofs.Ytiefnhpbniaklaa.Nr2 Go.Proofs.Ytiefnhpbniaklaa.Nlints

/-- A shift in the range: the program and the reference give the same. -/
theorem shift_ex {w : World} {p : Option Addr} {n c x : Nat} (h : Nw w p n c (digs x)) (hx : x < pw 64) (M : Int) (h1 : -10000 ≤ M) (h2 : M ≤ 10000) :
    ∃ z e : Nat, e < 1000 ∧ (∀ W, Gr w W → Calls Try.prog 41 #[.agg #[.slice p n c], .int .i64 M] W (Gives z e W)) ∧
      (∀ W, Gr w W → Calls Try.prog 43 #[.agg #[.slice p n c], .int .i64 M] W (Gives z e W)) := by
  rcases Int.lt_or_le M 0 with h0 | h0
  · obtain ⟨N, hN⟩ := Int.eq_ofNat_of_zero_le (show 0 ≤ -M by omega)
    obtain rfl : M = -(N : Int) := by omega
    exact ⟨x / 2 ^ N, 0, by decide, fun W hW => Down_v N (by omega) (h.grow hW) hx, fun W hW => rshift_down p n c x N (by omega) hx W (h.grow hW)⟩
  · obtain ⟨N, rfl⟩ := Int.eq_ofNat_of_zero_le h0
    obtain ⟨z, e, hf⟩ := fits_ex (x * 2 ^ N)
    exact ⟨z, e, by rcases hf.code with h | h <;> omega, fun W hW => Up_v z e N (by omega) hf (h.grow hW) hx, fun W hW => rshift_up p n c x N z e (by omega) hf hx W (h.grow hW)⟩
theorem shift_out {w : World} {p : Option Addr} {n c x : Nat} (h : Nw w p n c (digs x)) (hx : x < pw 64) (M : Int) (hM : M < -10000 ∨ 10000 < M) :
    Calls Try.prog 41 #[.agg #[.slice p n c], .int .i64 M] w (Gives 0 2 w) :=
  (Shift_range p n c _ M (dv hx) hM w h).mono fun _ _ => failed_gives

set_option maxRecDepth 100000 in
set_option maxHeartbeats 40000000 in
theorem great (w : World) (ba bb : Option Addr) (na ca nb cb : Nat) (M : Int) (hg1 : 100 < na ∨ 100 < nb) : Calls Try.prog 5 #[.agg #[.slice ba na ca], .agg #[.slice bb nb cb], .int .i64 M] w fun e w' => e = .returned (.bool true) ∧ Gr w w' := by
  have HY := Lib.hid hg1
  have G := Lib.hid (Gr.refl w)
  clear hg1
  have k_a : ((w.alloc (.cells #[.slice ba na ca] 24)).alloc (.cells #[.slice bb nb cb] 24)).cell? ⟨w.heap.size, 0, none⟩ = some (.slice ba na ca) := by simp [go_sem]
  have k_b : ((w.alloc (.cells #[.slice ba na ca] 24)).alloc (.cells #[.slice bb nb cb] 24)).cell? ⟨w.heap.size + 1, 0, none⟩ = some (.slice bb nb cb) := by simp [go_sem]
  go_enter Try.func5, Try.ntmps5
  go_wp2_with fail
  refine (awake_any _).mono ?_
  rintro e w1 ⟨rfl, hg⟩
  replace k_a := hg.cell k_a
  replace k_b := hg.cell k_b
  have gg := (((Gr.refl w).alloc (.cells #[.slice ba na ca] 24)).alloc (.cells #[.slice bb nb cb] 24)).trans hg
  replace G := Lib.hid (G.out.trans gg)
  clear hg gg
  go_wp2_with fail
  replace k_a := ((Gr.refl w1).alloc (.cells #[.slice ba na ca, .slice bb nb cb] 24)).cell k_a
  replace k_b := ((Gr.refl w1).alloc (.cells #[.slice ba na ca, .slice bb nb cb] 24)).cell k_b
  refine (great_yes (n := 2) (c := 2) rfl (by decide) (nats2 w1 ba bb na ca nb cb) (gt2 HY.out)).mono ?_
  rintro e w2 ⟨rfl, hg⟩
  replace k_a := hg.cell k_a
  replace k_b := hg.cell k_b
  have gg := ((Gr.refl w1).alloc (.cells #[.slice ba na ca, .slice bb nb cb] 24)).trans hg
  replace G := Lib.hid (G.out.trans gg)
  clear hg gg
  go_wp2
  go_ret
  exact ⟨rfl, G.out⟩

set_option maxRecDepth 100000 in
set_option maxHeartbeats 40000000 in
theorem bad_a (w : World) (ba bb : Option Addr) (na ca nb cb : Nat) (M : Int) (la lb : List Nat) (ha : Nw w ba na ca la) (hb : Nw w bb nb cb lb) (va : decide (valid la) = false) (sa : na ≤ 100) (sb : nb ≤ 100) : Calls Try.prog 5 #[.agg #[.slice ba na ca], .agg #[.slice bb nb cb], .int .i64 M] w fun e w' => e = .returned (.bool true) ∧ Gr w w' := by
  have G := Lib.hid (Gr.refl w)
  have R_a := Lib.hid ha
  have R_b := Lib.hid hb
  have Sa := Lib.hid sa
  have Sb := Lib.hid sb
  have VA := Lib.hid va
  clear ha hb sa sb va
  have k_a : ((w.alloc (.cells #[.slice ba na ca] 24)).alloc (.cells #[.slice bb nb cb] 24)).cell? ⟨w.heap.size, 0, none⟩ = some (.slice ba na ca) := by simp [go_sem]
  have k_b : ((w.alloc (.cells #[.slice ba na ca] 24)).alloc (.cells #[.slice bb nb cb] 24)).cell? ⟨w.heap.size + 1, 0, none⟩ = some (.slice bb nb cb) := by simp [go_sem]
  go_enter Try.func5, Try.ntmps5
  go_wp2_with fail
  refine (awake_any _).mono ?_
  rintro e w1 ⟨rfl, hg⟩
  replace k_a := hg.cell k_a
  replace k_b := hg.cell k_b
  have gg := (((Gr.refl w).alloc (.cells #[.slice ba na ca] 24)).alloc (.cells #[.slice bb nb cb] 24)).trans hg
  replace R_a := Lib.hid (R_a.out.grow gg)
  replace R_b := Lib.hid (R_b.out.grow gg)
  replace G := Lib.hid (G.out.trans gg)
  clear hg gg
  have sa := Sa.out
  have sb := Sb.out
  go_wp2_with fail
  replace k_a := ((Gr.refl w1).alloc (.cells #[.slice ba na ca, .slice bb nb cb] 24)).cell k_a
  replace k_b := ((Gr.refl w1).alloc (.cells #[.slice ba na ca, .slice bb nb cb] 24)).cell k_b
  refine (great_no (n := 2) (c := 2) rfl (by decide) (nats2 w1 ba bb na ca nb cb) (le2 sa sb)).mono ?_
  rintro e w2 ⟨rfl, hg⟩
  replace k_a := hg.cell k_a
  replace k_b := hg.cell k_b
  have gg := ((Gr.refl w1).alloc (.cells #[.slice ba na ca, .slice bb nb cb] 24)).trans hg
  replace R_a := Lib.hid (R_a.out.grow gg)
  replace R_b := Lib.hid (R_b.out.grow gg)
  replace G := Lib.hid (G.out.trans gg)
  clear hg gg
  clear sa sb
  go_wp2_with fail
  refine (Mul_bad _ _ _ _ _ _ _ _ _ (R_a.out.grow (Gr.refl w2)) (R_b.out.grow (Gr.refl w2)) (.inl VA.out)).mono ?_
  rintro e w3 ⟨rfl, hg⟩
  replace k_a := hg.cell k_a
  replace k_b := hg.cell k_b
  have gg := (Gr.refl w2).trans hg
  replace R_a := Lib.hid (R_a.out.grow gg)
  replace R_b := Lib.hid (R_b.out.grow gg)
  replace G := Lib.hid (G.out.trans gg)
  clear hg gg
  replace k_a := ((Gr.refl w3).alloc (.cells #[.slice none 0 0] 24)).cell k_a
  replace k_b := ((Gr.refl w3).alloc (.cells #[.slice none 0 0] 24)).cell k_b
  have k_p : (w3.alloc (.cells #[.slice none 0 0] 24)).cell? ⟨w3.heap.size, 0, none⟩ = some (.slice none 0 0) := by simp [go_sem]
  go_wp2_with fail
  refine (Div_bad _ _ _ _ _ _ _ _ _ (R_a.out.grow ((Gr.refl w3).alloc (.cells #[.slice none 0 0] 24))) (R_b.out.grow ((Gr.refl w3).alloc (.cells #[.slice none 0 0] 24))) (.inl VA.out)).mono ?_
  rintro e w4 ⟨rfl, hg⟩
  replace k_a := hg.cell k_a
  replace k_b := hg.cell k_b
  replace k_p := hg.cell k_p
  have gg := ((Gr.refl w3).alloc (.cells #[.slice none 0 0] 24)).trans hg
  replace R_a := Lib.hid (R_a.out.grow gg)
  replace R_b := Lib.hid (R_b.out.grow gg)
  replace G := Lib.hid (G.out.trans gg)
  clear hg gg
  replace k_a := ((Gr.refl w4).alloc (.cells #[.slice none 0 0] 24)).cell k_a
  replace k_b := ((Gr.refl w4).alloc (.cells #[.slice none 0 0] 24)).cell k_b
  replace k_p := ((Gr.refl w4).alloc (.cells #[.slice none 0 0] 24)).cell k_p
  have k_q : (w4.alloc (.cells #[.slice none 0 0] 24)).cell? ⟨w4.heap.size, 0, none⟩ = some (.slice none 0 0) := by simp [go_sem]
  replace k_a := ((Gr.refl (w4.alloc (.cells #[.slice none 0 0] 24))).alloc (.cells #[.slice none 0 0] 24)).cell k_a
  replace k_b := ((Gr.refl (w4.alloc (.cells #[.slice none 0 0] 24))).alloc (.cells #[.slice none 0 0] 24)).cell k_b
  replace k_p := ((Gr.refl (w4.alloc (.cells #[.slice none 0 0] 24))).alloc (.cells #[.slice none 0 0] 24)).cell k_p
  replace k_q := ((Gr.refl (w4.alloc (.cells #[.slice none 0 0] 24))).alloc (.cells #[.slice none 0 0] 24)).cell k_q
  have k_r : ((w4.alloc (.cells #[.slice none 0 0] 24)).alloc (.cells #[.slice none 0 0] 24)).cell? ⟨w4.heap.size + 1, 0, none⟩ = some (.slice none 0 0) := by simp [go_sem]
  go_wp2_with fail
  refine (Shift_bad _ _ _ _ _ VA.out _ (R_a.out.grow (((Gr.refl w4).alloc (.cells #[.slice none 0 0] 24)).alloc (.cells #[.slice none 0 0] 24)))).mono ?_
  rintro e w5 ⟨rfl, hg⟩
  replace k_a := hg.cell k_a
  replace k_b := hg.cell k_b
  replace k_p := hg.cell k_p
  replace k_q := hg.cell k_q
  replace k_r := hg.cell k_r
  have gg := (((Gr.refl w4).alloc (.cells #[.slice none 0 0] 24)).alloc (.cells #[.slice none 0 0] 24)).trans hg
  replace R_a := Lib.hid (R_a.out.grow gg)
  replace R_b := Lib.hid (R_b.out.grow gg)
  replace G := Lib.hid (G.out.trans gg)
  clear hg gg
  replace k_a := ((Gr.refl w5).alloc (.cells #[.slice none 0 0] 24)).cell k_a
  replace k_b := ((Gr.refl w5).alloc (.cells #[.slice none 0 0] 24)).cell k_b
  replace k_p := ((Gr.refl w5).alloc (.cells #[.slice none 0 0] 24)).cell k_p
  replace k_q := ((Gr.refl w5).alloc (.cells #[.slice none 0 0] 24)).cell k_q
  replace k_r := ((Gr.refl w5).alloc (.cells #[.slice none 0 0] 24)).cell k_r
  have k_s : (w5.alloc (.cells #[.slice none 0 0] 24)).cell? ⟨w5.heap.size, 0, none⟩ = some (.slice none 0 0) := by simp [go_sem]
  go_wp2_with fail
  refine (RValid_no (R_a.out.grow ((Gr.refl w5).alloc (.cells #[.slice none 0 0] 24))) VA.out).mono ?_
  rintro e w6 ⟨rfl, hg⟩
  replace k_a := hg.cell k_a
  replace k_b := hg.cell k_b
  replace k_p := hg.cell k_p
  replace k_q := hg.cell k_q
  replace k_r := hg.cell k_r
  replace k_s := hg.cell k_s
  have gg := ((Gr.refl w5).alloc (.cells #[.slice none 0 0] 24)).trans hg
  replace R_a := Lib.hid (R_a.out.grow gg)
  replace R_b := Lib.hid (R_b.out.grow gg)
  replace G := Lib.hid (G.out.trans gg)
  clear hg gg
  go_wp2_with fail
  refine (is_lit (x := 0) 1 1 rfl (by decide) (by rw [digs_zero]; exact Nw.zero _) (by rw [digs_zero]; exact Nw.zero _)).mono ?_
  rintro e w7 ⟨rfl, hg⟩
  replace k_a := hg.cell k_a
  replace k_b := hg.cell k_b
  replace k_p := hg.cell k_p
  replace k_q := hg.cell k_q
  replace k_r := hg.cell k_r
  replace k_s := hg.cell k_s
  have gg := (Gr.refl w6).trans hg
  replace R_a := Lib.hid (R_a.out.grow gg)
  replace R_b := Lib.hid (R_b.out.grow gg)
  replace G := Lib.hid (G.out.trans gg)
  clear hg gg
  go_wp2_with fail
  refine (is_lit (x := 0) 1 1 rfl (by decide) (by rw [digs_zero]; exact Nw.zero _) (by rw [digs_zero]; exact Nw.zero _)).mono ?_
  rintro e w8 ⟨rfl, hg⟩
  replace k_a := hg.cell k_a
  replace k_b := hg.cell k_b
  replace k_p := hg.cell k_p
  replace k_q := hg.cell k_q
  replace k_r := hg.cell k_r
  replace k_s := hg.cell k_s
  have gg := (Gr.refl w7).trans hg
  replace R_a := Lib.hid (R_a.out.grow gg)
  replace R_b := Lib.hid (R_b.out.grow gg)
  replace G := Lib.hid (G.out.trans gg)
  clear hg gg
  go_wp2_with fail
  refine (Same_v_eq (x := 0) (y := 0) rfl (by rw [digs_zero]; exact Nw.zero _) (by rw [digs_zero]; exact Nw.zero _)).mono ?_
  rintro e w9 ⟨rfl, hg⟩
  replace k_a := hg.cell k_a
  replace k_b := hg.cell k_b
  replace k_p := hg.cell k_p
  replace k_q := hg.cell k_q
  replace k_r := hg.cell k_r
  replace k_s := hg.cell k_s
  have gg := (Gr.refl w8).trans hg
  replace R_a := Lib.hid (R_a.out.grow gg)
  replace R_b := Lib.hid (R_b.out.grow gg)
  replace G := Lib.hid (G.out.trans gg)
  clear hg gg
  go_wp2_with fail
  refine (is_lit (x := 0) 1 1 rfl (by decide) (by rw [digs_zero]; exact Nw.zero _) (by rw [digs_zero]; exact Nw.zero _)).mono ?_
  rintro e w10 ⟨rfl, hg⟩
  replace k_a := hg.cell k_a
  replace k_b := hg.cell k_b
  replace k_p := hg.cell k_p
  replace k_q := hg.cell k_q
  replace k_r := hg.cell k_r
  replace k_s := hg.cell k_s
  have gg := (Gr.refl w9).trans hg
  replace R_a := Lib.hid (R_a.out.grow gg)
  replace R_b := Lib.hid (R_b.out.grow gg)
  replace G := Lib.hid (G.out.trans gg)
  clear hg gg
  go_wp2
  go_ret
  exact ⟨rfl, G.out⟩

set_option maxRecDepth 100000 in
set_option maxHeartbeats 40000000 in
theorem ok_lo_bad (w : World) (ba bb : Option Addr) (na ca nb cb : Nat) (M : Int) (x : Nat) (hx : x < pw 64) (ha : Nw w ba na ca (digs x)) (sa : na ≤ 100) (sb : nb ≤ 100) (hM : M < -10000) (lb : List Nat) (hb : Nw w bb nb cb lb) (vb : decide (valid lb) = false) : Calls Try.prog 5 #[.agg #[.slice ba na ca], .agg #[.slice bb nb cb], .int .i64 M] w fun e w' => e = .returned (.bool true) ∧ Gr w w' := by
  have G := Lib.hid (Gr.refl w)
  have R_a := Lib.hid ha
  have R_b := Lib.hid hb
  have Sa := Lib.hid sa
  have Sb := Lib.hid sb
  have HX := Lib.hid hx
  have HO : Hid (M < -10000 ∨ 10000 < M) := Lib.hid (.inl hM)
  have VB := Lib.hid vb
  clear ha hb sa sb hx vb
  have k_a : ((w.alloc (.cells #[.slice ba na ca] 24)).alloc (.cells #[.slice bb nb cb] 24)).cell? ⟨w.heap.size, 0, none⟩ = some (.slice ba na ca) := by simp [go_sem]
  have k_b : ((w.alloc (.cells #[.slice ba na ca] 24)).alloc (.cells #[.slice bb nb cb] 24)).cell? ⟨w.heap.size + 1, 0, none⟩ = some (.slice bb nb cb) := by simp [go_sem]
  go_enter Try.func5, Try.ntmps5
  go_wp2_with fail
  refine (awake_any _).mono ?_
  rintro e w1 ⟨rfl, hg⟩
  replace k_a := hg.cell k_a
  replace k_b := hg.cell k_b
  have gg := (((Gr.refl w).alloc (.cells #[.slice ba na ca] 24)).alloc (.cells #[.slice bb nb cb] 24)).trans hg
  replace R_a := Lib.hid (R_a.out.grow gg)
  replace R_b := Lib.hid (R_b.out.grow gg)
  replace G := Lib.hid (G.out.trans gg)
  clear hg gg
  have sa := Sa.out
  have sb := Sb.out
  go_wp2_with fail
  replace k_a := ((Gr.refl w1).alloc (.cells #[.slice ba na ca, .slice bb nb cb] 24)).cell k_a
  replace k_b := ((Gr.refl w1).alloc (.cells #[.slice ba na ca, .slice bb nb cb] 24)).cell k_b
  refine (great_no (n := 2) (c := 2) rfl (by decide) (nats2 w1 ba bb na ca nb cb) (le2 sa sb)).mono ?_
  rintro e w2 ⟨rfl, hg⟩
  replace k_a := hg.cell k_a
  replace k_b := hg.cell k_b
  have gg := ((Gr.refl w1).alloc (.cells #[.slice ba na ca, .slice bb nb cb] 24)).trans hg
  replace R_a := Lib.hid (R_a.out.grow gg)
  replace R_b := Lib.hid (R_b.out.grow gg)
  replace G := Lib.hid (G.out.trans gg)
  clear hg gg
  clear sa sb
  go_wp2_with fail
  refine (Mul_bad _ _ _ _ _ _ _ _ _ (R_a.out.grow (Gr.refl w2)) (R_b.out.grow (Gr.refl w2)) (.inr VB.out)).mono ?_
  rintro e w3 ⟨rfl, hg⟩
  replace k_a := hg.cell k_a
  replace k_b := hg.cell k_b
  have gg := (Gr.refl w2).trans hg
  replace R_a := Lib.hid (R_a.out.grow gg)
  replace R_b := Lib.hid (R_b.out.grow gg)
  replace G := Lib.hid (G.out.trans gg)
  clear hg gg
  replace k_a := ((Gr.refl w3).alloc (.cells #[.slice none 0 0] 24)).cell k_a
  replace k_b := ((Gr.refl w3).alloc (.cells #[.slice none 0 0] 24)).cell k_b
  have k_p : (w3.alloc (.cells #[.slice none 0 0] 24)).cell? ⟨w3.heap.size, 0, none⟩ = some (.slice none 0 0) := by simp [go_sem]
  go_wp2_with fail
  refine (Div_bad _ _ _ _ _ _ _ _ _ (R_a.out.grow ((Gr.refl w3).alloc (.cells #[.slice none 0 0] 24))) (R_b.out.grow ((Gr.refl w3).alloc (.cells #[.slice none 0 0] 24))) (.inr VB.out)).mono ?_
  rintro e w4 ⟨rfl, hg⟩
  replace k_a := hg.cell k_a
  replace k_b := hg.cell k_b
  replace k_p := hg.cell k_p
  have gg := ((Gr.refl w3).alloc (.cells #[.slice none 0 0] 24)).trans hg
  replace R_a := Lib.hid (R_a.out.grow gg)
  replace R_b := Lib.hid (R_b.out.grow gg)
  replace G := Lib.hid (G.out.trans gg)
  clear hg gg
  replace k_a := ((Gr.refl w4).alloc (.cells #[.slice none 0 0] 24)).cell k_a
  replace k_b := ((Gr.refl w4).alloc (.cells #[.slice none 0 0] 24)).cell k_b
  replace k_p := ((Gr.refl w4).alloc (.cells #[.slice none 0 0] 24)).cell k_p
  have k_q : (w4.alloc (.cells #[.slice none 0 0] 24)).cell? ⟨w4.heap.size, 0, none⟩ = some (.slice none 0 0) := by simp [go_sem]
  replace k_a := ((Gr.refl (w4.alloc (.cells #[.slice none 0 0] 24))).alloc (.cells #[.slice none 0 0] 24)).cell k_a
  replace k_b := ((Gr.refl (w4.alloc (.cells #[.slice none 0 0] 24))).alloc (.cells #[.slice none 0 0] 24)).cell k_b
  replace k_p := ((Gr.refl (w4.alloc (.cells #[.slice none 0 0] 24))).alloc (.cells #[.slice none 0 0] 24)).cell k_p
  replace k_q := ((Gr.refl (w4.alloc (.cells #[.slice none 0 0] 24))).alloc (.cells #[.slice none 0 0] 24)).cell k_q
  have k_r : ((w4.alloc (.cells #[.slice none 0 0] 24)).alloc (.cells #[.slice none 0 0] 24)).cell? ⟨w4.heap.size + 1, 0, none⟩ = some (.slice none 0 0) := by simp [go_sem]
  go_wp2_with fail
  refine (shift_out (R_a.out.grow (((Gr.refl w4).alloc (.cells #[.slice none 0 0] 24)).alloc (.cells #[.slice none 0 0] 24))) HX.out M HO.out).mono ?_
  rintro e w5 ⟨ps, ns, cs, rfl, hr_s, hg⟩
  replace k_a := hg.cell k_a
  replace k_b := hg.cell k_b
  replace k_p := hg.cell k_p
  replace k_q := hg.cell k_q
  replace k_r := hg.cell k_r
  have gg := (((Gr.refl w4).alloc (.cells #[.slice none 0 0] 24)).alloc (.cells #[.slice none 0 0] 24)).trans hg
  replace R_a := Lib.hid (R_a.out.grow gg)
  replace R_b := Lib.hid (R_b.out.grow gg)
  replace G := Lib.hid (G.out.trans gg)
  have R_s := Lib.hid hr_s.toNw
  clear hr_s
  clear hg gg
  replace k_a := ((Gr.refl w5).alloc (.cells #[.slice ps ns cs] 24)).cell k_a
  replace k_b := ((Gr.refl w5).alloc (.cells #[.slice ps ns cs] 24)).cell k_b
  replace k_p := ((Gr.refl w5).alloc (.cells #[.slice ps ns cs] 24)).cell k_p
  replace k_q := ((Gr.refl w5).alloc (.cells #[.slice ps ns cs] 24)).cell k_q
  replace k_r := ((Gr.refl w5).alloc (.cells #[.slice ps ns cs] 24)).cell k_r
  have k_s : (w5.alloc (.cells #[.slice ps ns cs] 24)).cell? ⟨w5.heap.size, 0, none⟩ = some (.slice ps ns cs) := by simp [go_sem]
  go_wp2_with fail
  refine (RValid_v (R_a.out.grow ((Gr.refl w5).alloc (.cells #[.slice ps ns cs] 24))) HX.out).mono ?_
  rintro e w6 ⟨rfl, hg⟩
  replace k_a := hg.cell k_a
  replace k_b := hg.cell k_b
  replace k_p := hg.cell k_p
  replace k_q := hg.cell k_q
  replace k_r := hg.cell k_r
  replace k_s := hg.cell k_s
  have gg := ((Gr.refl w5).alloc (.cells #[.slice ps ns cs] 24)).trans hg
  replace R_a := Lib.hid (R_a.out.grow gg)
  replace R_b := Lib.hid (R_b.out.grow gg)
  replace R_s := Lib.hid (R_s.out.grow gg)
  replace G := Lib.hid (G.out.trans gg)
  clear hg gg
  go_wp2_with fail
  refine (is_lit (x := 0) 2 2 rfl (by decide) (R_s.out.grow (Gr.refl w6)) (by rw [digs_zero]; exact Nw.zero _)).mono ?_
  rintro e w7 ⟨rfl, hg⟩
  replace k_a := hg.cell k_a
  replace k_b := hg.cell k_b
  replace k_p := hg.cell k_p
  replace k_q := hg.cell k_q
  replace k_r := hg.cell k_r
  replace k_s := hg.cell k_s
  have gg := (Gr.refl w6).trans hg
  replace R_a := Lib.hid (R_a.out.grow gg)
  replace R_b := Lib.hid (R_b.out.grow gg)
  replace R_s := Lib.hid (R_s.out.grow gg)
  replace G := Lib.hid (G.out.trans gg)
  clear hg gg
  clear k_s
  clear R_s
  go_wp2_with fail
  refine (RValid_no (R_b.out.grow (Gr.refl w7)) VB.out).mono ?_
  rintro e w8 ⟨rfl, hg⟩
  replace k_a := hg.cell k_a
  replace k_b := hg.cell k_b
  replace k_p := hg.cell k_p
  replace k_q := hg.cell k_q
  replace k_r := hg.cell k_r
  have gg := (Gr.refl w7).trans hg
  replace R_a := Lib.hid (R_a.out.grow gg)
  replace R_b := Lib.hid (R_b.out.grow gg)
  replace G := Lib.hid (G.out.trans gg)
  clear hg gg
  go_wp2_with fail
  refine (is_lit (x := 0) 1 1 rfl (by decide) (by rw [digs_zero]; exact Nw.zero _) (by rw [digs_zero]; exact Nw.zero _)).mono ?_
  rintro e w9 ⟨rfl, hg⟩
  replace k_a := hg.cell k_a
  replace k_b := hg.cell k_b
  replace k_p := hg.cell k_p
  replace k_q := hg.cell k_q
  replace k_r := hg.cell k_r
  have gg := (Gr.refl w8).trans hg
  replace R_a := Lib.hid (R_a.out.grow gg)
  replace R_b := Lib.hid (R_b.out.grow gg)
  replace G := Lib.hid (G.out.trans gg)
  clear hg gg
  go_wp2_with fail
  refine (is_lit (x := 0) 1 1 rfl (by decide) (by rw [digs_zero]; exact Nw.zero _) (by rw [digs_zero]; exact Nw.zero _)).mono ?_
  rintro e w10 ⟨rfl, hg⟩
  replace k_a := hg.cell k_a
  replace k_b := hg.cell k_b
  replace k_p := hg.cell k_p
  replace k_q := hg.cell k_q
  replace k_r := hg.cell k_r
  have gg := (Gr.refl w9).trans hg
  replace R_a := Lib.hid (R_a.out.grow gg)
  replace R_b := Lib.hid (R_b.out.grow gg)
  replace G := Lib.hid (G.out.trans gg)
  clear hg gg
  go_wp2_with fail
  refine (Same_v_eq (x := 0) (y := 0) rfl (by rw [digs_zero]; exact Nw.zero _) (by rw [digs_zero]; exact Nw.zero _)).mono ?_
  rintro e w11 ⟨rfl, hg⟩
  replace k_a := hg.cell k_a
  replace k_b := hg.cell k_b
  replace k_p := hg.cell k_p
  replace k_q := hg.cell k_q
  replace k_r := hg.cell k_r
  have gg := (Gr.refl w10).trans hg
  replace R_a := Lib.hid (R_a.out.grow gg)
  replace R_b := Lib.hid (R_b.out.grow gg)
  replace G := Lib.hid (G.out.trans gg)
  clear hg gg
  go_wp2
  go_ret
  exact ⟨rfl, G.out⟩

set_option maxRecDepth 100000 in
set_option maxHeartbeats 40000000 in
theorem ok_lo_zero (w : World) (ba bb : Option Addr) (na ca nb cb : Nat) (M : Int) (x : Nat) (hx : x < pw 64) (ha : Nw w ba na ca (digs x)) (sa : na ≤ 100) (sb : nb ≤ 100) (hM : M < -10000) (hb : Nw w bb nb cb (digs 0)) : Calls Try.prog 5 #[.agg #[.slice ba na ca], .agg #[.slice bb nb cb], .int .i64 M] w fun e w' => e = .returned (.bool true) ∧ Gr w w' := by
  have G := Lib.hid (Gr.refl w)
  have R_a := Lib.hid ha
  have R_b := Lib.hid hb
  have Sa := Lib.hid sa
  have Sb := Lib.hid sb
  have HX := Lib.hid hx
  have HO : Hid (M < -10000 ∨ 10000 < M) := Lib.hid (.inl hM)
  obtain ⟨zm, em, f_m⟩ := fits_ex (x * 0)
  have FM := Lib.hid f_m
  have HEM : Hid (em < 1000) := Lib.hid (by rcases f_m.code with h | h <;> omega)
  clear f_m
  have hn0 : nb = 0 := (len_zero hb).2 rfl
  have hn : ((nb : Int) == 0) = true := by rw [hn0]; rfl
  clear hn0
  clear ha hb sa sb hx
  have k_a : ((w.alloc (.cells #[.slice ba na ca] 24)).alloc (.cells #[.slice bb nb cb] 24)).cell? ⟨w.heap.size, 0, none⟩ = some (.slice ba na ca) := by simp [go_sem]
  have k_b : ((w.alloc (.cells #[.slice ba na ca] 24)).alloc (.cells #[.slice bb nb cb] 24)).cell? ⟨w.heap.size + 1, 0, none⟩ = some (.slice bb nb cb) := by simp [go_sem]
  go_enter Try.func5, Try.ntmps5
  go_wp2_with fail
  refine (awake_any _).mono ?_
  rintro e w1 ⟨rfl, hg⟩
  replace k_a := hg.cell k_a
  replace k_b := hg.cell k_b
  have gg := (((Gr.refl w).alloc (.cells #[.slice ba na ca] 24)).alloc (.cells #[.slice bb nb cb] 24)).trans hg
  replace R_a := Lib.hid (R_a.out.grow gg)
  replace R_b := Lib.hid (R_b.out.grow gg)
  replace G := Lib.hid (G.out.trans gg)
  clear hg gg
  have sa := Sa.out
  have sb := Sb.out
  go_wp2_with fail
  replace k_a := ((Gr.refl w1).alloc (.cells #[.slice ba na ca, .slice bb nb cb] 24)).cell k_a
  replace k_b := ((Gr.refl w1).alloc (.cells #[.slice ba na ca, .slice bb nb cb] 24)).cell k_b
  refine (great_no (n := 2) (c := 2) rfl (by decide) (nats2 w1 ba bb na ca nb cb) (le2 sa sb)).mono ?_
  rintro e w2 ⟨rfl, hg⟩
  replace k_a := hg.cell k_a
  replace k_b := hg.cell k_b
  have gg := ((Gr.refl w1).alloc (.cells #[.slice ba na ca, .slice bb nb cb] 24)).trans hg
  replace R_a := Lib.hid (R_a.out.grow gg)
  replace R_b := Lib.hid (R_b.out.grow gg)
  replace G := Lib.hid (G.out.trans gg)
  clear hg gg
  clear sa sb
  go_wp2_with fail
  refine (Mul_v zm em FM.out (R_a.out.grow (Gr.refl w2)) (R_b.out.grow (Gr.refl w2)) HX.out (pw_pos 64)).mono ?_
  rintro e w3 ⟨pp, np, cp, rfl, hr_p, hg⟩
  replace k_a := hg.cell k_a
  replace k_b := hg.cell k_b
  have gg := (Gr.refl w2).trans hg
  replace R_a := Lib.hid (R_a.out.grow gg)
  replace R_b := Lib.hid (R_b.out.grow gg)
  replace G := Lib.hid (G.out.trans gg)
  have R_p := Lib.hid hr_p.toNw
  clear hr_p
  clear hg gg
  replace k_a := ((Gr.refl w3).alloc (.cells #[.slice pp np cp] 24)).cell k_a
  replace k_b := ((Gr.refl w3).alloc (.cells #[.slice pp np cp] 24)).cell k_b
  have k_p : (w3.alloc (.cells #[.slice pp np cp] 24)).cell? ⟨w3.heap.size, 0, none⟩ = some (.slice pp np cp) := by simp [go_sem]
  go_wp2_with fail
  refine (Div_v_zero (R_a.out.grow ((Gr.refl w3).alloc (.cells #[.slice pp np cp] 24))) (R_b.out.grow ((Gr.refl w3).alloc (.cells #[.slice pp np cp] 24))) HX.out).mono ?_
  rintro e w4 ⟨pq, pr, nq, cq, nr, cr, rfl, hr_q, hr_r, hg⟩
  replace k_a := hg.cell k_a
  replace k_b := hg.cell k_b
  replace k_p := hg.cell k_p
  have gg := ((Gr.refl w3).alloc (.cells #[.slice pp np cp] 24)).trans hg
  replace R_a := Lib.hid (R_a.out.grow gg)
  replace R_b := Lib.hid (R_b.out.grow gg)
  replace R_p := Lib.hid (R_p.out.grow gg)
  replace G := Lib.hid (G.out.trans gg)
  have R_q := Lib.hid hr_q.toNw
  clear hr_q
  have R_r := Lib.hid hr_r.toNw
  clear hr_r
  clear hg gg
  replace k_a := ((Gr.refl w4).alloc (.cells #[.slice pq nq cq] 24)).cell k_a
  replace k_b := ((Gr.refl w4).alloc (.cells #[.slice pq nq cq] 24)).cell k_b
  replace k_p := ((Gr.refl w4).alloc (.cells #[.slice pq nq cq] 24)).cell k_p
  have k_q : (w4.alloc (.cells #[.slice pq nq cq] 24)).cell? ⟨w4.heap.size, 0, none⟩ = some (.slice pq nq cq) := by simp [go_sem]
  replace k_a := ((Gr.refl (w4.alloc (.cells #[.slice pq nq cq] 24))).alloc (.cells #[.slice pr nr cr] 24)).cell k_a
  replace k_b := ((Gr.refl (w4.alloc (.cells #[.slice pq nq cq] 24))).alloc (.cells #[.slice pr nr cr] 24)).cell k_b
  replace k_p := ((Gr.refl (w4.alloc (.cells #[.slice pq nq cq] 24))).alloc (.cells #[.slice pr nr cr] 24)).cell k_p
  replace k_q := ((Gr.refl (w4.alloc (.cells #[.slice pq nq cq] 24))).alloc (.cells #[.slice pr nr cr] 24)).cell k_q
  have k_r : ((w4.alloc (.cells #[.slice pq nq cq] 24)).alloc (.cells #[.slice pr nr cr] 24)).cell? ⟨w4.heap.size + 1, 0, none⟩ = some (.slice pr nr cr) := by simp [go_sem]
  go_wp2_with fail
  refine (shift_out (R_a.out.grow (((Gr.refl w4).alloc (.cells #[.slice pq nq cq] 24)).alloc (.cells #[.slice pr nr cr] 24))) HX.out M HO.out).mono ?_
  rintro e w5 ⟨ps, ns, cs, rfl, hr_s, hg⟩
  replace k_a := hg.cell k_a
  replace k_b := hg.cell k_b
  replace k_p := hg.cell k_p
  replace k_q := hg.cell k_q
  replace k_r := hg.cell k_r
  have gg := (((Gr.refl w4).alloc (.cells #[.slice pq nq cq] 24)).alloc (.cells #[.slice pr nr cr] 24)).trans hg
  replace R_a := Lib.hid (R_a.out.grow gg)
  replace R_b := Lib.hid (R_b.out.grow gg)
  replace R_p := Lib.hid (R_p.out.grow gg)
  replace R_q := Lib.hid (R_q.out.grow gg)
  replace R_r := Lib.hid (R_r.out.grow gg)
  replace G := Lib.hid (G.out.trans gg)
  have R_s := Lib.hid hr_s.toNw
  clear hr_s
  clear hg gg
  replace k_a := ((Gr.refl w5).alloc (.cells #[.slice ps ns cs] 24)).cell k_a
  replace k_b := ((Gr.refl w5).alloc (.cells #[.slice ps ns cs] 24)).cell k_b
  replace k_p := ((Gr.refl w5).alloc (.cells #[.slice ps ns cs] 24)).cell k_p
  replace k_q := ((Gr.refl w5).alloc (.cells #[.slice ps ns cs] 24)).cell k_q
  replace k_r := ((Gr.refl w5).alloc (.cells #[.slice ps ns cs] 24)).cell k_r
  have k_s : (w5.alloc (.cells #[.slice ps ns cs] 24)).cell? ⟨w5.heap.size, 0, none⟩ = some (.slice ps ns cs) := by simp [go_sem]
  go_wp2_with fail
  refine (RValid_v (R_a.out.grow ((Gr.refl w5).alloc (.cells #[.slice ps ns cs] 24))) HX.out).mono ?_
  rintro e w6 ⟨rfl, hg⟩
  replace k_a := hg.cell k_a
  replace k_b := hg.cell k_b
  replace k_p := hg.cell k_p
  replace k_q := hg.cell k_q
  replace k_r := hg.cell k_r
  replace k_s := hg.cell k_s
  have gg := ((Gr.refl w5).alloc (.cells #[.slice ps ns cs] 24)).trans hg
  replace R_a := Lib.hid (R_a.out.grow gg)
  replace R_b := Lib.hid (R_b.out.grow gg)
  replace R_p := Lib.hid (R_p.out.grow gg)
  replace R_q := Lib.hid (R_q.out.grow gg)
  replace R_r := Lib.hid (R_r.out.grow gg)
  replace R_s := Lib.hid (R_s.out.grow gg)
  replace G := Lib.hid (G.out.trans gg)
  clear hg gg
  go_wp2_with fail
  refine (is_lit (x := 0) 2 2 rfl (by decide) (R_s.out.grow (Gr.refl w6)) (by rw [digs_zero]; exact Nw.zero _)).mono ?_
  rintro e w7 ⟨rfl, hg⟩
  replace k_a := hg.cell k_a
  replace k_b := hg.cell k_b
  replace k_p := hg.cell k_p
  replace k_q := hg.cell k_q
  replace k_r := hg.cell k_r
  replace k_s := hg.cell k_s
  have gg := (Gr.refl w6).trans hg
  replace R_a := Lib.hid (R_a.out.grow gg)
  replace R_b := Lib.hid (R_b.out.grow gg)
  replace R_p := Lib.hid (R_p.out.grow gg)
  replace R_q := Lib.hid (R_q.out.grow gg)
  replace R_r := Lib.hid (R_r.out.grow gg)
  replace R_s := Lib.hid (R_s.out.grow gg)
  replace G := Lib.hid (G.out.trans gg)
  clear hg gg
  clear k_s
  clear R_s
  go_wp2_with fail
  refine (RValid_v (R_b.out.grow (Gr.refl w7)) (pw_pos 64)).mono ?_
  rintro e w8 ⟨rfl, hg⟩
  replace k_a := hg.cell k_a
  replace k_b := hg.cell k_b
  replace k_p := hg.cell k_p
  replace k_q := hg.cell k_q
  replace k_r := hg.cell k_r
  have gg := (Gr.refl w7).trans hg
  replace R_a := Lib.hid (R_a.out.grow gg)
  replace R_b := Lib.hid (R_b.out.grow gg)
  replace R_p := Lib.hid (R_p.out.grow gg)
  replace R_q := Lib.hid (R_q.out.grow gg)
  replace R_r := Lib.hid (R_r.out.grow gg)
  replace G := Lib.hid (G.out.trans gg)
  clear hg gg
  go_wp2_with fail
  refine (rmul_v _ _ _ _ _ _ _ _ zm em FM.out (by have := Sa.out; omega) (by have := Sb.out; omega) _ (R_a.out.grow (Gr.refl w8)) (R_b.out.grow (Gr.refl w8))).mono ?_
  rintro e w9 ⟨pt, nt, ct, rfl, hr_t, hg⟩
  replace k_a := hg.cell k_a
  replace k_b := hg.cell k_b
  replace k_p := hg.cell k_p
  replace k_q := hg.cell k_q
  replace k_r := hg.cell k_r
  have gg := (Gr.refl w8).trans hg
  replace R_a := Lib.hid (R_a.out.grow gg)
  replace R_b := Lib.hid (R_b.out.grow gg)
  replace R_p := Lib.hid (R_p.out.grow gg)
  replace R_q := Lib.hid (R_q.out.grow gg)
  replace R_r := Lib.hid (R_r.out.grow gg)
  replace G := Lib.hid (G.out.trans gg)
  have R_t := Lib.hid hr_t.toNw
  clear hr_t
  clear hg gg
  replace k_a := ((Gr.refl w9).alloc (.cells #[.slice pt nt ct] 24)).cell k_a
  replace k_b := ((Gr.refl w9).alloc (.cells #[.slice pt nt ct] 24)).cell k_b
  replace k_p := ((Gr.refl w9).alloc (.cells #[.slice pt nt ct] 24)).cell k_p
  replace k_q := ((Gr.refl w9).alloc (.cells #[.slice pt nt ct] 24)).cell k_q
  replace k_r := ((Gr.refl w9).alloc (.cells #[.slice pt nt ct] 24)).cell k_r
  have k_t : (w9.alloc (.cells #[.slice pt nt ct] 24)).cell? ⟨w9.heap.size, 0, none⟩ = some (.slice pt nt ct) := by simp [go_sem]
  go_wp2_with fail
  refine (is_lit em (em : Int) rfl HEM.out (R_p.out.grow ((Gr.refl w9).alloc (.cells #[.slice pt nt ct] 24))) (R_t.out.grow ((Gr.refl w9).alloc (.cells #[.slice pt nt ct] 24)))).mono ?_
  rintro e w10 ⟨rfl, hg⟩
  replace k_a := hg.cell k_a
  replace k_b := hg.cell k_b
  replace k_p := hg.cell k_p
  replace k_q := hg.cell k_q
  replace k_r := hg.cell k_r
  replace k_t := hg.cell k_t
  have gg := ((Gr.refl w9).alloc (.cells #[.slice pt nt ct] 24)).trans hg
  replace R_a := Lib.hid (R_a.out.grow gg)
  replace R_b := Lib.hid (R_b.out.grow gg)
  replace R_p := Lib.hid (R_p.out.grow gg)
  replace R_q := Lib.hid (R_q.out.grow gg)
  replace R_r := Lib.hid (R_r.out.grow gg)
  replace R_t := Lib.hid (R_t.out.grow gg)
  replace G := Lib.hid (G.out.trans gg)
  clear hg gg
  clear k_p
  clear R_p
  clear k_t
  clear R_t
  go_wp2_with fail
  refine (is_lit (x := 0) 10 10 rfl (by decide) (R_q.out.grow (Gr.refl w10)) (by rw [digs_zero]; exact Nw.zero _)).mono ?_
  rintro e w11 ⟨rfl, hg⟩
  replace k_a := hg.cell k_a
  replace k_b := hg.cell k_b
  replace k_q := hg.cell k_q
  replace k_r := hg.cell k_r
  have gg := (Gr.refl w10).trans hg
  replace R_a := Lib.hid (R_a.out.grow gg)
  replace R_b := Lib.hid (R_b.out.grow gg)
  replace R_q := Lib.hid (R_q.out.grow gg)
  replace R_r := Lib.hid (R_r.out.grow gg)
  replace G := Lib.hid (G.out.trans gg)
  clear hg gg
  go_wp2_with fail
  refine (Same_v_eq (x := 0) (y := 0) rfl (R_r.out.grow (Gr.refl w11)) (by rw [digs_zero]; exact Nw.zero _)).mono ?_
  rintro e w12 ⟨rfl, hg⟩
  replace k_a := hg.cell k_a
  replace k_b := hg.cell k_b
  replace k_q := hg.cell k_q
  replace k_r := hg.cell k_r
  have gg := (Gr.refl w11).trans hg
  replace R_a := Lib.hid (R_a.out.grow gg)
  replace R_b := Lib.hid (R_b.out.grow gg)
  replace R_q := Lib.hid (R_q.out.grow gg)
  replace R_r := Lib.hid (R_r.out.grow gg)
  replace G := Lib.hid (G.out.trans gg)
  clear hg gg
  go_wp2
  go_ret
  exact ⟨rfl, G.out⟩

set_option maxRecDepth 100000 in
set_option maxHeartbeats 40000000 in
theorem ok_lo_pos (w : World) (ba bb : Option Addr) (na ca nb cb : Nat) (M : Int) (x : Nat) (hx : x < pw 64) (ha : Nw w ba na ca (digs x)) (sa : na ≤ 100) (sb : nb ≤ 100) (hM : M < -10000) (y : Nat) (hy : y < pw 64) (h0 : 0 < y) (hb : Nw w bb nb cb (digs y)) : Calls Try.prog 5 #[.agg #[.slice ba na ca], .agg #[.slice bb nb cb], .int .i64 M] w fun e w' => e = .returned (.bool true) ∧ Gr w w' := by
  have G := Lib.hid (Gr.refl w)
  have R_a := Lib.hid ha
  have R_b := Lib.hid hb
  have Sa := Lib.hid sa
  have Sb := Lib.hid sb
  have HX := Lib.hid hx
  have HO : Hid (M < -10000 ∨ 10000 < M) := Lib.hid (.inl hM)
  obtain ⟨zm, em, f_m⟩ := fits_ex (x * y)
  have FM := Lib.hid f_m
  have HEM : Hid (em < 1000) := Lib.hid (by rcases f_m.code with h | h <;> omega)
  clear f_m
  have HY := Lib.hid hy
  have H0 := Lib.hid h0
  have hn0 : nb ≠ 0 := fun e => by have := (len_zero hb).1 e; omega
  have hn : ((nb : Int) == 0) = false := by simp; omega
  clear hn0
  clear ha hb sa sb hx hy h0
  have k_a : ((w.alloc (.cells #[.slice ba na ca] 24)).alloc (.cells #[.slice bb nb cb] 24)).cell? ⟨w.heap.size, 0, none⟩ = some (.slice ba na ca) := by simp [go_sem]
  have k_b : ((w.alloc (.cells #[.slice ba na ca] 24)).alloc (.cells #[.slice bb nb cb] 24)).cell? ⟨w.heap.size + 1, 0, none⟩ = some (.slice bb nb cb) := by simp [go_sem]
  go_enter Try.func5, Try.ntmps5
  go_wp2_with fail
  refine (awake_any _).mono ?_
  rintro e w1 ⟨rfl, hg⟩
  replace k_a := hg.cell k_a
  replace k_b := hg.cell k_b
  have gg := (((Gr.refl w).alloc (.cells #[.slice ba na ca] 24)).alloc (.cells #[.slice bb nb cb] 24)).trans hg
  replace R_a := Lib.hid (R_a.out.grow gg)
  replace R_b := Lib.hid (R_b.out.grow gg)
  replace G := Lib.hid (G.out.trans gg)
  clear hg gg
  have sa := Sa.out
  have sb := Sb.out
  go_wp2_with fail
  replace k_a := ((Gr.refl w1).alloc (.cells #[.slice ba na ca, .slice bb nb cb] 24)).cell k_a
  replace k_b := ((Gr.refl w1).alloc (.cells #[.slice ba na ca, .slice bb nb cb] 24)).cell k_b
  refine (great_no (n := 2) (c := 2) rfl (by decide) (nats2 w1 ba bb na ca nb cb) (le2 sa sb)).mono ?_
  rintro e w2 ⟨rfl, hg⟩
  replace k_a := hg.cell k_a
  replace k_b := hg.cell k_b
  have gg := ((Gr.refl w1).alloc (.cells #[.slice ba na ca, .slice bb nb cb] 24)).trans hg
  replace R_a := Lib.hid (R_a.out.grow gg)
  replace R_b := Lib.hid (R_b.out.grow gg)
  replace G := Lib.hid (G.out.trans gg)
  clear hg gg
  clear sa sb
  go_wp2_with fail
  refine (Mul_v zm em FM.out (R_a.out.grow (Gr.refl w2)) (R_b.out.grow (Gr.refl w2)) HX.out HY.out).mono ?_
  rintro e w3 ⟨pp, np, cp, rfl, hr_p, hg⟩
  replace k_a := hg.cell k_a
  replace k_b := hg.cell k_b
  have gg := (Gr.refl w2).trans hg
  replace R_a := Lib.hid (R_a.out.grow gg)
  replace R_b := Lib.hid (R_b.out.grow gg)
  replace G := Lib.hid (G.out.trans gg)
  have R_p := Lib.hid hr_p.toNw
  clear hr_p
  clear hg gg
  replace k_a := ((Gr.refl w3).alloc (.cells #[.slice pp np cp] 24)).cell k_a
  replace k_b := ((Gr.refl w3).alloc (.cells #[.slice pp np cp] 24)).cell k_b
  have k_p : (w3.alloc (.cells #[.slice pp np cp] 24)).cell? ⟨w3.heap.size, 0, none⟩ = some (.slice pp np cp) := by simp [go_sem]
  go_wp2_with fail
  refine (Div_v H0.out (R_a.out.grow ((Gr.refl w3).alloc (.cells #[.slice pp np cp] 24))) (R_b.out.grow ((Gr.refl w3).alloc (.cells #[.slice pp np cp] 24))) HX.out HY.out).mono ?_
  rintro e w4 ⟨pq, pr, nq, cq, nr, cr, rfl, hr_q, hr_r, hg⟩
  replace k_a := hg.cell k_a
  replace k_b := hg.cell k_b
  replace k_p := hg.cell k_p
  have gg := ((Gr.refl w3).alloc (.cells #[.slice pp np cp] 24)).trans hg
  replace R_a := Lib.hid (R_a.out.grow gg)
  replace R_b := Lib.hid (R_b.out.grow gg)
  replace R_p := Lib.hid (R_p.out.grow gg)
  replace G := Lib.hid (G.out.trans gg)
  have R_q := Lib.hid hr_q.toNw
  clear hr_q
  have R_r := Lib.hid hr_r.toNw
  clear hr_r
  clear hg gg
  replace k_a := ((Gr.refl w4).alloc (.cells #[.slice pq nq cq] 24)).cell k_a
  replace k_b := ((Gr.refl w4).alloc (.cells #[.slice pq nq cq] 24)).cell k_b
  replace k_p := ((Gr.refl w4).alloc (.cells #[.slice pq nq cq] 24)).cell k_p
  have k_q : (w4.alloc (.cells #[.slice pq nq cq] 24)).cell? ⟨w4.heap.size, 0, none⟩ = some (.slice pq nq cq) := by simp [go_sem]
  replace k_a := ((Gr.refl (w4.alloc (.cells #[.slice pq nq cq] 24))).alloc (.cells #[.slice pr nr cr] 24)).cell k_a
  replace k_b := ((Gr.refl (w4.alloc (.cells #[.slice pq nq cq] 24))).alloc (.cells #[.slice pr nr cr] 24)).cell k_b
  replace k_p := ((Gr.refl (w4.alloc (.cells #[.slice pq nq cq] 24))).alloc (.cells #[.slice pr nr cr] 24)).cell k_p
  replace k_q := ((Gr.refl (w4.alloc (.cells #[.slice pq nq cq] 24))).alloc (.cells #[.slice pr nr cr] 24)).cell k_q
  have k_r : ((w4.alloc (.cells #[.slice pq nq cq] 24)).alloc (.cells #[.slice pr nr cr] 24)).cell? ⟨w4.heap.size + 1, 0, none⟩ = some (.slice pr nr cr) := by simp [go_sem]
  go_wp2_with fail
  refine (shift_out (R_a.out.grow (((Gr.refl w4).alloc (.cells #[.slice pq nq cq] 24)).alloc (.cells #[.slice pr nr cr] 24))) HX.out M HO.out).mono ?_
  rintro e w5 ⟨ps, ns, cs, rfl, hr_s, hg⟩
  replace k_a := hg.cell k_a
  replace k_b := hg.cell k_b
  replace k_p := hg.cell k_p
  replace k_q := hg.cell k_q
  replace k_r := hg.cell k_r
  have gg := (((Gr.refl w4).alloc (.cells #[.slice pq nq cq] 24)).alloc (.cells #[.slice pr nr cr] 24)).trans hg
  replace R_a := Lib.hid (R_a.out.grow gg)
  replace R_b := Lib.hid (R_b.out.grow gg)
  replace R_p := Lib.hid (R_p.out.grow gg)
  replace R_q := Lib.hid (R_q.out.grow gg)
  replace R_r := Lib.hid (R_r.out.grow gg)
  replace G := Lib.hid (G.out.trans gg)
  have R_s := Lib.hid hr_s.toNw
  clear hr_s
  clear hg gg
  replace k_a := ((Gr.refl w5).alloc (.cells #[.slice ps ns cs] 24)).cell k_a
  replace k_b := ((Gr.refl w5).alloc (.cells #[.slice ps ns cs] 24)).cell k_b
  replace k_p := ((Gr.refl w5).alloc (.cells #[.slice ps ns cs] 24)).cell k_p
  replace k_q := ((Gr.refl w5).alloc (.cells #[.slice ps ns cs] 24)).cell k_q
  replace k_r := ((Gr.refl w5).alloc (.cells #[.slice ps ns cs] 24)).cell k_r
  have k_s : (w5.alloc (.cells #[.slice ps ns cs] 24)).cell? ⟨w5.heap.size, 0, none⟩ = some (.slice ps ns cs) := by simp [go_sem]
  go_wp2_with fail
  refine (RValid_v (R_a.out.grow ((Gr.refl w5).alloc (.cells #[.slice ps ns cs] 24))) HX.out).mono ?_
  rintro e w6 ⟨rfl, hg⟩
  replace k_a := hg.cell k_a
  replace k_b := hg.cell k_b
  replace k_p := hg.cell k_p
  replace k_q := hg.cell k_q
  replace k_r := hg.cell k_r
  replace k_s := hg.cell k_s
  have gg := ((Gr.refl w5).alloc (.cells #[.slice ps ns cs] 24)).trans hg
  replace R_a := Lib.hid (R_a.out.grow gg)
  replace R_b := Lib.hid (R_b.out.grow gg)
  replace R_p := Lib.hid (R_p.out.grow gg)
  replace R_q := Lib.hid (R_q.out.grow gg)
  replace R_r := Lib.hid (R_r.out.grow gg)
  replace R_s := Lib.hid (R_s.out.grow gg)
  replace G := Lib.hid (G.out.trans gg)
  clear hg gg
  go_wp2_with fail
  refine (is_lit (x := 0) 2 2 rfl (by decide) (R_s.out.grow (Gr.refl w6)) (by rw [digs_zero]; exact Nw.zero _)).mono ?_
  rintro e w7 ⟨rfl, hg⟩
  replace k_a := hg.cell k_a
  replace k_b := hg.cell k_b
  replace k_p := hg.cell k_p
  replace k_q := hg.cell k_q
  replace k_r := hg.cell k_r
  replace k_s := hg.cell k_s
  have gg := (Gr.refl w6).trans hg
  replace R_a := Lib.hid (R_a.out.grow gg)
  replace R_b := Lib.hid (R_b.out.grow gg)
  replace R_p := Lib.hid (R_p.out.grow gg)
  replace R_q := Lib.hid (R_q.out.grow gg)
  replace R_r := Lib.hid (R_r.out.grow gg)
  replace R_s := Lib.hid (R_s.out.grow gg)
  replace G := Lib.hid (G.out.trans gg)
  clear hg gg
  clear k_s
  clear R_s
  go_wp2_with fail
  refine (RValid_v (R_b.out.grow (Gr.refl w7)) HY.out).mono ?_
  rintro e w8 ⟨rfl, hg⟩
  replace k_a := hg.cell k_a
  replace k_b := hg.cell k_b
  replace k_p := hg.cell k_p
  replace k_q := hg.cell k_q
  replace k_r := hg.cell k_r
  have gg := (Gr.refl w7).trans hg
  replace R_a := Lib.hid (R_a.out.grow gg)
  replace R_b := Lib.hid (R_b.out.grow gg)
  replace R_p := Lib.hid (R_p.out.grow gg)
  replace R_q := Lib.hid (R_q.out.grow gg)
  replace R_r := Lib.hid (R_r.out.grow gg)
  replace G := Lib.hid (G.out.trans gg)
  clear hg gg
  go_wp2_with fail
  refine (rmul_v _ _ _ _ _ _ _ _ zm em FM.out (by have := Sa.out; omega) (by have := Sb.out; omega) _ (R_a.out.grow (Gr.refl w8)) (R_b.out.grow (Gr.refl w8))).mono ?_
  rintro e w9 ⟨pt, nt, ct, rfl, hr_t, hg⟩
  replace k_a := hg.cell k_a
  replace k_b := hg.cell k_b
  replace k_p := hg.cell k_p
  replace k_q := hg.cell k_q
  replace k_r := hg.cell k_r
  have gg := (Gr.refl w8).trans hg
  replace R_a := Lib.hid (R_a.out.grow gg)
  replace R_b := Lib.hid (R_b.out.grow gg)
  replace R_p := Lib.hid (R_p.out.grow gg)
  replace R_q := Lib.hid (R_q.out.grow gg)
  replace R_r := Lib.hid (R_r.out.grow gg)
  replace G := Lib.hid (G.out.trans gg)
  have R_t := Lib.hid hr_t.toNw
  clear hr_t
  clear hg gg
  replace k_a := ((Gr.refl w9).alloc (.cells #[.slice pt nt ct] 24)).cell k_a
  replace k_b := ((Gr.refl w9).alloc (.cells #[.slice pt nt ct] 24)).cell k_b
  replace k_p := ((Gr.refl w9).alloc (.cells #[.slice pt nt ct] 24)).cell k_p
  replace k_q := ((Gr.refl w9).alloc (.cells #[.slice pt nt ct] 24)).cell k_q
  replace k_r := ((Gr.refl w9).alloc (.cells #[.slice pt nt ct] 24)).cell k_r
  have k_t : (w9.alloc (.cells #[.slice pt nt ct] 24)).cell? ⟨w9.heap.size, 0, none⟩ = some (.slice pt nt ct) := by simp [go_sem]
  go_wp2_with fail
  refine (is_lit em (em : Int) rfl HEM.out (R_p.out.grow ((Gr.refl w9).alloc (.cells #[.slice pt nt ct] 24))) (R_t.out.grow ((Gr.refl w9).alloc (.cells #[.slice pt nt ct] 24)))).mono ?_
  rintro e w10 ⟨rfl, hg⟩
  replace k_a := hg.cell k_a
  replace k_b := hg.cell k_b
  replace k_p := hg.cell k_p
  replace k_q := hg.cell k_q
  replace k_r := hg.cell k_r
  replace k_t := hg.cell k_t
  have gg := ((Gr.refl w9).alloc (.cells #[.slice pt nt ct] 24)).trans hg
  replace R_a := Lib.hid (R_a.out.grow gg)
  replace R_b := Lib.hid (R_b.out.grow gg)
  replace R_p := Lib.hid (R_p.out.grow gg)
  replace R_q := Lib.hid (R_q.out.grow gg)
  replace R_r := Lib.hid (R_r.out.grow gg)
  replace R_t := Lib.hid (R_t.out.grow gg)
  replace G := Lib.hid (G.out.trans gg)
  clear hg gg
  clear k_p
  clear R_p
  clear k_t
  clear R_t
  go_wp2_with fail
  refine (rdiv_v _ _ _ _ _ _ _ _ HX.out H0.out HY.out _ (R_a.out.grow (Gr.refl w10)) (R_b.out.grow (Gr.refl w10))).mono ?_
  rintro e w11 ⟨px, py, nx, cx, ny, cy, rfl, hr_x, hr_y, hg⟩
  replace k_a := hg.cell k_a
  replace k_b := hg.cell k_b
  replace k_q := hg.cell k_q
  replace k_r := hg.cell k_r
  have gg := (Gr.refl w10).trans hg
  replace R_a := Lib.hid (R_a.out.grow gg)
  replace R_b := Lib.hid (R_b.out.grow gg)
  replace R_q := Lib.hid (R_q.out.grow gg)
  replace R_r := Lib.hid (R_r.out.grow gg)
  replace G := Lib.hid (G.out.trans gg)
  have R_x := Lib.hid hr_x.toNw
  clear hr_x
  have R_y := Lib.hid hr_y.toNw
  clear hr_y
  clear hg gg
  replace k_a := ((Gr.refl w11).alloc (.cells #[.slice px nx cx] 24)).cell k_a
  replace k_b := ((Gr.refl w11).alloc (.cells #[.slice px nx cx] 24)).cell k_b
  replace k_q := ((Gr.refl w11).alloc (.cells #[.slice px nx cx] 24)).cell k_q
  replace k_r := ((Gr.refl w11).alloc (.cells #[.slice px nx cx] 24)).cell k_r
  have k_x : (w11.alloc (.cells #[.slice px nx cx] 24)).cell? ⟨w11.heap.size, 0, none⟩ = some (.slice px nx cx) := by simp [go_sem]
  replace k_a := ((Gr.refl (w11.alloc (.cells #[.slice px nx cx] 24))).alloc (.cells #[.slice py ny cy] 24)).cell k_a
  replace k_b := ((Gr.refl (w11.alloc (.cells #[.slice px nx cx] 24))).alloc (.cells #[.slice py ny cy] 24)).cell k_b
  replace k_q := ((Gr.refl (w11.alloc (.cells #[.slice px nx cx] 24))).alloc (.cells #[.slice py ny cy] 24)).cell k_q
  replace k_r := ((Gr.refl (w11.alloc (.cells #[.slice px nx cx] 24))).alloc (.cells #[.slice py ny cy] 24)).cell k_r
  replace k_x := ((Gr.refl (w11.alloc (.cells #[.slice px nx cx] 24))).alloc (.cells #[.slice py ny cy] 24)).cell k_x
  have k_y : ((w11.alloc (.cells #[.slice px nx cx] 24)).alloc (.cells #[.slice py ny cy] 24)).cell? ⟨w11.heap.size + 1, 0, none⟩ = some (.slice py ny cy) := by simp [go_sem]
  go_wp2_with fail
  refine (is_lit 0 0 rfl (by decide) (R_q.out.grow (((Gr.refl w11).alloc (.cells #[.slice px nx cx] 24)).alloc (.cells #[.slice py ny cy] 24))) (R_x.out.grow (((Gr.refl w11).alloc (.cells #[.slice px nx cx] 24)).alloc (.cells #[.slice py ny cy] 24)))).mono ?_
  rintro e w12 ⟨rfl, hg⟩
  replace k_a := hg.cell k_a
  replace k_b := hg.cell k_b
  replace k_q := hg.cell k_q
  replace k_r := hg.cell k_r
  replace k_x := hg.cell k_x
  replace k_y := hg.cell k_y
  have gg := (((Gr.refl w11).alloc (.cells #[.slice px nx cx] 24)).alloc (.cells #[.slice py ny cy] 24)).trans hg
  replace R_a := Lib.hid (R_a.out.grow gg)
  replace R_b := Lib.hid (R_b.out.grow gg)
  replace R_q := Lib.hid (R_q.out.grow gg)
  replace R_r := Lib.hid (R_r.out.grow gg)
  replace R_x := Lib.hid (R_x.out.grow gg)
  replace R_y := Lib.hid (R_y.out.grow gg)
  replace G := Lib.hid (G.out.trans gg)
  clear hg gg
  go_wp2_with fail
  refine (Same_v_eq rfl (R_r.out.grow (Gr.refl w12)) (R_y.out.grow (Gr.refl w12))).mono ?_
  rintro e w13 ⟨rfl, hg⟩
  replace k_a := hg.cell k_a
  replace k_b := hg.cell k_b
  replace k_q := hg.cell k_q
  replace k_r := hg.cell k_r
  replace k_x := hg.cell k_x
  replace k_y := hg.cell k_y
  have gg := (Gr.refl w12).trans hg
  replace R_a := Lib.hid (R_a.out.grow gg)
  replace R_b := Lib.hid (R_b.out.grow gg)
  replace R_q := Lib.hid (R_q.out.grow gg)
  replace R_r := Lib.hid (R_r.out.grow gg)
  replace R_x := Lib.hid (R_x.out.grow gg)
  replace R_y := Lib.hid (R_y.out.grow gg)
  replace G := Lib.hid (G.out.trans gg)
  clear hg gg
  go_wp2
  go_ret
  exact ⟨rfl, G.out⟩

set_option maxRecDepth 100000 in
set_option maxHeartbeats 40000000 in
theorem ok_hi_bad (w : World) (ba bb : Option Addr) (na ca nb cb : Nat) (M : Int) (x : Nat) (hx : x < pw 64) (ha : Nw w ba na ca (digs x)) (sa : na ≤ 100) (sb : nb ≤ 100) (hM : 10000 < M) (lb : List Nat) (hb : Nw w bb nb cb lb) (vb : decide (valid lb) = false) : Calls Try.prog 5 #[.agg #[.slice ba na ca], .agg #[.slice bb nb cb], .int .i64 M] w fun e w' => e = .returned (.bool true) ∧ Gr w w' := by
  have G := Lib.hid (Gr.refl w)
  have R_a := Lib.hid ha
  have R_b := Lib.hid hb
  have Sa := Lib.hid sa
  have Sb := Lib.hid sb
  have HX := Lib.hid hx
  have HO : Hid (M < -10000 ∨ 10000 < M) := Lib.hid (.inr hM)
  have hM2 : ¬ M < -10000 := by omega
  have VB := Lib.hid vb
  clear ha hb sa sb hx vb
  have k_a : ((w.alloc (.cells #[.slice ba na ca] 24)).alloc (.cells #[.slice bb nb cb] 24)).cell? ⟨w.heap.size, 0, none⟩ = some (.slice ba na ca) := by simp [go_sem]
  have k_b : ((w.alloc (.cells #[.slice ba na ca] 24)).alloc (.cells #[.slice bb nb cb] 24)).cell? ⟨w.heap.size + 1, 0, none⟩ = some (.slice bb nb cb) := by simp [go_sem]
  go_enter Try.func5, Try.ntmps5
  go_wp2_with fail
  refine (awake_any _).mono ?_
  rintro e w1 ⟨rfl, hg⟩
  replace k_a := hg.cell k_a
  replace k_b := hg.cell k_b
  have gg := (((Gr.refl w).alloc (.cells #[.slice ba na ca] 24)).alloc (.cells #[.slice bb nb cb] 24)).trans hg
  replace R_a := Lib.hid (R_a.out.grow gg)
  replace R_b := Lib.hid (R_b.out.grow gg)
  replace G := Lib.hid (G.out.trans gg)
  clear hg gg
  have sa := Sa.out
  have sb := Sb.out
  go_wp2_with fail
  replace k_a := ((Gr.refl w1).alloc (.cells #[.slice ba na ca, .slice bb nb cb] 24)).cell k_a
  replace k_b := ((Gr.refl w1).alloc (.cells #[.slice ba na ca, .slice bb nb cb] 24)).cell k_b
  refine (great_no (n := 2) (c := 2) rfl (by decide) (nats2 w1 ba bb na ca nb cb) (le2 sa sb)).mono ?_
  rintro e w2 ⟨rfl, hg⟩
  replace k_a := hg.cell k_a
  replace k_b := hg.cell k_b
  have gg := ((Gr.refl w1).alloc (.cells #[.slice ba na ca, .slice bb nb cb] 24)).trans hg
  replace R_a := Lib.hid (R_a.out.grow gg)
  replace R_b := Lib.hid (R_b.out.grow gg)
  replace G := Lib.hid (G.out.trans gg)
  clear hg gg
  clear sa sb
  go_wp2_with fail
  refine (Mul_bad _ _ _ _ _ _ _ _ _ (R_a.out.grow (Gr.refl w2)) (R_b.out.grow (Gr.refl w2)) (.inr VB.out)).mono ?_
  rintro e w3 ⟨rfl, hg⟩
  replace k_a := hg.cell k_a
  replace k_b := hg.cell k_b
  have gg := (Gr.refl w2).trans hg
  replace R_a := Lib.hid (R_a.out.grow gg)
  replace R_b := Lib.hid (R_b.out.grow gg)
  replace G := Lib.hid (G.out.trans gg)
  clear hg gg
  replace k_a := ((Gr.refl w3).alloc (.cells #[.slice none 0 0] 24)).cell k_a
  replace k_b := ((Gr.refl w3).alloc (.cells #[.slice none 0 0] 24)).cell k_b
  have k_p : (w3.alloc (.cells #[.slice none 0 0] 24)).cell? ⟨w3.heap.size, 0, none⟩ = some (.slice none 0 0) := by simp [go_sem]
  go_wp2_with fail
  refine (Div_bad _ _ _ _ _ _ _ _ _ (R_a.out.grow ((Gr.refl w3).alloc (.cells #[.slice none 0 0] 24))) (R_b.out.grow ((Gr.refl w3).alloc (.cells #[.slice none 0 0] 24))) (.inr VB.out)).mono ?_
  rintro e w4 ⟨rfl, hg⟩
  replace k_a := hg.cell k_a
  replace k_b := hg.cell k_b
  replace k_p := hg.cell k_p
  have gg := ((Gr.refl w3).alloc (.cells #[.slice none 0 0] 24)).trans hg
  replace R_a := Lib.hid (R_a.out.grow gg)
  replace R_b := Lib.hid (R_b.out.grow gg)
  replace G := Lib.hid (G.out.trans gg)
  clear hg gg
  replace k_a := ((Gr.refl w4).alloc (.cells #[.slice none 0 0] 24)).cell k_a
  replace k_b := ((Gr.refl w4).alloc (.cells #[.slice none 0 0] 24)).cell k_b
  replace k_p := ((Gr.refl w4).alloc (.cells #[.slice none 0 0] 24)).cell k_p
  have k_q : (w4.alloc (.cells #[.slice none 0 0] 24)).cell? ⟨w4.heap.size, 0, none⟩ = some (.slice none 0 0) := by simp [go_sem]
  replace k_a := ((Gr.refl (w4.alloc (.cells #[.slice none 0 0] 24))).alloc (.cells #[.slice none 0 0] 24)).cell k_a
  replace k_b := ((Gr.refl (w4.alloc (.cells #[.slice none 0 0] 24))).alloc (.cells #[.slice none 0 0] 24)).cell k_b
  replace k_p := ((Gr.refl (w4.alloc (.cells #[.slice none 0 0] 24))).alloc (.cells #[.slice none 0 0] 24)).cell k_p
  replace k_q := ((Gr.refl (w4.alloc (.cells #[.slice none 0 0] 24))).alloc (.cells #[.slice none 0 0] 24)).cell k_q
  have k_r : ((w4.alloc (.cells #[.slice none 0 0] 24)).alloc (.cells #[.slice none 0 0] 24)).cell? ⟨w4.heap.size + 1, 0, none⟩ = some (.slice none 0 0) := by simp [go_sem]
  go_wp2_with fail
  refine (shift_out (R_a.out.grow (((Gr.refl w4).alloc (.cells #[.slice none 0 0] 24)).alloc (.cells #[.slice none 0 0] 24))) HX.out M HO.out).mono ?_
  rintro e w5 ⟨ps, ns, cs, rfl, hr_s, hg⟩
  replace k_a := hg.cell k_a
  replace k_b := hg.cell k_b
  replace k_p := hg.cell k_p
  replace k_q := hg.cell k_q
  replace k_r := hg.cell k_r
  have gg := (((Gr.refl w4).alloc (.cells #[.slice none 0 0] 24)).alloc (.cells #[.slice none 0 0] 24)).trans hg
  replace R_a := Lib.hid (R_a.out.grow gg)
  replace R_b := Lib.hid (R_b.out.grow gg)
  replace G := Lib.hid (G.out.trans gg)
  have R_s := Lib.hid hr_s.toNw
  clear hr_s
  clear hg gg
  replace k_a := ((Gr.refl w5).alloc (.cells #[.slice ps ns cs] 24)).cell k_a
  replace k_b := ((Gr.refl w5).alloc (.cells #[.slice ps ns cs] 24)).cell k_b
  replace k_p := ((Gr.refl w5).alloc (.cells #[.slice ps ns cs] 24)).cell k_p
  replace k_q := ((Gr.refl w5).alloc (.cells #[.slice ps ns cs] 24)).cell k_q
  replace k_r := ((Gr.refl w5).alloc (.cells #[.slice ps ns cs] 24)).cell k_r
  have k_s : (w5.alloc (.cells #[.slice ps ns cs] 24)).cell? ⟨w5.heap.size, 0, none⟩ = some (.slice ps ns cs) := by simp [go_sem]
  go_wp2_with fail
  refine (RValid_v (R_a.out.grow ((Gr.refl w5).alloc (.cells #[.slice ps ns cs] 24))) HX.out).mono ?_
  rintro e w6 ⟨rfl, hg⟩
  replace k_a := hg.cell k_a
  replace k_b := hg.cell k_b
  replace k_p := hg.cell k_p
  replace k_q := hg.cell k_q
  replace k_r := hg.cell k_r
  replace k_s := hg.cell k_s
  have gg := ((Gr.refl w5).alloc (.cells #[.slice ps ns cs] 24)).trans hg
  replace R_a := Lib.hid (R_a.out.grow gg)
  replace R_b := Lib.hid (R_b.out.grow gg)
  replace R_s := Lib.hid (R_s.out.grow gg)
  replace G := Lib.hid (G.out.trans gg)
  clear hg gg
  go_wp2_with fail
  refine (is_lit (x := 0) 2 2 rfl (by decide) (R_s.out.grow (Gr.refl w6)) (by rw [digs_zero]; exact Nw.zero _)).mono ?_
  rintro e w7 ⟨rfl, hg⟩
  replace k_a := hg.cell k_a
  replace k_b := hg.cell k_b
  replace k_p := hg.cell k_p
  replace k_q := hg.cell k_q
  replace k_r := hg.cell k_r
  replace k_s := hg.cell k_s
  have gg := (Gr.refl w6).trans hg
  replace R_a := Lib.hid (R_a.out.grow gg)
  replace R_b := Lib.hid (R_b.out.grow gg)
  replace R_s := Lib.hid (R_s.out.grow gg)
  replace G := Lib.hid (G.out.trans gg)
  clear hg gg
  clear k_s
  clear R_s
  go_wp2_with fail
  refine (RValid_no (R_b.out.grow (Gr.refl w7)) VB.out).mono ?_
  rintro e w8 ⟨rfl, hg⟩
  replace k_a := hg.cell k_a
  replace k_b := hg.cell k_b
  replace k_p := hg.cell k_p
  replace k_q := hg.cell k_q
  replace k_r := hg.cell k_r
  have gg := (Gr.refl w7).trans hg
  replace R_a := Lib.hid (R_a.out.grow gg)
  replace R_b := Lib.hid (R_b.out.grow gg)
  replace G := Lib.hid (G.out.trans gg)
  clear hg gg
  go_wp2_with fail
  refine (is_lit (x := 0) 1 1 rfl (by decide) (by rw [digs_zero]; exact Nw.zero _) (by rw [digs_zero]; exact Nw.zero _)).mono ?_
  rintro e w9 ⟨rfl, hg⟩
  replace k_a := hg.cell k_a
  replace k_b := hg.cell k_b
  replace k_p := hg.cell k_p
  replace k_q := hg.cell k_q
  replace k_r := hg.cell k_r
  have gg := (Gr.refl w8).trans hg
  replace R_a := Lib.hid (R_a.out.grow gg)
  replace R_b := Lib.hid (R_b.out.grow gg)
  replace G := Lib.hid (G.out.trans gg)
  clear hg gg
  go_wp2_with fail
  refine (is_lit (x := 0) 1 1 rfl (by decide) (by rw [digs_zero]; exact Nw.zero _) (by rw [digs_zero]; exact Nw.zero _)).mono ?_
  rintro e w10 ⟨rfl, hg⟩
  replace k_a := hg.cell k_a
  replace k_b := hg.cell k_b
  replace k_p := hg.cell k_p
  replace k_q := hg.cell k_q
  replace k_r := hg.cell k_r
  have gg := (Gr.refl w9).trans hg
  replace R_a := Lib.hid (R_a.out.grow gg)
  replace R_b := Lib.hid (R_b.out.grow gg)
  replace G := Lib.hid (G.out.trans gg)
  clear hg gg
  go_wp2_with fail
  refine (Same_v_eq (x := 0) (y := 0) rfl (by rw [digs_zero]; exact Nw.zero _) (by rw [digs_zero]; exact Nw.zero _)).mono ?_
  rintro e w11 ⟨rfl, hg⟩
  replace k_a := hg.cell k_a
  replace k_b := hg.cell k_b
  replace k_p := hg.cell k_p
  replace k_q := hg.cell k_q
  replace k_r := hg.cell k_r
  have gg := (Gr.refl w10).trans hg
  replace R_a := Lib.hid (R_a.out.grow gg)
  replace R_b := Lib.hid (R_b.out.grow gg)
  replace G := Lib.hid (G.out.trans gg)
  clear hg gg
  go_wp2
  go_ret
  exact ⟨rfl, G.out⟩

set_option maxRecDepth 100000 in
set_option maxHeartbeats 40000000 in
theorem ok_hi_zero (w : World) (ba bb : Option Addr) (na ca nb cb : Nat) (M : Int) (x : Nat) (hx : x < pw 64) (ha : Nw w ba na ca (digs x)) (sa : na ≤ 100) (sb : nb ≤ 100) (hM : 10000 < M) (hb : Nw w bb nb cb (digs 0)) : Calls Try.prog 5 #[.agg #[.slice ba na ca], .agg #[.slice bb nb cb], .int .i64 M] w fun e w' => e = .returned (.bool true) ∧ Gr w w' := by
  have G := Lib.hid (Gr.refl w)
  have R_a := Lib.hid ha
  have R_b := Lib.hid hb
  have Sa := Lib.hid sa
  have Sb := Lib.hid sb
  have HX := Lib.hid hx
  have HO : Hid (M < -10000 ∨ 10000 < M) := Lib.hid (.inr hM)
  have hM2 : ¬ M < -10000 := by omega
  obtain ⟨zm, em, f_m⟩ := fits_ex (x * 0)
  have FM := Lib.hid f_m
  have HEM : Hid (em < 1000) := Lib.hid (by rcases f_m.code with h | h <;> omega)
  clear f_m
  have hn0 : nb = 0 := (len_zero hb).2 rfl
  have hn : ((nb : Int) == 0) = true := by rw [hn0]; rfl
  clear hn0
  clear ha hb sa sb hx
  have k_a : ((w.alloc (.cells #[.slice ba na ca] 24)).alloc (.cells #[.slice bb nb cb] 24)).cell? ⟨w.heap.size, 0, none⟩ = some (.slice ba na ca) := by simp [go_sem]
  have k_b : ((w.alloc (.cells #[.slice ba na ca] 24)).alloc (.cells #[.slice bb nb cb] 24)).cell? ⟨w.heap.size + 1, 0, none⟩ = some (.slice bb nb cb) := by simp [go_sem]
  go_enter Try.func5, Try.ntmps5
  go_wp2_with fail
  refine (awake_any _).mono ?_
  rintro e w1 ⟨rfl, hg⟩
  replace k_a := hg.cell k_a
  replace k_b := hg.cell k_b
  have gg := (((Gr.refl w).alloc (.cells #[.slice ba na ca] 24)).alloc (.cells #[.slice bb nb cb] 24)).trans hg
  replace R_a := Lib.hid (R_a.out.grow gg)
  replace R_b := Lib.hid (R_b.out.grow gg)
  replace G := Lib.hid (G.out.trans gg)
  clear hg gg
  have sa := Sa.out
  have sb := Sb.out
  go_wp2_with fail
  replace k_a := ((Gr.refl w1).alloc (.cells #[.slice ba na ca, .slice bb nb cb] 24)).cell k_a
  replace k_b := ((Gr.refl w1).alloc (.cells #[.slice ba na ca, .slice bb nb cb] 24)).cell k_b
  refine (great_no (n := 2) (c := 2) rfl (by decide) (nats2 w1 ba bb na ca nb cb) (le2 sa sb)).mono ?_
  rintro e w2 ⟨rfl, hg⟩
  replace k_a := hg.cell k_a
  replace k_b := hg.cell k_b
  have gg := ((Gr.refl w1).alloc (.cells #[.slice ba na ca, .slice bb nb cb] 24)).trans hg
  replace R_a := Lib.hid (R_a.out.grow gg)
  replace R_b := Lib.hid (R_b.out.grow gg)
  replace G := Lib.hid (G.out.trans gg)
  clear hg gg
  clear sa sb
  go_wp2_with fail
  refine (Mul_v zm em FM.out (R_a.out.grow (Gr.refl w2)) (R_b.out.grow (Gr.refl w2)) HX.out (pw_pos 64)).mono ?_
  rintro e w3 ⟨pp, np, cp, rfl, hr_p, hg⟩
  replace k_a := hg.cell k_a
  replace k_b := hg.cell k_b
  have gg := (Gr.refl w2).trans hg
  replace R_a := Lib.hid (R_a.out.grow gg)
  replace R_b := Lib.hid (R_b.out.grow gg)
  replace G := Lib.hid (G.out.trans gg)
  have R_p := Lib.hid hr_p.toNw
  clear hr_p
  clear hg gg
  replace k_a := ((Gr.refl w3).alloc (.cells #[.slice pp np cp] 24)).cell k_a
  replace k_b := ((Gr.refl w3).alloc (.cells #[.slice pp np cp] 24)).cell k_b
  have k_p : (w3.alloc (.cells #[.slice pp np cp] 24)).cell? ⟨w3.heap.size, 0, none⟩ = some (.slice pp np cp) := by simp [go_sem]
  go_wp2_with fail
  refine (Div_v_zero (R_a.out.grow ((Gr.refl w3).alloc (.cells #[.slice pp np cp] 24))) (R_b.out.grow ((Gr.refl w3).alloc (.cells #[.slice pp np cp] 24))) HX.out).mono ?_
  rintro e w4 ⟨pq, pr, nq, cq, nr, cr, rfl, hr_q, hr_r, hg⟩
  replace k_a := hg.cell k_a
  replace k_b := hg.cell k_b
  replace k_p := hg.cell k_p
  have gg := ((Gr.refl w3).alloc (.cells #[.slice pp np cp] 24)).trans hg
  replace R_a := Lib.hid (R_a.out.grow gg)
  replace R_b := Lib.hid (R_b.out.grow gg)
  replace R_p := Lib.hid (R_p.out.grow gg)
  replace G := Lib.hid (G.out.trans gg)
  have R_q := Lib.hid hr_q.toNw
  clear hr_q
  have R_r := Lib.hid hr_r.toNw
  clear hr_r
  clear hg gg
  replace k_a := ((Gr.refl w4).alloc (.cells #[.slice pq nq cq] 24)).cell k_a
  replace k_b := ((Gr.refl w4).alloc (.cells #[.slice pq nq cq] 24)).cell k_b
  replace k_p := ((Gr.refl w4).alloc (.cells #[.slice pq nq cq] 24)).cell k_p
  have k_q : (w4.alloc (.cells #[.slice pq nq cq] 24)).cell? ⟨w4.heap.size, 0, none⟩ = some (.slice pq nq cq) := by simp [go_sem]
  replace k_a := ((Gr.refl (w4.alloc (.cells #[.slice pq nq cq] 24))).alloc (.cells #[.slice pr nr cr] 24)).cell k_a
  replace k_b := ((Gr.refl (w4.alloc (.cells #[.slice pq nq cq] 24))).alloc (.cells #[.slice pr nr cr] 24)).cell k_b
  replace k_p := ((Gr.refl (w4.alloc (.cells #[.slice pq nq cq] 24))).alloc (.cells #[.slice pr nr cr] 24)).cell k_p
  replace k_q := ((Gr.refl (w4.alloc (.cells #[.slice pq nq cq] 24))).alloc (.cells #[.slice pr nr cr] 24)).cell k_q
  have k_r : ((w4.alloc (.cells #[.slice pq nq cq] 24)).alloc (.cells #[.slice pr nr cr] 24)).cell? ⟨w4.heap.size + 1, 0, none⟩ = some (.slice pr nr cr) := by simp [go_sem]
  go_wp2_with fail
  refine (shift_out (R_a.out.grow (((Gr.refl w4).alloc (.cells #[.slice pq nq cq] 24)).alloc (.cells #[.slice pr nr cr] 24))) HX.out M HO.out).mono ?_
  rintro e w5 ⟨ps, ns, cs, rfl, hr_s, hg⟩
  replace k_a := hg.cell k_a
  replace k_b := hg.cell k_b
  replace k_p := hg.cell k_p
  replace k_q := hg.cell k_q
  replace k_r := hg.cell k_r
  have gg := (((Gr.refl w4).alloc (.cells #[.slice pq nq cq] 24)).alloc (.cells #[.slice pr nr cr] 24)).trans hg
  replace R_a := Lib.hid (R_a.out.grow gg)
  replace R_b := Lib.hid (R_b.out.grow gg)
  replace R_p := Lib.hid (R_p.out.grow gg)
  replace R_q := Lib.hid (R_q.out.grow gg)
  replace R_r := Lib.hid (R_r.out.grow gg)
  replace G := Lib.hid (G.out.trans gg)
  have R_s := Lib.hid hr_s.toNw
  clear hr_s
  clear hg gg
  replace k_a := ((Gr.refl w5).alloc (.cells #[.slice ps ns cs] 24)).cell k_a
  replace k_b := ((Gr.refl w5).alloc (.cells #[.slice ps ns cs] 24)).cell k_b
  replace k_p := ((Gr.refl w5).alloc (.cells #[.slice ps ns cs] 24)).cell k_p
  replace k_q := ((Gr.refl w5).alloc (.cells #[.slice ps ns cs] 24)).cell k_q
  replace k_r := ((Gr.refl w5).alloc (.cells #[.slice ps ns cs] 24)).cell k_r
  have k_s : (w5.alloc (.cells #[.slice ps ns cs] 24)).cell? ⟨w5.heap.size, 0, none⟩ = some (.slice ps ns cs) := by simp [go_sem]
  go_wp2_with fail
  refine (RValid_v (R_a.out.grow ((Gr.refl w5).alloc (.cells #[.slice ps ns cs] 24))) HX.out).mono ?_
  rintro e w6 ⟨rfl, hg⟩
  replace k_a := hg.cell k_a
  replace k_b := hg.cell k_b
  replace k_p := hg.cell k_p
  replace k_q := hg.cell k_q
  replace k_r := hg.cell k_r
  replace k_s := hg.cell k_s
  have gg := ((Gr.refl w5).alloc (.cells #[.slice ps ns cs] 24)).trans hg
  replace R_a := Lib.hid (R_a.out.grow gg)
  replace R_b := Lib.hid (R_b.out.grow gg)
  replace R_p := Lib.hid (R_p.out.grow gg)
  replace R_q := Lib.hid (R_q.out.grow gg)
  replace R_r := Lib.hid (R_r.out.grow gg)
  replace R_s := Lib.hid (R_s.out.grow gg)
  replace G := Lib.hid (G.out.trans gg)
  clear hg gg
  go_wp2_with fail
  refine (is_lit (x := 0) 2 2 rfl (by decide) (R_s.out.grow (Gr.refl w6)) (by rw [digs_zero]; exact Nw.zero _)).mono ?_
  rintro e w7 ⟨rfl, hg⟩
  replace k_a := hg.cell k_a
  replace k_b := hg.cell k_b
  replace k_p := hg.cell k_p
  replace k_q := hg.cell k_q
  replace k_r := hg.cell k_r
  replace k_s := hg.cell k_s
  have gg := (Gr.refl w6).trans hg
  replace R_a := Lib.hid (R_a.out.grow gg)
  replace R_b := Lib.hid (R_b.out.grow gg)
  replace R_p := Lib.hid (R_p.out.grow gg)
  replace R_q := Lib.hid (R_q.out.grow gg)
  replace R_r := Lib.hid (R_r.out.grow gg)
  replace R_s := Lib.hid (R_s.out.grow gg)
  replace G := Lib.hid (G.out.trans gg)
  clear hg gg
  clear k_s
  clear R_s
  go_wp2_with fail
  refine (RValid_v (R_b.out.grow (Gr.refl w7)) (pw_pos 64)).mono ?_
  rintro e w8 ⟨rfl, hg⟩
  replace k_a := hg.cell k_a
  replace k_b := hg.cell k_b
  replace k_p := hg.cell k_p
  replace k_q := hg.cell k_q
  replace k_r := hg.cell k_r
  have gg := (Gr.refl w7).trans hg
  replace R_a := Lib.hid (R_a.out.grow gg)
  replace R_b := Lib.hid (R_b.out.grow gg)
  replace R_p := Lib.hid (R_p.out.grow gg)
  replace R_q := Lib.hid (R_q.out.grow gg)
  replace R_r := Lib.hid (R_r.out.grow gg)
  replace G := Lib.hid (G.out.trans gg)
  clear hg gg
  go_wp2_with fail
  refine (rmul_v _ _ _ _ _ _ _ _ zm em FM.out (by have := Sa.out; omega) (by have := Sb.out; omega) _ (R_a.out.grow (Gr.refl w8)) (R_b.out.grow (Gr.refl w8))).mono ?_
  rintro e w9 ⟨pt, nt, ct, rfl, hr_t, hg⟩
  replace k_a := hg.cell k_a
  replace k_b := hg.cell k_b
  replace k_p := hg.cell k_p
  replace k_q := hg.cell k_q
  replace k_r := hg.cell k_r
  have gg := (Gr.refl w8).trans hg
  replace R_a := Lib.hid (R_a.out.grow gg)
  replace R_b := Lib.hid (R_b.out.grow gg)
  replace R_p := Lib.hid (R_p.out.grow gg)
  replace R_q := Lib.hid (R_q.out.grow gg)
  replace R_r := Lib.hid (R_r.out.grow gg)
  replace G := Lib.hid (G.out.trans gg)
  have R_t := Lib.hid hr_t.toNw
  clear hr_t
  clear hg gg
  replace k_a := ((Gr.refl w9).alloc (.cells #[.slice pt nt ct] 24)).cell k_a
  replace k_b := ((Gr.refl w9).alloc (.cells #[.slice pt nt ct] 24)).cell k_b
  replace k_p := ((Gr.refl w9).alloc (.cells #[.slice pt nt ct] 24)).cell k_p
  replace k_q := ((Gr.refl w9).alloc (.cells #[.slice pt nt ct] 24)).cell k_q
  replace k_r := ((Gr.refl w9).alloc (.cells #[.slice pt nt ct] 24)).cell k_r
  have k_t : (w9.alloc (.cells #[.slice pt nt ct] 24)).cell? ⟨w9.heap.size, 0, none⟩ = some (.slice pt nt ct) := by simp [go_sem]
  go_wp2_with fail
  refine (is_lit em (em : Int) rfl HEM.out (R_p.out.grow ((Gr.refl w9).alloc (.cells #[.slice pt nt ct] 24))) (R_t.out.grow ((Gr.refl w9).alloc (.cells #[.slice pt nt ct] 24)))).mono ?_
  rintro e w10 ⟨rfl, hg⟩
  replace k_a := hg.cell k_a
  replace k_b := hg.cell k_b
  replace k_p := hg.cell k_p
  replace k_q := hg.cell k_q
  replace k_r := hg.cell k_r
  replace k_t := hg.cell k_t
  have gg := ((Gr.refl w9).alloc (.cells #[.slice pt nt ct] 24)).trans hg
  replace R_a := Lib.hid (R_a.out.grow gg)
  replace R_b := Lib.hid (R_b.out.grow gg)
  replace R_p := Lib.hid (R_p.out.grow gg)
  replace R_q := Lib.hid (R_q.out.grow gg)
  replace R_r := Lib.hid (R_r.out.grow gg)
  replace R_t := Lib.hid (R_t.out.grow gg)
  replace G := Lib.hid (G.out.trans gg)
  clear hg gg
  clear k_p
  clear R_p
  clear k_t
  clear R_t
  go_wp2_with fail
  refine (is_lit (x := 0) 10 10 rfl (by decide) (R_q.out.grow (Gr.refl w10)) (by rw [digs_zero]; exact Nw.zero _)).mono ?_
  rintro e w11 ⟨rfl, hg⟩
  replace k_a := hg.cell k_a
  replace k_b := hg.cell k_b
  replace k_q := hg.cell k_q
  replace k_r := hg.cell k_r
  have gg := (Gr.refl w10).trans hg
  replace R_a := Lib.hid (R_a.out.grow gg)
  replace R_b := Lib.hid (R_b.out.grow gg)
  replace R_q := Lib.hid (R_q.out.grow gg)
  replace R_r := Lib.hid (R_r.out.grow gg)
  replace G := Lib.hid (G.out.trans gg)
  clear hg gg
  go_wp2_with fail
  refine (Same_v_eq (x := 0) (y := 0) rfl (R_r.out.grow (Gr.refl w11)) (by rw [digs_zero]; exact Nw.zero _)).mono ?_
  rintro e w12 ⟨rfl, hg⟩
  replace k_a := hg.cell k_a
  replace k_b := hg.cell k_b
  replace k_q := hg.cell k_q
  replace k_r := hg.cell k_r
  have gg := (Gr.refl w11).trans hg
  replace R_a := Lib.hid (R_a.out.grow gg)
  replace R_b := Lib.hid (R_b.out.grow gg)
  replace R_q := Lib.hid (R_q.out.grow gg)
  replace R_r := Lib.hid (R_r.out.grow gg)
  replace G := Lib.hid (G.out.trans gg)
  clear hg gg
  go_wp2
  go_ret
  exact ⟨rfl, G.out⟩

set_option maxRecDepth 100000 in
set_option maxHeartbeats 40000000 in
theorem ok_hi_pos (w : World) (ba bb : Option Addr) (na ca nb cb : Nat) (M : Int) (x : Nat) (hx : x < pw 64) (ha : Nw w ba na ca (digs x)) (sa : na ≤ 100) (sb : nb ≤ 100) (hM : 10000 < M) (y : Nat) (hy : y < pw 64) (h0 : 0 < y) (hb : Nw w bb nb cb (digs y)) : Calls Try.prog 5 #[.agg #[.slice ba na ca], .agg #[.slice bb nb cb], .int .i64 M] w fun e w' => e = .returned (.bool true) ∧ Gr w w' := by
  have G := Lib.hid (Gr.refl w)
  have R_a := Lib.hid ha
  have R_b := Lib.hid hb
  have Sa := Lib.hid sa
  have Sb := Lib.hid sb
  have HX := Lib.hid hx
  have HO : Hid (M < -10000 ∨ 10000 < M) := Lib.hid (.inr hM)
  have hM2 : ¬ M < -10000 := by omega
  obtain ⟨zm, em, f_m⟩ := fits_ex (x * y)
  have FM := Lib.hid f_m
  have HEM : Hid (em < 1000) := Lib.hid (by rcases f_m.code with h | h <;> omega)
  clear f_m
  have HY := Lib.hid hy
  have H0 := Lib.hid h0
  have hn0 : nb ≠ 0 := fun e => by have := (len_zero hb).1 e; omega
  have hn : ((nb : Int) == 0) = false := by simp; omega
  clear hn0
  clear ha hb sa sb hx hy h0
  have k_a : ((w.alloc (.cells #[.slice ba na ca] 24)).alloc (.cells #[.slice bb nb cb] 24)).cell? ⟨w.heap.size, 0, none⟩ = some (.slice ba na ca) := by simp [go_sem]
  have k_b : ((w.alloc (.cells #[.slice ba na ca] 24)).alloc (.cells #[.slice bb nb cb] 24)).cell? ⟨w.heap.size + 1, 0, none⟩ = some (.slice bb nb cb) := by simp [go_sem]
  go_enter Try.func5, Try.ntmps5
  go_wp2_with fail
  refine (awake_any _).mono ?_
  rintro e w1 ⟨rfl, hg⟩
  replace k_a := hg.cell k_a
  replace k_b := hg.cell k_b
  have gg := (((Gr.refl w).alloc (.cells #[.slice ba na ca] 24)).alloc (.cells #[.slice bb nb cb] 24)).trans hg
  replace R_a := Lib.hid (R_a.out.grow gg)
  replace R_b := Lib.hid (R_b.out.grow gg)
  replace G := Lib.hid (G.out.trans gg)
  clear hg gg
  have sa := Sa.out
  have sb := Sb.out
  go_wp2_with fail
  replace k_a := ((Gr.refl w1).alloc (.cells #[.slice ba na ca, .slice bb nb cb] 24)).cell k_a
  replace k_b := ((Gr.refl w1).alloc (.cells #[.slice ba na ca, .slice bb nb cb] 24)).cell k_b
  refine (great_no (n := 2) (c := 2) rfl (by decide) (nats2 w1 ba bb na ca nb cb) (le2 sa sb)).mono ?_
  rintro e w2 ⟨rfl, hg⟩
  replace k_a := hg.cell k_a
  replace k_b := hg.cell k_b
  have gg := ((Gr.refl w1).alloc (.cells #[.slice ba na ca, .slice bb nb cb] 24)).trans hg
  replace R_a := Lib.hid (R_a.out.grow gg)
  replace R_b := Lib.hid (R_b.out.grow gg)
  replace G := Lib.hid (G.out.trans gg)
  clear hg gg
  clear sa sb
  go_wp2_with fail
  refine (Mul_v zm em FM.out (R_a.out.grow (Gr.refl w2)) (R_b.out.grow (Gr.refl w2)) HX.out HY.out).mono ?_
  rintro e w3 ⟨pp, np, cp, rfl, hr_p, hg⟩
  replace k_a := hg.cell k_a
  replace k_b := hg.cell k_b
  have gg := (Gr.refl w2).trans hg
  replace R_a := Lib.hid (R_a.out.grow gg)
  replace R_b := Lib.hid (R_b.out.grow gg)
  replace G := Lib.hid (G.out.trans gg)
  have R_p := Lib.hid hr_p.toNw
  clear hr_p
  clear hg gg
  replace k_a := ((Gr.refl w3).alloc (.cells #[.slice pp np cp] 24)).cell k_a
  replace k_b := ((Gr.refl w3).alloc (.cells #[.slice pp np cp] 24)).cell k_b
  have k_p : (w3.alloc (.cells #[.slice pp np cp] 24)).cell? ⟨w3.heap.size, 0, none⟩ = some (.slice pp np cp) := by simp [go_sem]
  go_wp2_with fail
  refine (Div_v H0.out (R_a.out.grow ((Gr.refl w3).alloc (.cells #[.slice pp np cp] 24))) (R_b.out.grow ((Gr.refl w3).alloc (.cells #[.slice pp np cp] 24))) HX.out HY.out).mono ?_
  rintro e w4 ⟨pq, pr, nq, cq, nr, cr, rfl, hr_q, hr_r, hg⟩
  replace k_a := hg.cell k_a
  replace k_b := hg.cell k_b
  replace k_p := hg.cell k_p
  have gg := ((Gr.refl w3).alloc (.cells #[.slice pp np cp] 24)).trans hg
  replace R_a := Lib.hid (R_a.out.grow gg)
  replace R_b := Lib.hid (R_b.out.grow gg)
  replace R_p := Lib.hid (R_p.out.grow gg)
  replace G := Lib.hid (G.out.trans gg)
  have R_q := Lib.hid hr_q.toNw
  clear hr_q
  have R_r := Lib.hid hr_r.toNw
  clear hr_r
  clear hg gg
  replace k_a := ((Gr.refl w4).alloc (.cells #[.slice pq nq cq] 24)).cell k_a
  replace k_b := ((Gr.refl w4).alloc (.cells #[.slice pq nq cq] 24)).cell k_b
  replace k_p := ((Gr.refl w4).alloc (.cells #[.slice pq nq cq] 24)).cell k_p
  have k_q : (w4.alloc (.cells #[.slice pq nq cq] 24)).cell? ⟨w4.heap.size, 0, none⟩ = some (.slice pq nq cq) := by simp [go_sem]
  replace k_a := ((Gr.refl (w4.alloc (.cells #[.slice pq nq cq] 24))).alloc (.cells #[.slice pr nr cr] 24)).cell k_a
  replace k_b := ((Gr.refl (w4.alloc (.cells #[.slice pq nq cq] 24))).alloc (.cells #[.slice pr nr cr] 24)).cell k_b
  replace k_p := ((Gr.refl (w4.alloc (.cells #[.slice pq nq cq] 24))).alloc (.cells #[.slice pr nr cr] 24)).cell k_p
  replace k_q := ((Gr.refl (w4.alloc (.cells #[.slice pq nq cq] 24))).alloc (.cells #[.slice pr nr cr] 24)).cell k_q
  have k_r : ((w4.alloc (.cells #[.slice pq nq cq] 24)).alloc (.cells #[.slice pr nr cr] 24)).cell? ⟨w4.heap.size + 1, 0, none⟩ = some (.slice pr nr cr) := by simp [go_sem]
  go_wp2_with fail
  refine (shift_out (R_a.out.grow (((Gr.refl w4).alloc (.cells #[.slice pq nq cq] 24)).alloc (.cells #[.slice pr nr cr] 24))) HX.out M HO.out).mono ?_
  rintro e w5 ⟨ps, ns, cs, rfl, hr_s, hg⟩
  replace k_a := hg.cell k_a
  replace k_b := hg.cell k_b
  replace k_p := hg.cell k_p
  replace k_q := hg.cell k_q
  replace k_r := hg.cell k_r
  have gg := (((Gr.refl w4).alloc (.cells #[.slice pq nq cq] 24)).alloc (.cells #[.slice pr nr cr] 24)).trans hg
  replace R_a := Lib.hid (R_a.out.grow gg)
  replace R_b := Lib.hid (R_b.out.grow gg)
  replace R_p := Lib.hid (R_p.out.grow gg)
  replace R_q := Lib.hid (R_q.out.grow gg)
  replace R_r := Lib.hid (R_r.out.grow gg)
  replace G := Lib.hid (G.out.trans gg)
  have R_s := Lib.hid hr_s.toNw
  clear hr_s
  clear hg gg
  replace k_a := ((Gr.refl w5).alloc (.cells #[.slice ps ns cs] 24)).cell k_a
  replace k_b := ((Gr.refl w5).alloc (.cells #[.slice ps ns cs] 24)).cell k_b
  replace k_p := ((Gr.refl w5).alloc (.cells #[.slice ps ns cs] 24)).cell k_p
  replace k_q := ((Gr.refl w5).alloc (.cells #[.slice ps ns cs] 24)).cell k_q
  replace k_r := ((Gr.refl w5).alloc (.cells #[.slice ps ns cs] 24)).cell k_r
  have k_s : (w5.alloc (.cells #[.slice ps ns cs] 24)).cell? ⟨w5.heap.size, 0, none⟩ = some (.slice ps ns cs) := by simp [go_sem]
  go_wp2_with fail
  refine (RValid_v (R_a.out.grow ((Gr.refl w5).alloc (.cells #[.slice ps ns cs] 24))) HX.out).mono ?_
  rintro e w6 ⟨rfl, hg⟩
  replace k_a := hg.cell k_a
  replace k_b := hg.cell k_b
  replace k_p := hg.cell k_p
  replace k_q := hg.cell k_q
  replace k_r := hg.cell k_r
  replace k_s := hg.cell k_s
  have gg := ((Gr.refl w5).alloc (.cells #[.slice ps ns cs] 24)).trans hg
  replace R_a := Lib.hid (R_a.out.grow gg)
  replace R_b := Lib.hid (R_b.out.grow gg)
  replace R_p := Lib.hid (R_p.out.grow gg)
  replace R_q := Lib.hid (R_q.out.grow gg)
  replace R_r := Lib.hid (R_r.out.grow gg)
  replace R_s := Lib.hid (R_s.out.grow gg)
  replace G := Lib.hid (G.out.trans gg)
  clear hg gg
  go_wp2_with fail
  refine (is_lit (x := 0) 2 2 rfl (by decide) (R_s.out.grow (Gr.refl w6)) (by rw [digs_zero]; exact Nw.zero _)).mono ?_
  rintro e w7 ⟨rfl, hg⟩
  replace k_a := hg.cell k_a
  replace k_b := hg.cell k_b
  replace k_p := hg.cell k_p
  replace k_q := hg.cell k_q
  replace k_r := hg.cell k_r
  replace k_s := hg.cell k_s
  have gg := (Gr.refl w6).trans hg
  replace R_a := Lib.hid (R_a.out.grow gg)
  replace R_b := Lib.hid (R_b.out.grow gg)
  replace R_p := Lib.hid (R_p.out.grow gg)
  replace R_q := Lib.hid (R_q.out.grow gg)
  replace R_r := Lib.hid (R_r.out.grow gg)
  replace R_s := Lib.hid (R_s.out.grow gg)
  replace G := Lib.hid (G.out.trans gg)
  clear hg gg
  clear k_s
  clear R_s
  go_wp2_with fail
  refine (RValid_v (R_b.out.grow (Gr.refl w7)) HY.out).mono ?_
  rintro e w8 ⟨rfl, hg⟩
  replace k_a := hg.cell k_a
  replace k_b := hg.cell k_b
  replace k_p := hg.cell k_p
  replace k_q := hg.cell k_q
  replace k_r := hg.cell k_r
  have gg := (Gr.refl w7).trans hg
  replace R_a := Lib.hid (R_a.out.grow gg)
  replace R_b := Lib.hid (R_b.out.grow gg)
  replace R_p := Lib.hid (R_p.out.grow gg)
  replace R_q := Lib.hid (R_q.out.grow gg)
  replace R_r := Lib.hid (R_r.out.grow gg)
  replace G := Lib.hid (G.out.trans gg)
  clear hg gg
  go_wp2_with fail
  refine (rmul_v _ _ _ _ _ _ _ _ zm em FM.out (by have := Sa.out; omega) (by have := Sb.out; omega) _ (R_a.out.grow (Gr.refl w8)) (R_b.out.grow (Gr.refl w8))).mono ?_
  rintro e w9 ⟨pt, nt, ct, rfl, hr_t, hg⟩
  replace k_a := hg.cell k_a
  replace k_b := hg.cell k_b
  replace k_p := hg.cell k_p
  replace k_q := hg.cell k_q
  replace k_r := hg.cell k_r
  have gg := (Gr.refl w8).trans hg
  replace R_a := Lib.hid (R_a.out.grow gg)
  replace R_b := Lib.hid (R_b.out.grow gg)
  replace R_p := Lib.hid (R_p.out.grow gg)
  replace R_q := Lib.hid (R_q.out.grow gg)
  replace R_r := Lib.hid (R_r.out.grow gg)
  replace G := Lib.hid (G.out.trans gg)
  have R_t := Lib.hid hr_t.toNw
  clear hr_t
  clear hg gg
  replace k_a := ((Gr.refl w9).alloc (.cells #[.slice pt nt ct] 24)).cell k_a
  replace k_b := ((Gr.refl w9).alloc (.cells #[.slice pt nt ct] 24)).cell k_b
  replace k_p := ((Gr.refl w9).alloc (.cells #[.slice pt nt ct] 24)).cell k_p
  replace k_q := ((Gr.refl w9).alloc (.cells #[.slice pt nt ct] 24)).cell k_q
  replace k_r := ((Gr.refl w9).alloc (.cells #[.slice pt nt ct] 24)).cell k_r
  have k_t : (w9.alloc (.cells #[.slice pt nt ct] 24)).cell? ⟨w9.heap.size, 0, none⟩ = some (.slice pt nt ct) := by simp [go_sem]
  go_wp2_with fail
  refine (is_lit em (em : Int) rfl HEM.out (R_p.out.grow ((Gr.refl w9).alloc (.cells #[.slice pt nt ct] 24))) (R_t.out.grow ((Gr.refl w9).alloc (.cells #[.slice pt nt ct] 24)))).mono ?_
  rintro e w10 ⟨rfl, hg⟩
  replace k_a := hg.cell k_a
  replace k_b := hg.cell k_b
  replace k_p := hg.cell k_p
  replace k_q := hg.cell k_q
  replace k_r := hg.cell k_r
  replace k_t := hg.cell k_t
  have gg := ((Gr.refl w9).alloc (.cells #[.slice pt nt ct] 24)).trans hg
  replace R_a := Lib.hid (R_a.out.grow gg)
  replace R_b := Lib.hid (R_b.out.grow gg)
  replace R_p := Lib.hid (R_p.out.grow gg)
  replace R_q := Lib.hid (R_q.out.grow gg)
  replace R_r := Lib.hid (R_r.out.grow gg)
  replace R_t := Lib.hid (R_t.out.grow gg)
  replace G := Lib.hid (G.out.trans gg)
  clear hg gg
  clear k_p
  clear R_p
  clear k_t
  clear R_t
  go_wp2_with fail
  refine (rdiv_v _ _ _ _ _ _ _ _ HX.out H0.out HY.out _ (R_a.out.grow (Gr.refl w10)) (R_b.out.grow (Gr.refl w10))).mono ?_
  rintro e w11 ⟨px, py, nx, cx, ny, cy, rfl, hr_x, hr_y, hg⟩
  replace k_a := hg.cell k_a
  replace k_b := hg.cell k_b
  replace k_q := hg.cell k_q
  replace k_r := hg.cell k_r
  have gg := (Gr.refl w10).trans hg
  replace R_a := Lib.hid (R_a.out.grow gg)
  replace R_b := Lib.hid (R_b.out.grow gg)
  replace R_q := Lib.hid (R_q.out.grow gg)
  replace R_r := Lib.hid (R_r.out.grow gg)
  replace G := Lib.hid (G.out.trans gg)
  have R_x := Lib.hid hr_x.toNw
  clear hr_x
  have R_y := Lib.hid hr_y.toNw
  clear hr_y
  clear hg gg
  replace k_a := ((Gr.refl w11).alloc (.cells #[.slice px nx cx] 24)).cell k_a
  replace k_b := ((Gr.refl w11).alloc (.cells #[.slice px nx cx] 24)).cell k_b
  replace k_q := ((Gr.refl w11).alloc (.cells #[.slice px nx cx] 24)).cell k_q
  replace k_r := ((Gr.refl w11).alloc (.cells #[.slice px nx cx] 24)).cell k_r
  have k_x : (w11.alloc (.cells #[.slice px nx cx] 24)).cell? ⟨w11.heap.size, 0, none⟩ = some (.slice px nx cx) := by simp [go_sem]
  replace k_a := ((Gr.refl (w11.alloc (.cells #[.slice px nx cx] 24))).alloc (.cells #[.slice py ny cy] 24)).cell k_a
  replace k_b := ((Gr.refl (w11.alloc (.cells #[.slice px nx cx] 24))).alloc (.cells #[.slice py ny cy] 24)).cell k_b
  replace k_q := ((Gr.refl (w11.alloc (.cells #[.slice px nx cx] 24))).alloc (.cells #[.slice py ny cy] 24)).cell k_q
  replace k_r := ((Gr.refl (w11.alloc (.cells #[.slice px nx cx] 24))).alloc (.cells #[.slice py ny cy] 24)).cell k_r
  replace k_x := ((Gr.refl (w11.alloc (.cells #[.slice px nx cx] 24))).alloc (.cells #[.slice py ny cy] 24)).cell k_x
  have k_y : ((w11.alloc (.cells #[.slice px nx cx] 24)).alloc (.cells #[.slice py ny cy] 24)).cell? ⟨w11.heap.size + 1, 0, none⟩ = some (.slice py ny cy) := by simp [go_sem]
  go_wp2_with fail
  refine (is_lit 0 0 rfl (by decide) (R_q.out.grow (((Gr.refl w11).alloc (.cells #[.slice px nx cx] 24)).alloc (.cells #[.slice py ny cy] 24))) (R_x.out.grow (((Gr.refl w11).alloc (.cells #[.slice px nx cx] 24)).alloc (.cells #[.slice py ny cy] 24)))).mono ?_
  rintro e w12 ⟨rfl, hg⟩
  replace k_a := hg.cell k_a
  replace k_b := hg.cell k_b
  replace k_q := hg.cell k_q
  replace k_r := hg.cell k_r
  replace k_x := hg.cell k_x
  replace k_y := hg.cell k_y
  have gg := (((Gr.refl w11).alloc (.cells #[.slice px nx cx] 24)).alloc (.cells #[.slice py ny cy] 24)).trans hg
  replace R_a := Lib.hid (R_a.out.grow gg)
  replace R_b := Lib.hid (R_b.out.grow gg)
  replace R_q := Lib.hid (R_q.out.grow gg)
  replace R_r := Lib.hid (R_r.out.grow gg)
  replace R_x := Lib.hid (R_x.out.grow gg)
  replace R_y := Lib.hid (R_y.out.grow gg)
  replace G := Lib.hid (G.out.trans gg)
  clear hg gg
  go_wp2_with fail
  refine (Same_v_eq rfl (R_r.out.grow (Gr.refl w12)) (R_y.out.grow (Gr.refl w12))).mono ?_
  rintro e w13 ⟨rfl, hg⟩
  replace k_a := hg.cell k_a
  replace k_b := hg.cell k_b
  replace k_q := hg.cell k_q
  replace k_r := hg.cell k_r
  replace k_x := hg.cell k_x
  replace k_y := hg.cell k_y
  have gg := (Gr.refl w12).trans hg
  replace R_a := Lib.hid (R_a.out.grow gg)
  replace R_b := Lib.hid (R_b.out.grow gg)
  replace R_q := Lib.hid (R_q.out.grow gg)
  replace R_r := Lib.hid (R_r.out.grow gg)
  replace R_x := Lib.hid (R_x.out.grow gg)
  replace R_y := Lib.hid (R_y.out.grow gg)
  replace G := Lib.hid (G.out.trans gg)
  clear hg gg
  go_wp2
  go_ret
  exact ⟨rfl, G.out⟩

set_option maxRecDepth 100000 in
set_option maxHeartbeats 40000000 in
theorem ok_in_bad (w : World) (ba bb : Option Addr) (na ca nb cb : Nat) (M : Int) (x : Nat) (hx : x < pw 64) (ha : Nw w ba na ca (digs x)) (sa : na ≤ 100) (sb : nb ≤ 100) (hM : -10000 ≤ M) (hM2 : M ≤ 10000) (lb : List Nat) (hb : Nw w bb nb cb lb) (vb : decide (valid lb) = false) : Calls Try.prog 5 #[.agg #[.slice ba na ca], .agg #[.slice bb nb cb], .int .i64 M] w fun e w' => e = .returned (.bool true) ∧ Gr w w' := by
  have G := Lib.hid (Gr.refl w)
  have R_a := Lib.hid ha
  have R_b := Lib.hid hb
  have Sa := Lib.hid sa
  have Sb := Lib.hid sb
  have HX := Lib.hid hx
  obtain ⟨zs, es, hes, hs1, hs2⟩ := shift_ex ha hx M hM hM2
  have HES := Lib.hid hes
  have HS1 := Lib.hid hs1
  have HS2 := Lib.hid hs2
  have hM3 : ¬ M < -10000 := by omega
  have hM4 : ¬ 10000 < M := by omega
  clear hes hs1 hs2 hM hM2
  have VB := Lib.hid vb
  clear ha hb sa sb hx vb
  have k_a : ((w.alloc (.cells #[.slice ba na ca] 24)).alloc (.cells #[.slice bb nb cb] 24)).cell? ⟨w.heap.size, 0, none⟩ = some (.slice ba na ca) := by simp [go_sem]
  have k_b : ((w.alloc (.cells #[.slice ba na ca] 24)).alloc (.cells #[.slice bb nb cb] 24)).cell? ⟨w.heap.size + 1, 0, none⟩ = some (.slice bb nb cb) := by simp [go_sem]
  go_enter Try.func5, Try.ntmps5
  go_wp2_with fail
  refine (awake_any _).mono ?_
  rintro e w1 ⟨rfl, hg⟩
  replace k_a := hg.cell k_a
  replace k_b := hg.cell k_b
  have gg := (((Gr.refl w).alloc (.cells #[.slice ba na ca] 24)).alloc (.cells #[.slice bb nb cb] 24)).trans hg
  replace R_a := Lib.hid (R_a.out.grow gg)
  replace R_b := Lib.hid (R_b.out.grow gg)
  replace G := Lib.hid (G.out.trans gg)
  clear hg gg
  have sa := Sa.out
  have sb := Sb.out
  go_wp2_with fail
  replace k_a := ((Gr.refl w1).alloc (.cells #[.slice ba na ca, .slice bb nb cb] 24)).cell k_a
  replace k_b := ((Gr.refl w1).alloc (.cells #[.slice ba na ca, .slice bb nb cb] 24)).cell k_b
  refine (great_no (n := 2) (c := 2) rfl (by decide) (nats2 w1 ba bb na ca nb cb) (le2 sa sb)).mono ?_
  rintro e w2 ⟨rfl, hg⟩
  replace k_a := hg.cell k_a
  replace k_b := hg.cell k_b
  have gg := ((Gr.refl w1).alloc (.cells #[.slice ba na ca, .slice bb nb cb] 24)).trans hg
  replace R_a := Lib.hid (R_a.out.grow gg)
  replace R_b := Lib.hid (R_b.out.grow gg)
  replace G := Lib.hid (G.out.trans gg)
  clear hg gg
  clear sa sb
  go_wp2_with fail
  refine (Mul_bad _ _ _ _ _ _ _ _ _ (R_a.out.grow (Gr.refl w2)) (R_b.out.grow (Gr.refl w2)) (.inr VB.out)).mono ?_
  rintro e w3 ⟨rfl, hg⟩
  replace k_a := hg.cell k_a
  replace k_b := hg.cell k_b
  have gg := (Gr.refl w2).trans hg
  replace R_a := Lib.hid (R_a.out.grow gg)
  replace R_b := Lib.hid (R_b.out.grow gg)
  replace G := Lib.hid (G.out.trans gg)
  clear hg gg
  replace k_a := ((Gr.refl w3).alloc (.cells #[.slice none 0 0] 24)).cell k_a
  replace k_b := ((Gr.refl w3).alloc (.cells #[.slice none 0 0] 24)).cell k_b
  have k_p : (w3.alloc (.cells #[.slice none 0 0] 24)).cell? ⟨w3.heap.size, 0, none⟩ = some (.slice none 0 0) := by simp [go_sem]
  go_wp2_with fail
  refine (Div_bad _ _ _ _ _ _ _ _ _ (R_a.out.grow ((Gr.refl w3).alloc (.cells #[.slice none 0 0] 24))) (R_b.out.grow ((Gr.refl w3).alloc (.cells #[.slice none 0 0] 24))) (.inr VB.out)).mono ?_
  rintro e w4 ⟨rfl, hg⟩
  replace k_a := hg.cell k_a
  replace k_b := hg.cell k_b
  replace k_p := hg.cell k_p
  have gg := ((Gr.refl w3).alloc (.cells #[.slice none 0 0] 24)).trans hg
  replace R_a := Lib.hid (R_a.out.grow gg)
  replace R_b := Lib.hid (R_b.out.grow gg)
  replace G := Lib.hid (G.out.trans gg)
  clear hg gg
  replace k_a := ((Gr.refl w4).alloc (.cells #[.slice none 0 0] 24)).cell k_a
  replace k_b := ((Gr.refl w4).alloc (.cells #[.slice none 0 0] 24)).cell k_b
  replace k_p := ((Gr.refl w4).alloc (.cells #[.slice none 0 0] 24)).cell k_p
  have k_q : (w4.alloc (.cells #[.slice none 0 0] 24)).cell? ⟨w4.heap.size, 0, none⟩ = some (.slice none 0 0) := by simp [go_sem]
  replace k_a := ((Gr.refl (w4.alloc (.cells #[.slice none 0 0] 24))).alloc (.cells #[.slice none 0 0] 24)).cell k_a
  replace k_b := ((Gr.refl (w4.alloc (.cells #[.slice none 0 0] 24))).alloc (.cells #[.slice none 0 0] 24)).cell k_b
  replace k_p := ((Gr.refl (w4.alloc (.cells #[.slice none 0 0] 24))).alloc (.cells #[.slice none 0 0] 24)).cell k_p
  replace k_q := ((Gr.refl (w4.alloc (.cells #[.slice none 0 0] 24))).alloc (.cells #[.slice none 0 0] 24)).cell k_q
  have k_r : ((w4.alloc (.cells #[.slice none 0 0] 24)).alloc (.cells #[.slice none 0 0] 24)).cell? ⟨w4.heap.size + 1, 0, none⟩ = some (.slice none 0 0) := by simp [go_sem]
  go_wp2_with fail
  refine (HS1.out _ (G.out.trans (((Gr.refl w4).alloc (.cells #[.slice none 0 0] 24)).alloc (.cells #[.slice none 0 0] 24)))).mono ?_
  rintro e w5 ⟨ps, ns, cs, rfl, hr_s, hg⟩
  replace k_a := hg.cell k_a
  replace k_b := hg.cell k_b
  replace k_p := hg.cell k_p
  replace k_q := hg.cell k_q
  replace k_r := hg.cell k_r
  have gg := (((Gr.refl w4).alloc (.cells #[.slice none 0 0] 24)).alloc (.cells #[.slice none 0 0] 24)).trans hg
  replace R_a := Lib.hid (R_a.out.grow gg)
  replace R_b := Lib.hid (R_b.out.grow gg)
  replace G := Lib.hid (G.out.trans gg)
  have R_s := Lib.hid hr_s.toNw
  clear hr_s
  clear hg gg
  replace k_a := ((Gr.refl w5).alloc (.cells #[.slice ps ns cs] 24)).cell k_a
  replace k_b := ((Gr.refl w5).alloc (.cells #[.slice ps ns cs] 24)).cell k_b
  replace k_p := ((Gr.refl w5).alloc (.cells #[.slice ps ns cs] 24)).cell k_p
  replace k_q := ((Gr.refl w5).alloc (.cells #[.slice ps ns cs] 24)).cell k_q
  replace k_r := ((Gr.refl w5).alloc (.cells #[.slice ps ns cs] 24)).cell k_r
  have k_s : (w5.alloc (.cells #[.slice ps ns cs] 24)).cell? ⟨w5.heap.size, 0, none⟩ = some (.slice ps ns cs) := by simp [go_sem]
  go_wp2_with fail
  refine (RValid_v (R_a.out.grow ((Gr.refl w5).alloc (.cells #[.slice ps ns cs] 24))) HX.out).mono ?_
  rintro e w6 ⟨rfl, hg⟩
  replace k_a := hg.cell k_a
  replace k_b := hg.cell k_b
  replace k_p := hg.cell k_p
  replace k_q := hg.cell k_q
  replace k_r := hg.cell k_r
  replace k_s := hg.cell k_s
  have gg := ((Gr.refl w5).alloc (.cells #[.slice ps ns cs] 24)).trans hg
  replace R_a := Lib.hid (R_a.out.grow gg)
  replace R_b := Lib.hid (R_b.out.grow gg)
  replace R_s := Lib.hid (R_s.out.grow gg)
  replace G := Lib.hid (G.out.trans gg)
  clear hg gg
  go_wp2_with fail
  refine (HS2.out _ (G.out.trans (Gr.refl w6))).mono ?_
  rintro e w7 ⟨pw1, nw1, cw1, rfl, hr_w, hg⟩
  replace k_a := hg.cell k_a
  replace k_b := hg.cell k_b
  replace k_p := hg.cell k_p
  replace k_q := hg.cell k_q
  replace k_r := hg.cell k_r
  replace k_s := hg.cell k_s
  have gg := (Gr.refl w6).trans hg
  replace R_a := Lib.hid (R_a.out.grow gg)
  replace R_b := Lib.hid (R_b.out.grow gg)
  replace R_s := Lib.hid (R_s.out.grow gg)
  replace G := Lib.hid (G.out.trans gg)
  have R_w := Lib.hid hr_w.toNw
  clear hr_w
  clear hg gg
  replace k_a := ((Gr.refl w7).alloc (.cells #[.slice pw1 nw1 cw1] 24)).cell k_a
  replace k_b := ((Gr.refl w7).alloc (.cells #[.slice pw1 nw1 cw1] 24)).cell k_b
  replace k_p := ((Gr.refl w7).alloc (.cells #[.slice pw1 nw1 cw1] 24)).cell k_p
  replace k_q := ((Gr.refl w7).alloc (.cells #[.slice pw1 nw1 cw1] 24)).cell k_q
  replace k_r := ((Gr.refl w7).alloc (.cells #[.slice pw1 nw1 cw1] 24)).cell k_r
  replace k_s := ((Gr.refl w7).alloc (.cells #[.slice pw1 nw1 cw1] 24)).cell k_s
  have k_w : (w7.alloc (.cells #[.slice pw1 nw1 cw1] 24)).cell? ⟨w7.heap.size, 0, none⟩ = some (.slice pw1 nw1 cw1) := by simp [go_sem]
  go_wp2_with fail
  refine (is_lit es (es : Int) rfl HES.out (R_s.out.grow ((Gr.refl w7).alloc (.cells #[.slice pw1 nw1 cw1] 24))) (R_w.out.grow ((Gr.refl w7).alloc (.cells #[.slice pw1 nw1 cw1] 24)))).mono ?_
  rintro e w8 ⟨rfl, hg⟩
  replace k_a := hg.cell k_a
  replace k_b := hg.cell k_b
  replace k_p := hg.cell k_p
  replace k_q := hg.cell k_q
  replace k_r := hg.cell k_r
  replace k_s := hg.cell k_s
  replace k_w := hg.cell k_w
  have gg := ((Gr.refl w7).alloc (.cells #[.slice pw1 nw1 cw1] 24)).trans hg
  replace R_a := Lib.hid (R_a.out.grow gg)
  replace R_b := Lib.hid (R_b.out.grow gg)
  replace R_s := Lib.hid (R_s.out.grow gg)
  replace R_w := Lib.hid (R_w.out.grow gg)
  replace G := Lib.hid (G.out.trans gg)
  clear hg gg
  clear k_w
  clear R_w
  clear k_s
  clear R_s
  go_wp2_with fail
  refine (RValid_no (R_b.out.grow (Gr.refl w8)) VB.out).mono ?_
  rintro e w9 ⟨rfl, hg⟩
  replace k_a := hg.cell k_a
  replace k_b := hg.cell k_b
  replace k_p := hg.cell k_p
  replace k_q := hg.cell k_q
  replace k_r := hg.cell k_r
  have gg := (Gr.refl w8).trans hg
  replace R_a := Lib.hid (R_a.out.grow gg)
  replace R_b := Lib.hid (R_b.out.grow gg)
  replace G := Lib.hid (G.out.trans gg)
  clear hg gg
  go_wp2_with fail
  refine (is_lit (x := 0) 1 1 rfl (by decide) (by rw [digs_zero]; exact Nw.zero _) (by rw [digs_zero]; exact Nw.zero _)).mono ?_
  rintro e w10 ⟨rfl, hg⟩
  replace k_a := hg.cell k_a
  replace k_b := hg.cell k_b
  replace k_p := hg.cell k_p
  replace k_q := hg.cell k_q
  replace k_r := hg.cell k_r
  have gg := (Gr.refl w9).trans hg
  replace R_a := Lib.hid (R_a.out.grow gg)
  replace R_b := Lib.hid (R_b.out.grow gg)
  replace G := Lib.hid (G.out.trans gg)
  clear hg gg
  go_wp2_with fail
  refine (is_lit (x := 0) 1 1 rfl (by decide) (by rw [digs_zero]; exact Nw.zero _) (by rw [digs_zero]; exact Nw.zero _)).mono ?_
  rintro e w11 ⟨rfl, hg⟩
  replace k_a := hg.cell k_a
  replace k_b := hg.cell k_b
  replace k_p := hg.cell k_p
  replace k_q := hg.cell k_q
  replace k_r := hg.cell k_r
  have gg := (Gr.refl w10).trans hg
  replace R_a := Lib.hid (R_a.out.grow gg)
  replace R_b := Lib.hid (R_b.out.grow gg)
  replace G := Lib.hid (G.out.trans gg)
  clear hg gg
  go_wp2_with fail
  refine (Same_v_eq (x := 0) (y := 0) rfl (by rw [digs_zero]; exact Nw.zero _) (by rw [digs_zero]; exact Nw.zero _)).mono ?_
  rintro e w12 ⟨rfl, hg⟩
  replace k_a := hg.cell k_a
  replace k_b := hg.cell k_b
  replace k_p := hg.cell k_p
  replace k_q := hg.cell k_q
  replace k_r := hg.cell k_r
  have gg := (Gr.refl w11).trans hg
  replace R_a := Lib.hid (R_a.out.grow gg)
  replace R_b := Lib.hid (R_b.out.grow gg)
  replace G := Lib.hid (G.out.trans gg)
  clear hg gg
  go_wp2
  go_ret
  exact ⟨rfl, G.out⟩

set_option maxRecDepth 100000 in
set_option maxHeartbeats 40000000 in
theorem ok_in_zero (w : World) (ba bb : Option Addr) (na ca nb cb : Nat) (M : Int) (x : Nat) (hx : x < pw 64) (ha : Nw w ba na ca (digs x)) (sa : na ≤ 100) (sb : nb ≤ 100) (hM : -10000 ≤ M) (hM2 : M ≤ 10000) (hb : Nw w bb nb cb (digs 0)) : Calls Try.prog 5 #[.agg #[.slice ba na ca], .agg #[.slice bb nb cb], .int .i64 M] w fun e w' => e = .returned (.bool true) ∧ Gr w w' := by
  have G := Lib.hid (Gr.refl w)
  have R_a := Lib.hid ha
  have R_b := Lib.hid hb
  have Sa := Lib.hid sa
  have Sb := Lib.hid sb
  have HX := Lib.hid hx
  obtain ⟨zs, es, hes, hs1, hs2⟩ := shift_ex ha hx M hM hM2
  have HES := Lib.hid hes
  have HS1 := Lib.hid hs1
  have HS2 := Lib.hid hs2
  have hM3 : ¬ M < -10000 := by omega
  have hM4 : ¬ 10000 < M := by omega
  clear hes hs1 hs2 hM hM2
  obtain ⟨zm, em, f_m⟩ := fits_ex (x * 0)
  have FM := Lib.hid f_m
  have HEM : Hid (em < 1000) := Lib.hid (by rcases f_m.code with h | h <;> omega)
  clear f_m
  have hn0 : nb = 0 := (len_zero hb).2 rfl
  have hn : ((nb : Int) == 0) = true := by rw [hn0]; rfl
  clear hn0
  clear ha hb sa sb hx
  have k_a : ((w.alloc (.cells #[.slice ba na ca] 24)).alloc (.cells #[.slice bb nb cb] 24)).cell? ⟨w.heap.size, 0, none⟩ = some (.slice ba na ca) := by simp [go_sem]
  have k_b : ((w.alloc (.cells #[.slice ba na ca] 24)).alloc (.cells #[.slice bb nb cb] 24)).cell? ⟨w.heap.size + 1, 0, none⟩ = some (.slice bb nb cb) := by simp [go_sem]
  go_enter Try.func5, Try.ntmps5
  go_wp2_with fail
  refine (awake_any _).mono ?_
  rintro e w1 ⟨rfl, hg⟩
  replace k_a := hg.cell k_a
  replace k_b := hg.cell k_b
  have gg := (((Gr.refl w).alloc (.cells #[.slice ba na ca] 24)).alloc (.cells #[.slice bb nb cb] 24)).trans hg
  replace R_a := Lib.hid (R_a.out.grow gg)
  replace R_b := Lib.hid (R_b.out.grow gg)
  replace G := Lib.hid (G.out.trans gg)
  clear hg gg
  have sa := Sa.out
  have sb := Sb.out
  go_wp2_with fail
  replace k_a := ((Gr.refl w1).alloc (.cells #[.slice ba na ca, .slice bb nb cb] 24)).cell k_a
  replace k_b := ((Gr.refl w1).alloc (.cells #[.slice ba na ca, .slice bb nb cb] 24)).cell k_b
  refine (great_no (n := 2) (c := 2) rfl (by decide) (nats2 w1 ba bb na ca nb cb) (le2 sa sb)).mono ?_
  rintro e w2 ⟨rfl, hg⟩
  replace k_a := hg.cell k_a
  replace k_b := hg.cell k_b
  have gg := ((Gr.refl w1).alloc (.cells #[.slice ba na ca, .slice bb nb cb] 24)).trans hg
  replace R_a := Lib.hid (R_a.out.grow gg)
  replace R_b := Lib.hid (R_b.out.grow gg)
  replace G := Lib.hid (G.out.trans gg)
  clear hg gg
  clear sa sb
  go_wp2_with fail
  refine (Mul_v zm em FM.out (R_a.out.grow (Gr.refl w2)) (R_b.out.grow (Gr.refl w2)) HX.out (pw_pos 64)).mono ?_
  rintro e w3 ⟨pp, np, cp, rfl, hr_p, hg⟩
  replace k_a := hg.cell k_a
  replace k_b := hg.cell k_b
  have gg := (Gr.refl w2).trans hg
  replace R_a := Lib.hid (R_a.out.grow gg)
  replace R_b := Lib.hid (R_b.out.grow gg)
  replace G := Lib.hid (G.out.trans gg)
  have R_p := Lib.hid hr_p.toNw
  clear hr_p
  clear hg gg
  replace k_a := ((Gr.refl w3).alloc (.cells #[.slice pp np cp] 24)).cell k_a
  replace k_b := ((Gr.refl w3).alloc (.cells #[.slice pp np cp] 24)).cell k_b
  have k_p : (w3.alloc (.cells #[.slice pp np cp] 24)).cell? ⟨w3.heap.size, 0, none⟩ = some (.slice pp np cp) := by simp [go_sem]
  go_wp2_with fail
  refine (Div_v_zero (R_a.out.grow ((Gr.refl w3).alloc (.cells #[.slice pp np cp] 24))) (R_b.out.grow ((Gr.refl w3).alloc (.cells #[.slice pp np cp] 24))) HX.out).mono ?_
  rintro e w4 ⟨pq, pr, nq, cq, nr, cr, rfl, hr_q, hr_r, hg⟩
  replace k_a := hg.cell k_a
  replace k_b := hg.cell k_b
  replace k_p := hg.cell k_p
  have gg := ((Gr.refl w3).alloc (.cells #[.slice pp np cp] 24)).trans hg
  replace R_a := Lib.hid (R_a.out.grow gg)
  replace R_b := Lib.hid (R_b.out.grow gg)
  replace R_p := Lib.hid (R_p.out.grow gg)
  replace G := Lib.hid (G.out.trans gg)
  have R_q := Lib.hid hr_q.toNw
  clear hr_q
  have R_r := Lib.hid hr_r.toNw
  clear hr_r
  clear hg gg
  replace k_a := ((Gr.refl w4).alloc (.cells #[.slice pq nq cq] 24)).cell k_a
  replace k_b := ((Gr.refl w4).alloc (.cells #[.slice pq nq cq] 24)).cell k_b
  replace k_p := ((Gr.refl w4).alloc (.cells #[.slice pq nq cq] 24)).cell k_p
  have k_q : (w4.alloc (.cells #[.slice pq nq cq] 24)).cell? ⟨w4.heap.size, 0, none⟩ = some (.slice pq nq cq) := by simp [go_sem]
  replace k_a := ((Gr.refl (w4.alloc (.cells #[.slice pq nq cq] 24))).alloc (.cells #[.slice pr nr cr] 24)).cell k_a
  replace k_b := ((Gr.refl (w4.alloc (.cells #[.slice pq nq cq] 24))).alloc (.cells #[.slice pr nr cr] 24)).cell k_b
  replace k_p := ((Gr.refl (w4.alloc (.cells #[.slice pq nq cq] 24))).alloc (.cells #[.slice pr nr cr] 24)).cell k_p
  replace k_q := ((Gr.refl (w4.alloc (.cells #[.slice pq nq cq] 24))).alloc (.cells #[.slice pr nr cr] 24)).cell k_q
  have k_r : ((w4.alloc (.cells #[.slice pq nq cq] 24)).alloc (.cells #[.slice pr nr cr] 24)).cell? ⟨w4.heap.size + 1, 0, none⟩ = some (.slice pr nr cr) := by simp [go_sem]
  go_wp2_with fail
  refine (HS1.out _ (G.out.trans (((Gr.refl w4).alloc (.cells #[.slice pq nq cq] 24)).alloc (.cells #[.slice pr nr cr] 24)))).mono ?_
  rintro e w5 ⟨ps, ns, cs, rfl, hr_s, hg⟩
  replace k_a := hg.cell k_a
  replace k_b := hg.cell k_b
  replace k_p := hg.cell k_p
  replace k_q := hg.cell k_q
  replace k_r := hg.cell k_r
  have gg := (((Gr.refl w4).alloc (.cells #[.slice pq nq cq] 24)).alloc (.cells #[.slice pr nr cr] 24)).trans hg
  replace R_a := Lib.hid (R_a.out.grow gg)
  replace R_b := Lib.hid (R_b.out.grow gg)
  replace R_p := Lib.hid (R_p.out.grow gg)
  replace R_q := Lib.hid (R_q.out.grow gg)
  replace R_r := Lib.hid (R_r.out.grow gg)
  replace G := Lib.hid (G.out.trans gg)
  have R_s := Lib.hid hr_s.toNw
  clear hr_s
  clear hg gg
  replace k_a := ((Gr.refl w5).alloc (.cells #[.slice ps ns cs] 24)).cell k_a
  replace k_b := ((Gr.refl w5).alloc (.cells #[.slice ps ns cs] 24)).cell k_b
  replace k_p := ((Gr.refl w5).alloc (.cells #[.slice ps ns cs] 24)).cell k_p
  replace k_q := ((Gr.refl w5).alloc (.cells #[.slice ps ns cs] 24)).cell k_q
  replace k_r := ((Gr.refl w5).alloc (.cells #[.slice ps ns cs] 24)).cell k_r
  have k_s : (w5.alloc (.cells #[.slice ps ns cs] 24)).cell? ⟨w5.heap.size, 0, none⟩ = some (.slice ps ns cs) := by simp [go_sem]
  go_wp2_with fail
  refine (RValid_v (R_a.out.grow ((Gr.refl w5).alloc (.cells #[.slice ps ns cs] 24))) HX.out).mono ?_
  rintro e w6 ⟨rfl, hg⟩
  replace k_a := hg.cell k_a
  replace k_b := hg.cell k_b
  replace k_p := hg.cell k_p
  replace k_q := hg.cell k_q
  replace k_r := hg.cell k_r
  replace k_s := hg.cell k_s
  have gg := ((Gr.refl w5).alloc (.cells #[.slice ps ns cs] 24)).trans hg
  replace R_a := Lib.hid (R_a.out.grow gg)
  replace R_b := Lib.hid (R_b.out.grow gg)
  replace R_p := Lib.hid (R_p.out.grow gg)
  replace R_q := Lib.hid (R_q.out.grow gg)
  replace R_r := Lib.hid (R_r.out.grow gg)
  replace R_s := Lib.hid (R_s.out.grow gg)
  replace G := Lib.hid (G.out.trans gg)
  clear hg gg
  go_wp2_with fail
  refine (HS2.out _ (G.out.trans (Gr.refl w6))).mono ?_
  rintro e w7 ⟨pw1, nw1, cw1, rfl, hr_w, hg⟩
  replace k_a := hg.cell k_a
  replace k_b := hg.cell k_b
  replace k_p := hg.cell k_p
  replace k_q := hg.cell k_q
  replace k_r := hg.cell k_r
  replace k_s := hg.cell k_s
  have gg := (Gr.refl w6).trans hg
  replace R_a := Lib.hid (R_a.out.grow gg)
  replace R_b := Lib.hid (R_b.out.grow gg)
  replace R_p := Lib.hid (R_p.out.grow gg)
  replace R_q := Lib.hid (R_q.out.grow gg)
  replace R_r := Lib.hid (R_r.out.grow gg)
  replace R_s := Lib.hid (R_s.out.grow gg)
  replace G := Lib.hid (G.out.trans gg)
  have R_w := Lib.hid hr_w.toNw
  clear hr_w
  clear hg gg
  replace k_a := ((Gr.refl w7).alloc (.cells #[.slice pw1 nw1 cw1] 24)).cell k_a
  replace k_b := ((Gr.refl w7).alloc (.cells #[.slice pw1 nw1 cw1] 24)).cell k_b
  replace k_p := ((Gr.refl w7).alloc (.cells #[.slice pw1 nw1 cw1] 24)).cell k_p
  replace k_q := ((Gr.refl w7).alloc (.cells #[.slice pw1 nw1 cw1] 24)).cell k_q
  replace k_r := ((Gr.refl w7).alloc (.cells #[.slice pw1 nw1 cw1] 24)).cell k_r
  replace k_s := ((Gr.refl w7).alloc (.cells #[.slice pw1 nw1 cw1] 24)).cell k_s
  have k_w : (w7.alloc (.cells #[.slice pw1 nw1 cw1] 24)).cell? ⟨w7.heap.size, 0, none⟩ = some (.slice pw1 nw1 cw1) := by simp [go_sem]
  go_wp2_with fail
  refine (is_lit es (es : Int) rfl HES.out (R_s.out.grow ((Gr.refl w7).alloc (.cells #[.slice pw1 nw1 cw1] 24))) (R_w.out.grow ((Gr.refl w7).alloc (.cells #[.slice pw1 nw1 cw1] 24)))).mono ?_
  rintro e w8 ⟨rfl, hg⟩
  replace k_a := hg.cell k_a
  replace k_b := hg.cell k_b
  replace k_p := hg.cell k_p
  replace k_q := hg.cell k_q
  replace k_r := hg.cell k_r
  replace k_s := hg.cell k_s
  replace k_w := hg.cell k_w
  have gg := ((Gr.refl w7).alloc (.cells #[.slice pw1 nw1 cw1] 24)).trans hg
  replace R_a := Lib.hid (R_a.out.grow gg)
  replace R_b := Lib.hid (R_b.out.grow gg)
  replace R_p := Lib.hid (R_p.out.grow gg)
  replace R_q := Lib.hid (R_q.out.grow gg)
  replace R_r := Lib.hid (R_r.out.grow gg)
  replace R_s := Lib.hid (R_s.out.grow gg)
  replace R_w := Lib.hid (R_w.out.grow gg)
  replace G := Lib.hid (G.out.trans gg)
  clear hg gg
  clear k_w
  clear R_w
  clear k_s
  clear R_s
  go_wp2_with fail
  refine (RValid_v (R_b.out.grow (Gr.refl w8)) (pw_pos 64)).mono ?_
  rintro e w9 ⟨rfl, hg⟩
  replace k_a := hg.cell k_a
  replace k_b := hg.cell k_b
  replace k_p := hg.cell k_p
  replace k_q := hg.cell k_q
  replace k_r := hg.cell k_r
  have gg := (Gr.refl w8).trans hg
  replace R_a := Lib.hid (R_a.out.grow gg)
  replace R_b := Lib.hid (R_b.out.grow gg)
  replace R_p := Lib.hid (R_p.out.grow gg)
  replace R_q := Lib.hid (R_q.out.grow gg)
  replace R_r := Lib.hid (R_r.out.grow gg)
  replace G := Lib.hid (G.out.trans gg)
  clear hg gg
  go_wp2_with fail
  refine (rmul_v _ _ _ _ _ _ _ _ zm em FM.out (by have := Sa.out; omega) (by have := Sb.out; omega) _ (R_a.out.grow (Gr.refl w9)) (R_b.out.grow (Gr.refl w9))).mono ?_
  rintro e w10 ⟨pt, nt, ct, rfl, hr_t, hg⟩
  replace k_a := hg.cell k_a
  replace k_b := hg.cell k_b
  replace k_p := hg.cell k_p
  replace k_q := hg.cell k_q
  replace k_r := hg.cell k_r
  have gg := (Gr.refl w9).trans hg
  replace R_a := Lib.hid (R_a.out.grow gg)
  replace R_b := Lib.hid (R_b.out.grow gg)
  replace R_p := Lib.hid (R_p.out.grow gg)
  replace R_q := Lib.hid (R_q.out.grow gg)
  replace R_r := Lib.hid (R_r.out.grow gg)
  replace G := Lib.hid (G.out.trans gg)
  have R_t := Lib.hid hr_t.toNw
  clear hr_t
  clear hg gg
  replace k_a := ((Gr.refl w10).alloc (.cells #[.slice pt nt ct] 24)).cell k_a
  replace k_b := ((Gr.refl w10).alloc (.cells #[.slice pt nt ct] 24)).cell k_b
  replace k_p := ((Gr.refl w10).alloc (.cells #[.slice pt nt ct] 24)).cell k_p
  replace k_q := ((Gr.refl w10).alloc (.cells #[.slice pt nt ct] 24)).cell k_q
  replace k_r := ((Gr.refl w10).alloc (.cells #[.slice pt nt ct] 24)).cell k_r
  have k_t : (w10.alloc (.cells #[.slice pt nt ct] 24)).cell? ⟨w10.heap.size, 0, none⟩ = some (.slice pt nt ct) := by simp [go_sem]
  go_wp2_with fail
  refine (is_lit em (em : Int) rfl HEM.out (R_p.out.grow ((Gr.refl w10).alloc (.cells #[.slice pt nt ct] 24))) (R_t.out.grow ((Gr.refl w10).alloc (.cells #[.slice pt nt ct] 24)))).mono ?_
  rintro e w11 ⟨rfl, hg⟩
  replace k_a := hg.cell k_a
  replace k_b := hg.cell k_b
  replace k_p := hg.cell k_p
  replace k_q := hg.cell k_q
  replace k_r := hg.cell k_r
  replace k_t := hg.cell k_t
  have gg := ((Gr.refl w10).alloc (.cells #[.slice pt nt ct] 24)).trans hg
  replace R_a := Lib.hid (R_a.out.grow gg)
  replace R_b := Lib.hid (R_b.out.grow gg)
  replace R_p := Lib.hid (R_p.out.grow gg)
  replace R_q := Lib.hid (R_q.out.grow gg)
  replace R_r := Lib.hid (R_r.out.grow gg)
  replace R_t := Lib.hid (R_t.out.grow gg)
  replace G := Lib.hid (G.out.trans gg)
  clear hg gg
  clear k_p
  clear R_p
  clear k_t
  clear R_t
  go_wp2_with fail
  refine (is_lit (x := 0) 10 10 rfl (by decide) (R_q.out.grow (Gr.refl w11)) (by rw [digs_zero]; exact Nw.zero _)).mono ?_
  rintro e w12 ⟨rfl, hg⟩
  replace k_a := hg.cell k_a
  replace k_b := hg.cell k_b
  replace k_q := hg.cell k_q
  replace k_r := hg.cell k_r
  have gg := (Gr.refl w11).trans hg
  replace R_a := Lib.hid (R_a.out.grow gg)
  replace R_b := Lib.hid (R_b.out.grow gg)
  replace R_q := Lib.hid (R_q.out.grow gg)
  replace R_r := Lib.hid (R_r.out.grow gg)
  replace G := Lib.hid (G.out.trans gg)
  clear hg gg
  go_wp2_with fail
  refine (Same_v_eq (x := 0) (y := 0) rfl (R_r.out.grow (Gr.refl w12)) (by rw [digs_zero]; exact Nw.zero _)).mono ?_
  rintro e w13 ⟨rfl, hg⟩
  replace k_a := hg.cell k_a
  replace k_b := hg.cell k_b
  replace k_q := hg.cell k_q
  replace k_r := hg.cell k_r
  have gg := (Gr.refl w12).trans hg
  replace R_a := Lib.hid (R_a.out.grow gg)
  replace R_b := Lib.hid (R_b.out.grow gg)
  replace R_q := Lib.hid (R_q.out.grow gg)
  replace R_r := Lib.hid (R_r.out.grow gg)
  replace G := Lib.hid (G.out.trans gg)
  clear hg gg
  go_wp2
  go_ret
  exact ⟨rfl, G.out⟩

set_option maxRecDepth 100000 in
set_option maxHeartbeats 40000000 in
theorem ok_in_pos (w : World) (ba bb : Option Addr) (na ca nb cb : Nat) (M : Int) (x : Nat) (hx : x < pw 64) (ha : Nw w ba na ca (digs x)) (sa : na ≤ 100) (sb : nb ≤ 100) (hM : -10000 ≤ M) (hM2 : M ≤ 10000) (y : Nat) (hy : y < pw 64) (h0 : 0 < y) (hb : Nw w bb nb cb (digs y)) : Calls Try.prog 5 #[.agg #[.slice ba na ca], .agg #[.slice bb nb cb], .int .i64 M] w fun e w' => e = .returned (.bool true) ∧ Gr w w' := by
  have G := Lib.hid (Gr.refl w)
  have R_a := Lib.hid ha
  have R_b := Lib.hid hb
  have Sa := Lib.hid sa
  have Sb := Lib.hid sb
  have HX := Lib.hid hx
  obtain ⟨zs, es, hes, hs1, hs2⟩ := shift_ex ha hx M hM hM2
  have HES := Lib.hid hes
  have HS1 := Lib.hid hs1
  have HS2 := Lib.hid hs2
  have hM3 : ¬ M < -10000 := by omega
  have hM4 : ¬ 10000 < M := by omega
  clear hes hs1 hs2 hM hM2
  obtain ⟨zm, em, f_m⟩ := fits_ex (x * y)
  have FM := Lib.hid f_m
  have HEM : Hid (em < 1000) := Lib.hid (by rcases f_m.code with h | h <;> omega)
  clear f_m
  have HY := Lib.hid hy
  have H0 := Lib.hid h0
  have hn0 : nb ≠ 0 := fun e => by have := (len_zero hb).1 e; omega
  have hn : ((nb : Int) == 0) = false := by simp; omega
  clear hn0
  clear ha hb sa sb hx hy h0
  have k_a : ((w.alloc (.cells #[.slice ba na ca] 24)).alloc (.cells #[.slice bb nb cb] 24)).cell? ⟨w.heap.size, 0, none⟩ = some (.slice ba na ca) := by simp [go_sem]
  have k_b : ((w.alloc (.cells #[.slice ba na ca] 24)).alloc (.cells #[.slice bb nb cb] 24)).cell? ⟨w.heap.size + 1, 0, none⟩ = some (.slice bb nb cb) := by simp [go_sem]
  go_enter Try.func5, Try.ntmps5
  go_wp2_with fail
  refine (awake_any _).mono ?_
  rintro e w1 ⟨rfl, hg⟩
  replace k_a := hg.cell k_a
  replace k_b := hg.cell k_b
  have gg := (((Gr.refl w).alloc (.cells #[.slice ba na ca] 24)).alloc (.cells #[.slice bb nb cb] 24)).trans hg
  replace R_a := Lib.hid (R_a.out.grow gg)
  replace R_b := Lib.hid (R_b.out.grow gg)
  replace G := Lib.hid (G.out.trans gg)
  clear hg gg
  have sa := Sa.out
  have sb := Sb.out
  go_wp2_with fail
  replace k_a := ((Gr.refl w1).alloc (.cells #[.slice ba na ca, .slice bb nb cb] 24)).cell k_a
  replace k_b := ((Gr.refl w1).alloc (.cells #[.slice ba na ca, .slice bb nb cb] 24)).cell k_b
  refine (great_no (n := 2) (c := 2) rfl (by decide) (nats2 w1 ba bb na ca nb cb) (le2 sa sb)).mono ?_
  rintro e w2 ⟨rfl, hg⟩
  replace k_a := hg.cell k_a
  replace k_b := hg.cell k_b
  have gg := ((Gr.refl w1).alloc (.cells #[.slice ba na ca, .slice bb nb cb] 24)).trans hg
  replace R_a := Lib.hid (R_a.out.grow gg)
  replace R_b := Lib.hid (R_b.out.grow gg)
  replace G := Lib.hid (G.out.trans gg)
  clear hg gg
  clear sa sb
  go_wp2_with fail
  refine (Mul_v zm em FM.out (R_a.out.grow (Gr.refl w2)) (R_b.out.grow (Gr.refl w2)) HX.out HY.out).mono ?_
  rintro e w3 ⟨pp, np, cp, rfl, hr_p, hg⟩
  replace k_a := hg.cell k_a
  replace k_b := hg.cell k_b
  have gg := (Gr.refl w2).trans hg
  replace R_a := Lib.hid (R_a.out.grow gg)
  replace R_b := Lib.hid (R_b.out.grow gg)
  replace G := Lib.hid (G.out.trans gg)
  have R_p := Lib.hid hr_p.toNw
  clear hr_p
  clear hg gg
  replace k_a := ((Gr.refl w3).alloc (.cells #[.slice pp np cp] 24)).cell k_a
  replace k_b := ((Gr.refl w3).alloc (.cells #[.slice pp np cp] 24)).cell k_b
  have k_p : (w3.alloc (.cells #[.slice pp np cp] 24)).cell? ⟨w3.heap.size, 0, none⟩ = some (.slice pp np cp) := by simp [go_sem]
  go_wp2_with fail
  refine (Div_v H0.out (R_a.out.grow ((Gr.refl w3).alloc (.cells #[.slice pp np cp] 24))) (R_b.out.grow ((Gr.refl w3).alloc (.cells #[.slice pp np cp] 24))) HX.out HY.out).mono ?_
  rintro e w4 ⟨pq, pr, nq, cq, nr, cr, rfl, hr_q, hr_r, hg⟩
  replace k_a := hg.cell k_a
  replace k_b := hg.cell k_b
  replace k_p := hg.cell k_p
  have gg := ((Gr.refl w3).alloc (.cells #[.slice pp np cp] 24)).trans hg
  replace R_a := Lib.hid (R_a.out.grow gg)
  replace R_b := Lib.hid (R_b.out.grow gg)
  replace R_p := Lib.hid (R_p.out.grow gg)
  replace G := Lib.hid (G.out.trans gg)
  have R_q := Lib.hid hr_q.toNw
  clear hr_q
  have R_r := Lib.hid hr_r.toNw
  clear hr_r
  clear hg gg
  replace k_a := ((Gr.refl w4).alloc (.cells #[.slice pq nq cq] 24)).cell k_a
  replace k_b := ((Gr.refl w4).alloc (.cells #[.slice pq nq cq] 24)).cell k_b
  replace k_p := ((Gr.refl w4).alloc (.cells #[.slice pq nq cq] 24)).cell k_p
  have k_q : (w4.alloc (.cells #[.slice pq nq cq] 24)).cell? ⟨w4.heap.size, 0, none⟩ = some (.slice pq nq cq) := by simp [go_sem]
  replace k_a := ((Gr.refl (w4.alloc (.cells #[.slice pq nq cq] 24))).alloc (.cells #[.slice pr nr cr] 24)).cell k_a
  replace k_b := ((Gr.refl (w4.alloc (.cells #[.slice pq nq cq] 24))).alloc (.cells #[.slice pr nr cr] 24)).cell k_b
  replace k_p := ((Gr.refl (w4.alloc (.cells #[.slice pq nq cq] 24))).alloc (.cells #[.slice pr nr cr] 24)).cell k_p
  replace k_q := ((Gr.refl (w4.alloc (.cells #[.slice pq nq cq] 24))).alloc (.cells #[.slice pr nr cr] 24)).cell k_q
  have k_r : ((w4.alloc (.cells #[.slice pq nq cq] 24)).alloc (.cells #[.slice pr nr cr] 24)).cell? ⟨w4.heap.size + 1, 0, none⟩ = some (.slice pr nr cr) := by simp [go_sem]
  go_wp2_with fail
  refine (HS1.out _ (G.out.trans (((Gr.refl w4).alloc (.cells #[.slice pq nq cq] 24)).alloc (.cells #[.slice pr nr cr] 24)))).mono ?_
  rintro e w5 ⟨ps, ns, cs, rfl, hr_s, hg⟩
  replace k_a := hg.cell k_a
  replace k_b := hg.cell k_b
  replace k_p := hg.cell k_p
  replace k_q := hg.cell k_q
  replace k_r := hg.cell k_r
  have gg := (((Gr.refl w4).alloc (.cells #[.slice pq nq cq] 24)).alloc (.cells #[.slice pr nr cr] 24)).trans hg
  replace R_a := Lib.hid (R_a.out.grow gg)
  replace R_b := Lib.hid (R_b.out.grow gg)
  replace R_p := Lib.hid (R_p.out.grow gg)
  replace R_q := Lib.hid (R_q.out.grow gg)
  replace R_r := Lib.hid (R_r.out.grow gg)
  replace G := Lib.hid (G.out.trans gg)
  have R_s := Lib.hid hr_s.toNw
  clear hr_s
  clear hg gg
  replace k_a := ((Gr.refl w5).alloc (.cells #[.slice ps ns cs] 24)).cell k_a
  replace k_b := ((Gr.refl w5).alloc (.cells #[.slice ps ns cs] 24)).cell k_b
  replace k_p := ((Gr.refl w5).alloc (.cells #[.slice ps ns cs] 24)).cell k_p
  replace k_q := ((Gr.refl w5).alloc (.cells #[.slice ps ns cs] 24)).cell k_q
  replace k_r := ((Gr.refl w5).alloc (.cells #[.slice ps ns cs] 24)).cell k_r
  have k_s : (w5.alloc (.cells #[.slice ps ns cs] 24)).cell? ⟨w5.heap.size, 0, none⟩ = some (.slice ps ns cs) := by simp [go_sem]
  go_wp2_with fail
  refine (RValid_v (R_a.out.grow ((Gr.refl w5).alloc (.cells #[.slice ps ns cs] 24))) HX.out).mono ?_
  rintro e w6 ⟨rfl, hg⟩
  replace k_a := hg.cell k_a
  replace k_b := hg.cell k_b
  replace k_p := hg.cell k_p
  replace k_q := hg.cell k_q
  replace k_r := hg.cell k_r
  replace k_s := hg.cell k_s
  have gg := ((Gr.refl w5).alloc (.cells #[.slice ps ns cs] 24)).trans hg
  replace R_a := Lib.hid (R_a.out.grow gg)
  replace R_b := Lib.hid (R_b.out.grow gg)
  replace R_p := Lib.hid (R_p.out.grow gg)
  replace R_q := Lib.hid (R_q.out.grow gg)
  replace R_r := Lib.hid (R_r.out.grow gg)
  replace R_s := Lib.hid (R_s.out.grow gg)
  replace G := Lib.hid (G.out.trans gg)
  clear hg gg
  go_wp2_with fail
  refine (HS2.out _ (G.out.trans (Gr.refl w6))).mono ?_
  rintro e w7 ⟨pw1, nw1, cw1, rfl, hr_w, hg⟩
  replace k_a := hg.cell k_a
  replace k_b := hg.cell k_b
  replace k_p := hg.cell k_p
  replace k_q := hg.cell k_q
  replace k_r := hg.cell k_r
  replace k_s := hg.cell k_s
  have gg := (Gr.refl w6).trans hg
  replace R_a := Lib.hid (R_a.out.grow gg)
  replace R_b := Lib.hid (R_b.out.grow gg)
  replace R_p := Lib.hid (R_p.out.grow gg)
  replace R_q := Lib.hid (R_q.out.grow gg)
  replace R_r := Lib.hid (R_r.out.grow gg)
  replace R_s := Lib.hid (R_s.out.grow gg)
  replace G := Lib.hid (G.out.trans gg)
  have R_w := Lib.hid hr_w.toNw
  clear hr_w
  clear hg gg
  replace k_a := ((Gr.refl w7).alloc (.cells #[.slice pw1 nw1 cw1] 24)).cell k_a
  replace k_b := ((Gr.refl w7).alloc (.cells #[.slice pw1 nw1 cw1] 24)).cell k_b
  replace k_p := ((Gr.refl w7).alloc (.cells #[.slice pw1 nw1 cw1] 24)).cell k_p
  replace k_q := ((Gr.refl w7).alloc (.cells #[.slice pw1 nw1 cw1] 24)).cell k_q
  replace k_r := ((Gr.refl w7).alloc (.cells #[.slice pw1 nw1 cw1] 24)).cell k_r
  replace k_s := ((Gr.refl w7).alloc (.cells #[.slice pw1 nw1 cw1] 24)).cell k_s
  have k_w : (w7.alloc (.cells #[.slice pw1 nw1 cw1] 24)).cell? ⟨w7.heap.size, 0, none⟩ = some (.slice pw1 nw1 cw1) := by simp [go_sem]
  go_wp2_with fail
  refine (is_lit es (es : Int) rfl HES.out (R_s.out.grow ((Gr.refl w7).alloc (.cells #[.slice pw1 nw1 cw1] 24))) (R_w.out.grow ((Gr.refl w7).alloc (.cells #[.slice pw1 nw1 cw1] 24)))).mono ?_
  rintro e w8 ⟨rfl, hg⟩
  replace k_a := hg.cell k_a
  replace k_b := hg.cell k_b
  replace k_p := hg.cell k_p
  replace k_q := hg.cell k_q
  replace k_r := hg.cell k_r
  replace k_s := hg.cell k_s
  replace k_w := hg.cell k_w
  have gg := ((Gr.refl w7).alloc (.cells #[.slice pw1 nw1 cw1] 24)).trans hg
  replace R_a := Lib.hid (R_a.out.grow gg)
  replace R_b := Lib.hid (R_b.out.grow gg)
  replace R_p := Lib.hid (R_p.out.grow gg)
  replace R_q := Lib.hid (R_q.out.grow gg)
  replace R_r := Lib.hid (R_r.out.grow gg)
  replace R_s := Lib.hid (R_s.out.grow gg)
  replace R_w := Lib.hid (R_w.out.grow gg)
  replace G := Lib.hid (G.out.trans gg)
  clear hg gg
  clear k_w
  clear R_w
  clear k_s
  clear R_s
  go_wp2_with fail
  refine (RValid_v (R_b.out.grow (Gr.refl w8)) HY.out).mono ?_
  rintro e w9 ⟨rfl, hg⟩
  replace k_a := hg.cell k_a
  replace k_b := hg.cell k_b
  replace k_p := hg.cell k_p
  replace k_q := hg.cell k_q
  replace k_r := hg.cell k_r
  have gg := (Gr.refl w8).trans hg
  replace R_a := Lib.hid (R_a.out.grow gg)
  replace R_b := Lib.hid (R_b.out.grow gg)
  replace R_p := Lib.hid (R_p.out.grow gg)
  replace R_q := Lib.hid (R_q.out.grow gg)
  replace R_r := Lib.hid (R_r.out.grow gg)
  replace G := Lib.hid (G.out.trans gg)
  clear hg gg
  go_wp2_with fail
  refine (rmul_v _ _ _ _ _ _ _ _ zm em FM.out (by have := Sa.out; omega) (by have := Sb.out; omega) _ (R_a.out.grow (Gr.refl w9)) (R_b.out.grow (Gr.refl w9))).mono ?_
  rintro e w10 ⟨pt, nt, ct, rfl, hr_t, hg⟩
  replace k_a := hg.cell k_a
  replace k_b := hg.cell k_b
  replace k_p := hg.cell k_p
  replace k_q := hg.cell k_q
  replace k_r := hg.cell k_r
  have gg := (Gr.refl w9).trans hg
  replace R_a := Lib.hid (R_a.out.grow gg)
  replace R_b := Lib.hid (R_b.out.grow gg)
  replace R_p := Lib.hid (R_p.out.grow gg)
  replace R_q := Lib.hid (R_q.out.grow gg)
  replace R_r := Lib.hid (R_r.out.grow gg)
  replace G := Lib.hid (G.out.trans gg)
  have R_t := Lib.hid hr_t.toNw
  clear hr_t
  clear hg gg
  replace k_a := ((Gr.refl w10).alloc (.cells #[.slice pt nt ct] 24)).cell k_a
  replace k_b := ((Gr.refl w10).alloc (.cells #[.slice pt nt ct] 24)).cell k_b
  replace k_p := ((Gr.refl w10).alloc (.cells #[.slice pt nt ct] 24)).cell k_p
  replace k_q := ((Gr.refl w10).alloc (.cells #[.slice pt nt ct] 24)).cell k_q
  replace k_r := ((Gr.refl w10).alloc (.cells #[.slice pt nt ct] 24)).cell k_r
  have k_t : (w10.alloc (.cells #[.slice pt nt ct] 24)).cell? ⟨w10.heap.size, 0, none⟩ = some (.slice pt nt ct) := by simp [go_sem]
  go_wp2_with fail
  refine (is_lit em (em : Int) rfl HEM.out (R_p.out.grow ((Gr.refl w10).alloc (.cells #[.slice pt nt ct] 24))) (R_t.out.grow ((Gr.refl w10).alloc (.cells #[.slice pt nt ct] 24)))).mono ?_
  rintro e w11 ⟨rfl, hg⟩
  replace k_a := hg.cell k_a
  replace k_b := hg.cell k_b
  replace k_p := hg.cell k_p
  replace k_q := hg.cell k_q
  replace k_r := hg.cell k_r
  replace k_t := hg.cell k_t
  have gg := ((Gr.refl w10).alloc (.cells #[.slice pt nt ct] 24)).trans hg
  replace R_a := Lib.hid (R_a.out.grow gg)
  replace R_b := Lib.hid (R_b.out.grow gg)
  replace R_p := Lib.hid (R_p.out.grow gg)
  replace R_q := Lib.hid (R_q.out.grow gg)
  replace R_r := Lib.hid (R_r.out.grow gg)
  replace R_t := Lib.hid (R_t.out.grow gg)
  replace G := Lib.hid (G.out.trans gg)
  clear hg gg
  clear k_p
  clear R_p
  clear k_t
  clear R_t
  go_wp2_with fail
  refine (rdiv_v _ _ _ _ _ _ _ _ HX.out H0.out HY.out _ (R_a.out.grow (Gr.refl w11)) (R_b.out.grow (Gr.refl w11))).mono ?_
  rintro e w12 ⟨px, py, nx, cx, ny, cy, rfl, hr_x, hr_y, hg⟩
  replace k_a := hg.cell k_a
  replace k_b := hg.cell k_b
  replace k_q := hg.cell k_q
  replace k_r := hg.cell k_r
  have gg := (Gr.refl w11).trans hg
  replace R_a := Lib.hid (R_a.out.grow gg)
  replace R_b := Lib.hid (R_b.out.grow gg)
  replace R_q := Lib.hid (R_q.out.grow gg)
  replace R_r := Lib.hid (R_r.out.grow gg)
  replace G := Lib.hid (G.out.trans gg)
  have R_x := Lib.hid hr_x.toNw
  clear hr_x
  have R_y := Lib.hid hr_y.toNw
  clear hr_y
  clear hg gg
  replace k_a := ((Gr.refl w12).alloc (.cells #[.slice px nx cx] 24)).cell k_a
  replace k_b := ((Gr.refl w12).alloc (.cells #[.slice px nx cx] 24)).cell k_b
  replace k_q := ((Gr.refl w12).alloc (.cells #[.slice px nx cx] 24)).cell k_q
  replace k_r := ((Gr.refl w12).alloc (.cells #[.slice px nx cx] 24)).cell k_r
  have k_x : (w12.alloc (.cells #[.slice px nx cx] 24)).cell? ⟨w12.heap.size, 0, none⟩ = some (.slice px nx cx) := by simp [go_sem]
  replace k_a := ((Gr.refl (w12.alloc (.cells #[.slice px nx cx] 24))).alloc (.cells #[.slice py ny cy] 24)).cell k_a
  replace k_b := ((Gr.refl (w12.alloc (.cells #[.slice px nx cx] 24))).alloc (.cells #[.slice py ny cy] 24)).cell k_b
  replace k_q := ((Gr.refl (w12.alloc (.cells #[.slice px nx cx] 24))).alloc (.cells #[.slice py ny cy] 24)).cell k_q
  replace k_r := ((Gr.refl (w12.alloc (.cells #[.slice px nx cx] 24))).alloc (.cells #[.slice py ny cy] 24)).cell k_r
  replace k_x := ((Gr.refl (w12.alloc (.cells #[.slice px nx cx] 24))).alloc (.cells #[.slice py ny cy] 24)).cell k_x
  have k_y : ((w12.alloc (.cells #[.slice px nx cx] 24)).alloc (.cells #[.slice py ny cy] 24)).cell? ⟨w12.heap.size + 1, 0, none⟩ = some (.slice py ny cy) := by simp [go_sem]
  go_wp2_with fail
  refine (is_lit 0 0 rfl (by decide) (R_q.out.grow (((Gr.refl w12).alloc (.cells #[.slice px nx cx] 24)).alloc (.cells #[.slice py ny cy] 24))) (R_x.out.grow (((Gr.refl w12).alloc (.cells #[.slice px nx cx] 24)).alloc (.cells #[.slice py ny cy] 24)))).mono ?_
  rintro e w13 ⟨rfl, hg⟩
  replace k_a := hg.cell k_a
  replace k_b := hg.cell k_b
  replace k_q := hg.cell k_q
  replace k_r := hg.cell k_r
  replace k_x := hg.cell k_x
  replace k_y := hg.cell k_y
  have gg := (((Gr.refl w12).alloc (.cells #[.slice px nx cx] 24)).alloc (.cells #[.slice py ny cy] 24)).trans hg
  replace R_a := Lib.hid (R_a.out.grow gg)
  replace R_b := Lib.hid (R_b.out.grow gg)
  replace R_q := Lib.hid (R_q.out.grow gg)
  replace R_r := Lib.hid (R_r.out.grow gg)
  replace R_x := Lib.hid (R_x.out.grow gg)
  replace R_y := Lib.hid (R_y.out.grow gg)
  replace G := Lib.hid (G.out.trans gg)
  clear hg gg
  go_wp2_with fail
  refine (Same_v_eq rfl (R_r.out.grow (Gr.refl w13)) (R_y.out.grow (Gr.refl w13))).mono ?_
  rintro e w14 ⟨rfl, hg⟩
  replace k_a := hg.cell k_a
  replace k_b := hg.cell k_b
  replace k_q := hg.cell k_q
  replace k_r := hg.cell k_r
  replace k_x := hg.cell k_x
  replace k_y := hg.cell k_y
  have gg := (Gr.refl w13).trans hg
  replace R_a := Lib.hid (R_a.out.grow gg)
  replace R_b := Lib.hid (R_b.out.grow gg)
  replace R_q := Lib.hid (R_q.out.grow gg)
  replace R_r := Lib.hid (R_r.out.grow gg)
  replace R_x := Lib.hid (R_x.out.grow gg)
  replace R_y := Lib.hid (R_y.out.grow gg)
  replace G := Lib.hid (G.out.trans gg)
  clear hg gg
  go_wp2
  go_ret
  exact ⟨rfl, G.out⟩

theorem NaturalProducts (w : World) (ba : Option Addr) (na ca : Nat) (bb : Option Addr) (nb cb : Nat) (M : Int) (h1 : Nin w ba na ca) (h2 : Nin w bb nb cb) (_ : (Lit.int .i64 M).wf = true) : Calls Try.prog 5 #[.agg #[.slice ba na ca], .agg #[.slice bb nb cb], .int .i64 M] w fun e w' => e = .returned (.bool true) ∧ Gr w w' := by
  by_cases g1 : 100 < na ∨ 100 < nb
  · exact great w ba bb na ca nb cb M g1
  have sa : na ≤ 100 := by omega
  have sb : nb ≤ 100 := by omega
  obtain ⟨la, ha⟩ := h1.nw (by omega)
  obtain ⟨lb, hb⟩ := h2.nw (by omega)
  cases va : decide (valid la) with
  | false => exact bad_a w ba bb na ca nb cb M la lb ha hb va sa sb
  | true =>
    obtain ⟨x, hx, rfl⟩ := nw_value ha va
    have hr : M < -10000 ∨ 10000 < M ∨ (-10000 ≤ M ∧ M ≤ 10000) := by omega
    cases vb : decide (valid lb) with
    | false =>
      rcases hr with h | h | ⟨h, h'⟩
      · exact ok_lo_bad w ba bb na ca nb cb M x hx ha sa sb h lb hb vb
      · exact ok_hi_bad w ba bb na ca nb cb M x hx ha sa sb h lb hb vb
      · exact ok_in_bad w ba bb na ca nb cb M x hx ha sa sb h h' lb hb vb
    | true =>
      obtain ⟨y, hy, rfl⟩ := nw_value hb vb
      rcases Nat.eq_zero_or_pos y with h0 | h0
      · subst h0
        rcases hr with h | h | ⟨h, h'⟩
        · exact ok_lo_zero w ba bb na ca nb cb M x hx ha sa sb h hb
        · exact ok_hi_zero w ba bb na ca nb cb M x hx ha sa sb h hb
        · exact ok_in_zero w ba bb na ca nb cb M x hx ha sa sb h h' hb
      · rcases hr with h | h | ⟨h, h'⟩
        · exact ok_lo_pos w ba bb na ca nb cb M x hx ha sa sb h y hy h0 hb
        · exact ok_hi_pos w ba bb na ca nb cb M x hx ha sa sb h y hy h0 hb
        · exact ok_in_pos w ba bb na ca nb cb M x hx ha sa sb h h' y hy h0 hb
end Go.Proofs.Ytiefnhpbniaklaa.Nlprods
