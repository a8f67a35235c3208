/- The walk of NaturalSums: Compare, Add and Sub return what is specified. -/
import Derived.Test.YtiefnhpbniaklaaNlintm
import Derived.Test.YtiefnhpbniaklaaNradd
import Derived.Deep.RegionHeld3
import Derived.Deep.Cut
namespace Go.Proofs.Ytiefnhpbniaklaa.Nlsums
open Go.RowKit Go.Shelf Go.Proofs.Ytiefnhpbniaklaa.Nm Go.Proofs.Ytiefnhpbniaklaa.Ne Go.Proofs.Ytiefnhpbniaklaa.Nf Go.Proofs.Ytiefnhpbniaklaa.Nk Go.Proofs.Ytiefnhpbniaklaa.Nv Go.Proofs.Ytiefnhpbniaklaa.Nl Go.Proofs.Ytiefnhpbniaklaa.Nr2 Go.Proofs.Ytiefnhpbniaklaa.Nlints

set_option maxRecDepth 100000 in
set_option maxHeartbeats 16000000 in
theorem great (w : World) (ba bb : Option Addr) (na ca nb cb : Nat) (hg1 : 100 < na ∨ 100 < nb) : Calls Try.prog 4 #[.agg #[.slice ba na ca], .agg #[.slice bb nb cb]] w fun e w' => e = .returned (.bool true) ∧ Gr w w' := by
  have HY := Lib.hid hg1
  have G := Lib.hid (Gr.refl w)
  clear hg1
  have k_a : ((w.alloc (.cells #[.slice ba na ca] 24)).alloc (.cells #[.slice bb nb cb] 24)).cell? ⟨w.heap.size, 0, none⟩ = some (.slice ba na ca) := by simp [go_sem]
  have k_b : ((w.alloc (.cells #[.slice ba na ca] 24)).alloc (.cells #[.slice bb nb cb] 24)).cell? ⟨w.heap.size + 1, 0, none⟩ = some (.slice bb nb cb) := by simp [go_sem]
  go_enter Try.func4, Try.ntmps4
  go_wp2_with fail
  refine (awake_any _).mono ?_
  rintro e w1 ⟨rfl, hg⟩
  replace k_a := hg.cell k_a
  replace k_b := hg.cell k_b
  have gg := (((Gr.refl w).alloc (.cells #[.slice ba na ca] 24)).alloc (.cells #[.slice bb nb cb] 24)).trans hg
  replace G := Lib.hid (G.out.trans gg)
  clear hg gg
  go_wp2_with fail
  replace k_a := ((Gr.refl w1).alloc (.cells #[.slice ba na ca, .slice bb nb cb] 24)).cell k_a
  replace k_b := ((Gr.refl w1).alloc (.cells #[.slice ba na ca, .slice bb nb cb] 24)).cell k_b
  refine (great_yes (n := 2) (c := 2) rfl (by decide) (nats2 w1 ba bb na ca nb cb) (gt2 HY.out)).mono ?_
  rintro e w2 ⟨rfl, hg⟩
  replace k_a := hg.cell k_a
  replace k_b := hg.cell k_b
  have gg := ((Gr.refl w1).alloc (.cells #[.slice ba na ca, .slice bb nb cb] 24)).trans hg
  replace G := Lib.hid (G.out.trans gg)
  clear hg gg
  go_wp2
  go_ret
  exact ⟨rfl, G.out⟩

set_option maxRecDepth 100000 in
set_option maxHeartbeats 16000000 in
theorem bad_a (w : World) (ba bb : Option Addr) (na ca nb cb : Nat) (la lb : List Nat) (ha : Nw w ba na ca la) (hb : Nw w bb nb cb lb) (hv : decide (valid la) = false) (sa : na ≤ 100) (sb : nb ≤ 100) : Calls Try.prog 4 #[.agg #[.slice ba na ca], .agg #[.slice bb nb cb]] w fun e w' => e = .returned (.bool true) ∧ Gr w w' := by
  have G := Lib.hid (Gr.refl w)
  have R_a := Lib.hid ha
  have R_b := Lib.hid hb
  have VB := Lib.hid hv
  have Sa := Lib.hid sa
  have Sb := Lib.hid sb
  clear ha hb hv sa sb
  have k_a : ((w.alloc (.cells #[.slice ba na ca] 24)).alloc (.cells #[.slice bb nb cb] 24)).cell? ⟨w.heap.size, 0, none⟩ = some (.slice ba na ca) := by simp [go_sem]
  have k_b : ((w.alloc (.cells #[.slice ba na ca] 24)).alloc (.cells #[.slice bb nb cb] 24)).cell? ⟨w.heap.size + 1, 0, none⟩ = some (.slice bb nb cb) := by simp [go_sem]
  go_enter Try.func4, Try.ntmps4
  go_wp2_with fail
  refine (awake_any _).mono ?_
  rintro e w1 ⟨rfl, hg⟩
  replace k_a := hg.cell k_a
  replace k_b := hg.cell k_b
  have gg := (((Gr.refl w).alloc (.cells #[.slice ba na ca] 24)).alloc (.cells #[.slice bb nb cb] 24)).trans hg
  replace R_a := Lib.hid (R_a.out.grow gg)
  replace R_b := Lib.hid (R_b.out.grow gg)
  replace G := Lib.hid (G.out.trans gg)
  clear hg gg
  have sa := Sa.out
  have sb := Sb.out
  go_wp2_with fail
  replace k_a := ((Gr.refl w1).alloc (.cells #[.slice ba na ca, .slice bb nb cb] 24)).cell k_a
  replace k_b := ((Gr.refl w1).alloc (.cells #[.slice ba na ca, .slice bb nb cb] 24)).cell k_b
  refine (great_no (n := 2) (c := 2) rfl (by decide) (nats2 w1 ba bb na ca nb cb) (le2 sa sb)).mono ?_
  rintro e w2 ⟨rfl, hg⟩
  replace k_a := hg.cell k_a
  replace k_b := hg.cell k_b
  have gg := ((Gr.refl w1).alloc (.cells #[.slice ba na ca, .slice bb nb cb] 24)).trans hg
  replace R_a := Lib.hid (R_a.out.grow gg)
  replace R_b := Lib.hid (R_b.out.grow gg)
  replace G := Lib.hid (G.out.trans gg)
  clear hg gg
  clear sa sb
  go_wp2_with fail
  refine (Add_bad _ _ _ _ _ _ _ _ _ (R_a.out.grow (Gr.refl w2)) (R_b.out.grow (Gr.refl w2)) (.inl VB.out)).mono ?_
  rintro e w3 ⟨rfl, hg⟩
  replace k_a := hg.cell k_a
  replace k_b := hg.cell k_b
  have gg := (Gr.refl w2).trans hg
  replace R_a := Lib.hid (R_a.out.grow gg)
  replace R_b := Lib.hid (R_b.out.grow gg)
  replace G := Lib.hid (G.out.trans gg)
  clear hg gg
  replace k_a := ((Gr.refl w3).alloc (.cells #[.slice none 0 0] 24)).cell k_a
  replace k_b := ((Gr.refl w3).alloc (.cells #[.slice none 0 0] 24)).cell k_b
  have k_s : (w3.alloc (.cells #[.slice none 0 0] 24)).cell? ⟨w3.heap.size, 0, none⟩ = some (.slice none 0 0) := by simp [go_sem]
  go_wp2_with fail
  refine (Sub_bad _ _ _ _ _ _ _ _ _ (R_a.out.grow ((Gr.refl w3).alloc (.cells #[.slice none 0 0] 24))) (R_b.out.grow ((Gr.refl w3).alloc (.cells #[.slice none 0 0] 24))) (.inl VB.out)).mono ?_
  rintro e w4 ⟨rfl, hg⟩
  replace k_a := hg.cell k_a
  replace k_b := hg.cell k_b
  replace k_s := hg.cell k_s
  have gg := ((Gr.refl w3).alloc (.cells #[.slice none 0 0] 24)).trans hg
  replace R_a := Lib.hid (R_a.out.grow gg)
  replace R_b := Lib.hid (R_b.out.grow gg)
  replace G := Lib.hid (G.out.trans gg)
  clear hg gg
  replace k_a := ((Gr.refl w4).alloc (.cells #[.slice none 0 0] 24)).cell k_a
  replace k_b := ((Gr.refl w4).alloc (.cells #[.slice none 0 0] 24)).cell k_b
  replace k_s := ((Gr.refl w4).alloc (.cells #[.slice none 0 0] 24)).cell k_s
  have k_d : (w4.alloc (.cells #[.slice none 0 0] 24)).cell? ⟨w4.heap.size, 0, none⟩ = some (.slice none 0 0) := by simp [go_sem]
  go_wp2_with fail
  refine (RValid_no (R_a.out.grow ((Gr.refl w4).alloc (.cells #[.slice none 0 0] 24))) VB.out).mono ?_
  rintro e w5 ⟨rfl, hg⟩
  replace k_a := hg.cell k_a
  replace k_b := hg.cell k_b
  replace k_s := hg.cell k_s
  replace k_d := hg.cell k_d
  have gg := ((Gr.refl w4).alloc (.cells #[.slice none 0 0] 24)).trans hg
  replace R_a := Lib.hid (R_a.out.grow gg)
  replace R_b := Lib.hid (R_b.out.grow gg)
  replace G := Lib.hid (G.out.trans gg)
  clear hg gg
  go_wp2_with fail
  refine (Compare_bad _ _ _ _ _ _ _ _ _ (R_a.out.grow (Gr.refl w5)) (R_b.out.grow (Gr.refl w5)) (.inl VB.out)).mono ?_
  rintro e w6 ⟨rfl, hg⟩
  replace k_a := hg.cell k_a
  replace k_b := hg.cell k_b
  replace k_s := hg.cell k_s
  replace k_d := hg.cell k_d
  have gg := (Gr.refl w5).trans hg
  replace R_a := Lib.hid (R_a.out.grow gg)
  replace R_b := Lib.hid (R_b.out.grow gg)
  replace G := Lib.hid (G.out.trans gg)
  clear hg gg
  go_wp2_with fail
  refine (is_lit (x := 0) 1 1 rfl (by decide) (by rw [digs_zero]; exact Nw.zero _) (by rw [digs_zero]; exact Nw.zero _)).mono ?_
  rintro e w7 ⟨rfl, hg⟩
  replace k_a := hg.cell k_a
  replace k_b := hg.cell k_b
  replace k_s := hg.cell k_s
  replace k_d := hg.cell k_d
  have gg := (Gr.refl w6).trans hg
  replace R_a := Lib.hid (R_a.out.grow gg)
  replace R_b := Lib.hid (R_b.out.grow gg)
  replace G := Lib.hid (G.out.trans gg)
  clear hg gg
  go_wp2_with fail
  refine (is_lit (x := 0) 1 1 rfl (by decide) (by rw [digs_zero]; exact Nw.zero _) (by rw [digs_zero]; exact Nw.zero _)).mono ?_
  rintro e w8 ⟨rfl, hg⟩
  replace k_a := hg.cell k_a
  replace k_b := hg.cell k_b
  replace k_s := hg.cell k_s
  replace k_d := hg.cell k_d
  have gg := (Gr.refl w7).trans hg
  replace R_a := Lib.hid (R_a.out.grow gg)
  replace R_b := Lib.hid (R_b.out.grow gg)
  replace G := Lib.hid (G.out.trans gg)
  clear hg gg
  go_wp2
  go_ret
  exact ⟨rfl, G.out⟩

set_option maxRecDepth 100000 in
set_option maxHeartbeats 16000000 in
theorem bad_b (w : World) (ba bb : Option Addr) (na ca nb cb : Nat) (la lb : List Nat) (ha : Nw w ba na ca la) (hb : Nw w bb nb cb lb) (va : decide (valid la) = true) (hv : decide (valid lb) = false) (sa : na ≤ 100) (sb : nb ≤ 100) : Calls Try.prog 4 #[.agg #[.slice ba na ca], .agg #[.slice bb nb cb]] w fun e w' => e = .returned (.bool true) ∧ Gr w w' := by
  have G := Lib.hid (Gr.refl w)
  have R_a := Lib.hid ha
  have R_b := Lib.hid hb
  have VB := Lib.hid hv
  have Sa := Lib.hid sa
  have Sb := Lib.hid sb
  have VA := Lib.hid va
  clear ha hb hv sa sb va
  have k_a : ((w.alloc (.cells #[.slice ba na ca] 24)).alloc (.cells #[.slice bb nb cb] 24)).cell? ⟨w.heap.size, 0, none⟩ = some (.slice ba na ca) := by simp [go_sem]
  have k_b : ((w.alloc (.cells #[.slice ba na ca] 24)).alloc (.cells #[.slice bb nb cb] 24)).cell? ⟨w.heap.size + 1, 0, none⟩ = some (.slice bb nb cb) := by simp [go_sem]
  go_enter Try.func4, Try.ntmps4
  go_wp2_with fail
  refine (awake_any _).mono ?_
  rintro e w1 ⟨rfl, hg⟩
  replace k_a := hg.cell k_a
  replace k_b := hg.cell k_b
  have gg := (((Gr.refl w).alloc (.cells #[.slice ba na ca] 24)).alloc (.cells #[.slice bb nb cb] 24)).trans hg
  replace R_a := Lib.hid (R_a.out.grow gg)
  replace R_b := Lib.hid (R_b.out.grow gg)
  replace G := Lib.hid (G.out.trans gg)
  clear hg gg
  have sa := Sa.out
  have sb := Sb.out
  go_wp2_with fail
  replace k_a := ((Gr.refl w1).alloc (.cells #[.slice ba na ca, .slice bb nb cb] 24)).cell k_a
  replace k_b := ((Gr.refl w1).alloc (.cells #[.slice ba na ca, .slice bb nb cb] 24)).cell k_b
  refine (great_no (n := 2) (c := 2) rfl (by decide) (nats2 w1 ba bb na ca nb cb) (le2 sa sb)).mono ?_
  rintro e w2 ⟨rfl, hg⟩
  replace k_a := hg.cell k_a
  replace k_b := hg.cell k_b
  have gg := ((Gr.refl w1).alloc (.cells #[.slice ba na ca, .slice bb nb cb] 24)).trans hg
  replace R_a := Lib.hid (R_a.out.grow gg)
  replace R_b := Lib.hid (R_b.out.grow gg)
  replace G := Lib.hid (G.out.trans gg)
  clear hg gg
  clear sa sb
  go_wp2_with fail
  refine (Add_bad _ _ _ _ _ _ _ _ _ (R_a.out.grow (Gr.refl w2)) (R_b.out.grow (Gr.refl w2)) (.inr VB.out)).mono ?_
  rintro e w3 ⟨rfl, hg⟩
  replace k_a := hg.cell k_a
  replace k_b := hg.cell k_b
  have gg := (Gr.refl w2).trans hg
  replace R_a := Lib.hid (R_a.out.grow gg)
  replace R_b := Lib.hid (R_b.out.grow gg)
  replace G := Lib.hid (G.out.trans gg)
  clear hg gg
  replace k_a := ((Gr.refl w3).alloc (.cells #[.slice none 0 0] 24)).cell k_a
  replace k_b := ((Gr.refl w3).alloc (.cells #[.slice none 0 0] 24)).cell k_b
  have k_s : (w3.alloc (.cells #[.slice none 0 0] 24)).cell? ⟨w3.heap.size, 0, none⟩ = some (.slice none 0 0) := by simp [go_sem]
  go_wp2_with fail
  refine (Sub_bad _ _ _ _ _ _ _ _ _ (R_a.out.grow ((Gr.refl w3).alloc (.cells #[.slice none 0 0] 24))) (R_b.out.grow ((Gr.refl w3).alloc (.cells #[.slice none 0 0] 24))) (.inr VB.out)).mono ?_
  rintro e w4 ⟨rfl, hg⟩
  replace k_a := hg.cell k_a
  replace k_b := hg.cell k_b
  replace k_s := hg.cell k_s
  have gg := ((Gr.refl w3).alloc (.cells #[.slice none 0 0] 24)).trans hg
  replace R_a := Lib.hid (R_a.out.grow gg)
  replace R_b := Lib.hid (R_b.out.grow gg)
  replace G := Lib.hid (G.out.trans gg)
  clear hg gg
  replace k_a := ((Gr.refl w4).alloc (.cells #[.slice none 0 0] 24)).cell k_a
  replace k_b := ((Gr.refl w4).alloc (.cells #[.slice none 0 0] 24)).cell k_b
  replace k_s := ((Gr.refl w4).alloc (.cells #[.slice none 0 0] 24)).cell k_s
  have k_d : (w4.alloc (.cells #[.slice none 0 0] 24)).cell? ⟨w4.heap.size, 0, none⟩ = some (.slice none 0 0) := by simp [go_sem]
  go_wp2_with fail
  refine ((valid_ex (R_a.out.grow ((Gr.refl w4).alloc (.cells #[.slice none 0 0] 24))) true VA.out).2 _ (Gr.refl _)).mono ?_
  rintro e w5 ⟨rfl, hg⟩
  replace k_a := hg.cell k_a
  replace k_b := hg.cell k_b
  replace k_s := hg.cell k_s
  replace k_d := hg.cell k_d
  have gg := ((Gr.refl w4).alloc (.cells #[.slice none 0 0] 24)).trans hg
  replace R_a := Lib.hid (R_a.out.grow gg)
  replace R_b := Lib.hid (R_b.out.grow gg)
  replace G := Lib.hid (G.out.trans gg)
  clear hg gg
  go_wp2_with fail
  refine (RValid_no (R_b.out.grow (Gr.refl w5)) VB.out).mono ?_
  rintro e w6 ⟨rfl, hg⟩
  replace k_a := hg.cell k_a
  replace k_b := hg.cell k_b
  replace k_s := hg.cell k_s
  replace k_d := hg.cell k_d
  have gg := (Gr.refl w5).trans hg
  replace R_a := Lib.hid (R_a.out.grow gg)
  replace R_b := Lib.hid (R_b.out.grow gg)
  replace G := Lib.hid (G.out.trans gg)
  clear hg gg
  go_wp2_with fail
  refine (Compare_bad _ _ _ _ _ _ _ _ _ (R_a.out.grow (Gr.refl w6)) (R_b.out.grow (Gr.refl w6)) (.inr VB.out)).mono ?_
  rintro e w7 ⟨rfl, hg⟩
  replace k_a := hg.cell k_a
  replace k_b := hg.cell k_b
  replace k_s := hg.cell k_s
  replace k_d := hg.cell k_d
  have gg := (Gr.refl w6).trans hg
  replace R_a := Lib.hid (R_a.out.grow gg)
  replace R_b := Lib.hid (R_b.out.grow gg)
  replace G := Lib.hid (G.out.trans gg)
  clear hg gg
  go_wp2_with fail
  refine (is_lit (x := 0) 1 1 rfl (by decide) (by rw [digs_zero]; exact Nw.zero _) (by rw [digs_zero]; exact Nw.zero _)).mono ?_
  rintro e w8 ⟨rfl, hg⟩
  replace k_a := hg.cell k_a
  replace k_b := hg.cell k_b
  replace k_s := hg.cell k_s
  replace k_d := hg.cell k_d
  have gg := (Gr.refl w7).trans hg
  replace R_a := Lib.hid (R_a.out.grow gg)
  replace R_b := Lib.hid (R_b.out.grow gg)
  replace G := Lib.hid (G.out.trans gg)
  clear hg gg
  go_wp2_with fail
  refine (is_lit (x := 0) 1 1 rfl (by decide) (by rw [digs_zero]; exact Nw.zero _) (by rw [digs_zero]; exact Nw.zero _)).mono ?_
  rintro e w9 ⟨rfl, hg⟩
  replace k_a := hg.cell k_a
  replace k_b := hg.cell k_b
  replace k_s := hg.cell k_s
  replace k_d := hg.cell k_d
  have gg := (Gr.refl w8).trans hg
  replace R_a := Lib.hid (R_a.out.grow gg)
  replace R_b := Lib.hid (R_b.out.grow gg)
  replace G := Lib.hid (G.out.trans gg)
  clear hg gg
  go_wp2
  go_ret
  exact ⟨rfl, G.out⟩

set_option maxRecDepth 100000 in
set_option maxHeartbeats 40000000 in
theorem ok_lt (w : World) (ba bb : Option Addr) (na ca nb cb : Nat) (x y : Nat) (hx : x < pw 64) (hy : y < pw 64) (hlt : x < y) (ha : Nw w ba na ca (digs x)) (hb : Nw w bb nb cb (digs y)) (sa : na ≤ 100) (sb : nb ≤ 100) : Calls Try.prog 4 #[.agg #[.slice ba na ca], .agg #[.slice bb nb cb]] w fun e w' => e = .returned (.bool true) ∧ Gr w w' := by
  have G := Lib.hid (Gr.refl w)
  have R_a := Lib.hid ha
  have R_b := Lib.hid hb
  have HX := Lib.hid hx
  have HY := Lib.hid hy
  have Sa := Lib.hid sa
  have Sb := Lib.hid sb
  have HLT := Lib.hid hlt
  obtain ⟨z, e, f_z⟩ := fits_ex (x + y)
  have FZ := Lib.hid f_z
  have HE : Hid (e < 1000) := Lib.hid (by rcases f_z.code with h | h <;> omega)
  obtain ⟨o, ho⟩ : ∃ o, ord x y = o := ⟨_, rfl⟩
  have hneg : o < 0 := by rw [← ho, ord_lt hlt]; decide
  have HO := Lib.hid ho
  clear ha hb hx hy sa sb hlt f_z ho
  have k_a : ((w.alloc (.cells #[.slice ba na ca] 24)).alloc (.cells #[.slice bb nb cb] 24)).cell? ⟨w.heap.size, 0, none⟩ = some (.slice ba na ca) := by simp [go_sem]
  have k_b : ((w.alloc (.cells #[.slice ba na ca] 24)).alloc (.cells #[.slice bb nb cb] 24)).cell? ⟨w.heap.size + 1, 0, none⟩ = some (.slice bb nb cb) := by simp [go_sem]
  go_enter Try.func4, Try.ntmps4
  go_wp2_with fail
  refine (awake_any _).mono ?_
  rintro e w1 ⟨rfl, hg⟩
  replace k_a := hg.cell k_a
  replace k_b := hg.cell k_b
  have gg := (((Gr.refl w).alloc (.cells #[.slice ba na ca] 24)).alloc (.cells #[.slice bb nb cb] 24)).trans hg
  replace R_a := Lib.hid (R_a.out.grow gg)
  replace R_b := Lib.hid (R_b.out.grow gg)
  replace G := Lib.hid (G.out.trans gg)
  clear hg gg
  have sa := Sa.out
  have sb := Sb.out
  go_wp2_with fail
  replace k_a := ((Gr.refl w1).alloc (.cells #[.slice ba na ca, .slice bb nb cb] 24)).cell k_a
  replace k_b := ((Gr.refl w1).alloc (.cells #[.slice ba na ca, .slice bb nb cb] 24)).cell k_b
  refine (great_no (n := 2) (c := 2) rfl (by decide) (nats2 w1 ba bb na ca nb cb) (le2 sa sb)).mono ?_
  rintro e w2 ⟨rfl, hg⟩
  replace k_a := hg.cell k_a
  replace k_b := hg.cell k_b
  have gg := ((Gr.refl w1).alloc (.cells #[.slice ba na ca, .slice bb nb cb] 24)).trans hg
  replace R_a := Lib.hid (R_a.out.grow gg)
  replace R_b := Lib.hid (R_b.out.grow gg)
  replace G := Lib.hid (G.out.trans gg)
  clear hg gg
  clear sa sb
  go_wp2_with fail
  refine (Add_v z e FZ.out (R_a.out.grow (Gr.refl w2)) (R_b.out.grow (Gr.refl w2)) HX.out HY.out).mono ?_
  rintro e w3 ⟨ps, ns, cs, rfl, hr_s, hg⟩
  replace k_a := hg.cell k_a
  replace k_b := hg.cell k_b
  have gg := (Gr.refl w2).trans hg
  replace R_a := Lib.hid (R_a.out.grow gg)
  replace R_b := Lib.hid (R_b.out.grow gg)
  replace G := Lib.hid (G.out.trans gg)
  have R_s := Lib.hid hr_s.toNw
  clear hr_s
  clear hg gg
  replace k_a := ((Gr.refl w3).alloc (.cells #[.slice ps ns cs] 24)).cell k_a
  replace k_b := ((Gr.refl w3).alloc (.cells #[.slice ps ns cs] 24)).cell k_b
  have k_s : (w3.alloc (.cells #[.slice ps ns cs] 24)).cell? ⟨w3.heap.size, 0, none⟩ = some (.slice ps ns cs) := by simp [go_sem]
  go_wp2_with fail
  refine (Sub_v_neg HLT.out (R_a.out.grow ((Gr.refl w3).alloc (.cells #[.slice ps ns cs] 24))) (R_b.out.grow ((Gr.refl w3).alloc (.cells #[.slice ps ns cs] 24))) HX.out HY.out).mono ?_
  rintro e w4 ⟨pd, nd, cd, rfl, hr_d, hg⟩
  replace k_a := hg.cell k_a
  replace k_b := hg.cell k_b
  replace k_s := hg.cell k_s
  have gg := ((Gr.refl w3).alloc (.cells #[.slice ps ns cs] 24)).trans hg
  replace R_a := Lib.hid (R_a.out.grow gg)
  replace R_b := Lib.hid (R_b.out.grow gg)
  replace R_s := Lib.hid (R_s.out.grow gg)
  replace G := Lib.hid (G.out.trans gg)
  have R_d := Lib.hid hr_d.toNw
  clear hr_d
  clear hg gg
  replace k_a := ((Gr.refl w4).alloc (.cells #[.slice pd nd cd] 24)).cell k_a
  replace k_b := ((Gr.refl w4).alloc (.cells #[.slice pd nd cd] 24)).cell k_b
  replace k_s := ((Gr.refl w4).alloc (.cells #[.slice pd nd cd] 24)).cell k_s
  have k_d : (w4.alloc (.cells #[.slice pd nd cd] 24)).cell? ⟨w4.heap.size, 0, none⟩ = some (.slice pd nd cd) := by simp [go_sem]
  go_wp2_with fail
  refine (RValid_v (R_a.out.grow ((Gr.refl w4).alloc (.cells #[.slice pd nd cd] 24))) HX.out).mono ?_
  rintro e w5 ⟨rfl, hg⟩
  replace k_a := hg.cell k_a
  replace k_b := hg.cell k_b
  replace k_s := hg.cell k_s
  replace k_d := hg.cell k_d
  have gg := ((Gr.refl w4).alloc (.cells #[.slice pd nd cd] 24)).trans hg
  replace R_a := Lib.hid (R_a.out.grow gg)
  replace R_b := Lib.hid (R_b.out.grow gg)
  replace R_s := Lib.hid (R_s.out.grow gg)
  replace R_d := Lib.hid (R_d.out.grow gg)
  replace G := Lib.hid (G.out.trans gg)
  clear hg gg
  go_wp2_with fail
  refine (RValid_v (R_b.out.grow (Gr.refl w5)) HY.out).mono ?_
  rintro e w6 ⟨rfl, hg⟩
  replace k_a := hg.cell k_a
  replace k_b := hg.cell k_b
  replace k_s := hg.cell k_s
  replace k_d := hg.cell k_d
  have gg := (Gr.refl w5).trans hg
  replace R_a := Lib.hid (R_a.out.grow gg)
  replace R_b := Lib.hid (R_b.out.grow gg)
  replace R_s := Lib.hid (R_s.out.grow gg)
  replace R_d := Lib.hid (R_d.out.grow gg)
  replace G := Lib.hid (G.out.trans gg)
  clear hg gg
  go_wp2_with fail
  refine (radd_v _ _ _ _ _ _ _ _ z e FZ.out (by have := Sa.out; omega) (by have := Sb.out; omega) _ (R_a.out.grow (Gr.refl w6)) (R_b.out.grow (Gr.refl w6))).mono ?_
  rintro e w7 ⟨pz, nz, cz, rfl, hr_z, hg⟩
  replace k_a := hg.cell k_a
  replace k_b := hg.cell k_b
  replace k_s := hg.cell k_s
  replace k_d := hg.cell k_d
  have gg := (Gr.refl w6).trans hg
  replace R_a := Lib.hid (R_a.out.grow gg)
  replace R_b := Lib.hid (R_b.out.grow gg)
  replace R_s := Lib.hid (R_s.out.grow gg)
  replace R_d := Lib.hid (R_d.out.grow gg)
  replace G := Lib.hid (G.out.trans gg)
  have R_z := Lib.hid hr_z.toNw
  clear hr_z
  clear hg gg
  replace k_a := ((Gr.refl w7).alloc (.cells #[.slice pz nz cz] 24)).cell k_a
  replace k_b := ((Gr.refl w7).alloc (.cells #[.slice pz nz cz] 24)).cell k_b
  replace k_s := ((Gr.refl w7).alloc (.cells #[.slice pz nz cz] 24)).cell k_s
  replace k_d := ((Gr.refl w7).alloc (.cells #[.slice pz nz cz] 24)).cell k_d
  have k_z : (w7.alloc (.cells #[.slice pz nz cz] 24)).cell? ⟨w7.heap.size, 0, none⟩ = some (.slice pz nz cz) := by simp [go_sem]
  go_upto_region 10 with fail
  replace R_a := Lib.hid (R_a.out.grow ((Gr.refl w7).alloc (.cells #[.slice pz nz cz] 24)))
  replace R_b := Lib.hid (R_b.out.grow ((Gr.refl w7).alloc (.cells #[.slice pz nz cz] 24)))
  replace R_s := Lib.hid (R_s.out.grow ((Gr.refl w7).alloc (.cells #[.slice pz nz cz] 24)))
  replace R_d := Lib.hid (R_d.out.grow ((Gr.refl w7).alloc (.cells #[.slice pz nz cz] 24)))
  replace R_z := Lib.hid (R_z.out.grow ((Gr.refl w7).alloc (.cells #[.slice pz nz cz] 24)))
  replace G := Lib.hid (G.out.trans ((Gr.refl w7).alloc (.cells #[.slice pz nz cz] 24)))
  generalize (w7.alloc (.cells #[.slice pz nz cz] 24)) = wE at k_a k_b k_s k_d k_z R_a R_b R_s R_d R_z G ⊢
  have HC1 := Lib.hid (fun W (hW : Gr wE W) => Compare_v (w := W) (R_a.out.grow hW) (R_b.out.grow hW) HX.out HY.out)
  have HC2 := Lib.hid (fun W (hW : Gr wE W) => rcompare_v ba bb na ca nb cb x y HX.out HY.out W (R_a.out.grow hW) (R_b.out.grow hW))
  rw [HO.out] at HC1 HC2
  have HI := Lib.hid (fun W (hW : Gr wE W) => is_lit (w := W) e (e : Int) rfl HE.out (R_s.out.grow hW) (R_z.out.grow hW))
  go_cut [73] from 11 (fun s W => s = .bool false ∧ Gr wE W)
  case first => as_aux_lemma =>
    have GD : Gr wE wE.drew := (Gr.refl wE).drew
    have K0 : wE.drew.cell? ⟨w.heap.size, 0, none⟩ = some (.slice ba na ca) := k_a
    have K1 : wE.drew.cell? ⟨w.heap.size + 1, 0, none⟩ = some (.slice bb nb cb) := k_b
    have K2 : wE.drew.cell? ⟨w3.heap.size, 0, none⟩ = some (.slice ps ns cs) := k_s
    have K3 : wE.drew.cell? ⟨w7.heap.size, 0, none⟩ = some (.slice pz nz cz) := k_z
    clear k_a k_b k_s k_d k_z
    first
    | (go_region_held3 (fun W' => W'.cell? ⟨w.heap.size, 0, none⟩ = some (.slice ba na ca) ∧ W'.cell? ⟨w.heap.size + 1, 0, none⟩ = some (.slice bb nb cb) ∧ W'.cell? ⟨w3.heap.size, 0, none⟩ = some (.slice ps ns cs) ∧ W'.cell? ⟨w7.heap.size, 0, none⟩ = some (.slice pz nz cz) ∧ Gr wE W')
        (first | exact ⟨K0, K1, K2, K3, GD⟩ | (refine ⟨?_, ?_, ?_, ?_, ?_⟩ <;> assumption))
        (first
        | (go_at_call 35; refine (HC1.out _ ?_).mono ?_; assumption; rintro e y0 ⟨rfl, hg0⟩; have z00 := hg0.cell (p := ⟨w.heap.size, 0, none⟩) (v := (.slice ba na ca)) (by assumption); have z01 := hg0.cell (p := ⟨w.heap.size + 1, 0, none⟩) (v := (.slice bb nb cb)) (by assumption); have z02 := hg0.cell (p := ⟨w3.heap.size, 0, none⟩) (v := (.slice ps ns cs)) (by assumption); have z03 := hg0.cell (p := ⟨w7.heap.size, 0, none⟩) (v := (.slice pz nz cz)) (by assumption); have g0 : Gr wE y0 := Gr.trans (by assumption) hg0)
        | (go_at_call 37; refine (HC2.out _ ?_).mono ?_; assumption; rintro e y1 ⟨rfl, hg1⟩; have z10 := hg1.cell (p := ⟨w.heap.size, 0, none⟩) (v := (.slice ba na ca)) (by assumption); have z11 := hg1.cell (p := ⟨w.heap.size + 1, 0, none⟩) (v := (.slice bb nb cb)) (by assumption); have z12 := hg1.cell (p := ⟨w3.heap.size, 0, none⟩) (v := (.slice ps ns cs)) (by assumption); have z13 := hg1.cell (p := ⟨w7.heap.size, 0, none⟩) (v := (.slice pz nz cz)) (by assumption); have g1 : Gr wE y1 := Gr.trans (by assumption) hg1)
        | (go_at_call 26; refine (HI.out _ ?_).mono ?_; assumption; rintro e y2 ⟨rfl, hg2⟩; have z20 := hg2.cell (p := ⟨w.heap.size, 0, none⟩) (v := (.slice ba na ca)) (by assumption); have z21 := hg2.cell (p := ⟨w.heap.size + 1, 0, none⟩) (v := (.slice bb nb cb)) (by assumption); have z22 := hg2.cell (p := ⟨w3.heap.size, 0, none⟩) (v := (.slice ps ns cs)) (by assumption); have z23 := hg2.cell (p := ⟨w7.heap.size, 0, none⟩) (v := (.slice pz nz cz)) (by assumption); have g2 : Gr wE y2 := Gr.trans (by assumption) hg2)))
    | fail
    all_goals (go_wp2_with fail; go_meet; exact ⟨rfl, by assumption⟩)
  case rest => as_aux_lemma =>
    obtain ⟨rfl, hcut⟩ := hcut
    replace k_a := hcut.cell k_a
    replace k_b := hcut.cell k_b
    replace k_s := hcut.cell k_s
    replace k_d := hcut.cell k_d
    replace k_z := hcut.cell k_z
    replace R_a := Lib.hid (R_a.out.grow hcut)
    replace R_b := Lib.hid (R_b.out.grow hcut)
    replace R_s := Lib.hid (R_s.out.grow hcut)
    replace R_d := Lib.hid (R_d.out.grow hcut)
    replace R_z := Lib.hid (R_z.out.grow hcut)
    replace G := Lib.hid (G.out.trans hcut)
    clear hcut
    clear HC1 HC2 HI
    clear k_s
    clear R_s
    clear k_z
    clear R_z
    go_wp2_with fail
    refine (rcompare_v _ _ _ _ _ _ _ _ HX.out HY.out _ (R_a.out.grow (Gr.refl wc)) (R_b.out.grow (Gr.refl wc))).mono ?_
    rintro e w8 ⟨rfl, hg⟩
    replace k_a := hg.cell k_a
    replace k_b := hg.cell k_b
    replace k_d := hg.cell k_d
    have gg := (Gr.refl wc).trans hg
    replace R_a := Lib.hid (R_a.out.grow gg)
    replace R_b := Lib.hid (R_b.out.grow gg)
    replace R_d := Lib.hid (R_d.out.grow gg)
    replace G := Lib.hid (G.out.trans gg)
    clear hg gg
    rw [HO.out]
    go_wp2_with fail
    refine (is_lit (x := 0) 2 2 rfl (by decide) (R_d.out.grow (Gr.refl w8)) (by rw [digs_zero]; exact Nw.zero _)).mono ?_
    rintro e w9 ⟨rfl, hg⟩
    replace k_a := hg.cell k_a
    replace k_b := hg.cell k_b
    replace k_d := hg.cell k_d
    have gg := (Gr.refl w8).trans hg
    replace R_a := Lib.hid (R_a.out.grow gg)
    replace R_b := Lib.hid (R_b.out.grow gg)
    replace R_d := Lib.hid (R_d.out.grow gg)
    replace G := Lib.hid (G.out.trans gg)
    clear hg gg
    go_wp2
    go_ret
    exact ⟨rfl, G.out⟩

set_option maxRecDepth 100000 in
set_option maxHeartbeats 40000000 in
theorem ok_ge (w : World) (ba bb : Option Addr) (na ca nb cb : Nat) (x y : Nat) (hx : x < pw 64) (hy : y < pw 64) (hlt : y ≤ x) (ha : Nw w ba na ca (digs x)) (hb : Nw w bb nb cb (digs y)) (sa : na ≤ 100) (sb : nb ≤ 100) : Calls Try.prog 4 #[.agg #[.slice ba na ca], .agg #[.slice bb nb cb]] w fun e w' => e = .returned (.bool true) ∧ Gr w w' := by
  have G := Lib.hid (Gr.refl w)
  have R_a := Lib.hid ha
  have R_b := Lib.hid hb
  have HX := Lib.hid hx
  have HY := Lib.hid hy
  have Sa := Lib.hid sa
  have Sb := Lib.hid sb
  have HLT := Lib.hid hlt
  obtain ⟨z, e, f_z⟩ := fits_ex (x + y)
  have FZ := Lib.hid f_z
  have HE : Hid (e < 1000) := Lib.hid (by rcases f_z.code with h | h <;> omega)
  obtain ⟨o, ho⟩ : ∃ o, ord x y = o := ⟨_, rfl⟩
  have hneg : ¬ o < 0 := by
    rw [← ho]
    rcases Nat.lt_or_ge y x with h | h
    · rw [ord_gt h]; decide
    · have : x = y := by omega
      rw [this, ord_eq]; decide
  have HO := Lib.hid ho
  clear ha hb hx hy sa sb hlt f_z ho
  have k_a : ((w.alloc (.cells #[.slice ba na ca] 24)).alloc (.cells #[.slice bb nb cb] 24)).cell? ⟨w.heap.size, 0, none⟩ = some (.slice ba na ca) := by simp [go_sem]
  have k_b : ((w.alloc (.cells #[.slice ba na ca] 24)).alloc (.cells #[.slice bb nb cb] 24)).cell? ⟨w.heap.size + 1, 0, none⟩ = some (.slice bb nb cb) := by simp [go_sem]
  go_enter Try.func4, Try.ntmps4
  go_wp2_with fail
  refine (awake_any _).mono ?_
  rintro e w1 ⟨rfl, hg⟩
  replace k_a := hg.cell k_a
  replace k_b := hg.cell k_b
  have gg := (((Gr.refl w).alloc (.cells #[.slice ba na ca] 24)).alloc (.cells #[.slice bb nb cb] 24)).trans hg
  replace R_a := Lib.hid (R_a.out.grow gg)
  replace R_b := Lib.hid (R_b.out.grow gg)
  replace G := Lib.hid (G.out.trans gg)
  clear hg gg
  have sa := Sa.out
  have sb := Sb.out
  go_wp2_with fail
  replace k_a := ((Gr.refl w1).alloc (.cells #[.slice ba na ca, .slice bb nb cb] 24)).cell k_a
  replace k_b := ((Gr.refl w1).alloc (.cells #[.slice ba na ca, .slice bb nb cb] 24)).cell k_b
  refine (great_no (n := 2) (c := 2) rfl (by decide) (nats2 w1 ba bb na ca nb cb) (le2 sa sb)).mono ?_
  rintro e w2 ⟨rfl, hg⟩
  replace k_a := hg.cell k_a
  replace k_b := hg.cell k_b
  have gg := ((Gr.refl w1).alloc (.cells #[.slice ba na ca, .slice bb nb cb] 24)).trans hg
  replace R_a := Lib.hid (R_a.out.grow gg)
  replace R_b := Lib.hid (R_b.out.grow gg)
  replace G := Lib.hid (G.out.trans gg)
  clear hg gg
  clear sa sb
  go_wp2_with fail
  refine (Add_v z e FZ.out (R_a.out.grow (Gr.refl w2)) (R_b.out.grow (Gr.refl w2)) HX.out HY.out).mono ?_
  rintro e w3 ⟨ps, ns, cs, rfl, hr_s, hg⟩
  replace k_a := hg.cell k_a
  replace k_b := hg.cell k_b
  have gg := (Gr.refl w2).trans hg
  replace R_a := Lib.hid (R_a.out.grow gg)
  replace R_b := Lib.hid (R_b.out.grow gg)
  replace G := Lib.hid (G.out.trans gg)
  have R_s := Lib.hid hr_s.toNw
  clear hr_s
  clear hg gg
  replace k_a := ((Gr.refl w3).alloc (.cells #[.slice ps ns cs] 24)).cell k_a
  replace k_b := ((Gr.refl w3).alloc (.cells #[.slice ps ns cs] 24)).cell k_b
  have k_s : (w3.alloc (.cells #[.slice ps ns cs] 24)).cell? ⟨w3.heap.size, 0, none⟩ = some (.slice ps ns cs) := by simp [go_sem]
  go_wp2_with fail
  refine (Sub_v HLT.out (R_a.out.grow ((Gr.refl w3).alloc (.cells #[.slice ps ns cs] 24))) (R_b.out.grow ((Gr.refl w3).alloc (.cells #[.slice ps ns cs] 24))) HX.out HY.out).mono ?_
  rintro e w4 ⟨pd, nd, cd, rfl, hr_d, hg⟩
  replace k_a := hg.cell k_a
  replace k_b := hg.cell k_b
  replace k_s := hg.cell k_s
  have gg := ((Gr.refl w3).alloc (.cells #[.slice ps ns cs] 24)).trans hg
  replace R_a := Lib.hid (R_a.out.grow gg)
  replace R_b := Lib.hid (R_b.out.grow gg)
  replace R_s := Lib.hid (R_s.out.grow gg)
  replace G := Lib.hid (G.out.trans gg)
  have R_d := Lib.hid hr_d.toNw
  clear hr_d
  clear hg gg
  replace k_a := ((Gr.refl w4).alloc (.cells #[.slice pd nd cd] 24)).cell k_a
  replace k_b := ((Gr.refl w4).alloc (.cells #[.slice pd nd cd] 24)).cell k_b
  replace k_s := ((Gr.refl w4).alloc (.cells #[.slice pd nd cd] 24)).cell k_s
  have k_d : (w4.alloc (.cells #[.slice pd nd cd] 24)).cell? ⟨w4.heap.size, 0, none⟩ = some (.slice pd nd cd) := by simp [go_sem]
  go_wp2_with fail
  refine (RValid_v (R_a.out.grow ((Gr.refl w4).alloc (.cells #[.slice pd nd cd] 24))) HX.out).mono ?_
  rintro e w5 ⟨rfl, hg⟩
  replace k_a := hg.cell k_a
  replace k_b := hg.cell k_b
  replace k_s := hg.cell k_s
  replace k_d := hg.cell k_d
  have gg := ((Gr.refl w4).alloc (.cells #[.slice pd nd cd] 24)).trans hg
  replace R_a := Lib.hid (R_a.out.grow gg)
  replace R_b := Lib.hid (R_b.out.grow gg)
  replace R_s := Lib.hid (R_s.out.grow gg)
  replace R_d := Lib.hid (R_d.out.grow gg)
  replace G := Lib.hid (G.out.trans gg)
  clear hg gg
  go_wp2_with fail
  refine (RValid_v (R_b.out.grow (Gr.refl w5)) HY.out).mono ?_
  rintro e w6 ⟨rfl, hg⟩
  replace k_a := hg.cell k_a
  replace k_b := hg.cell k_b
  replace k_s := hg.cell k_s
  replace k_d := hg.cell k_d
  have gg := (Gr.refl w5).trans hg
  replace R_a := Lib.hid (R_a.out.grow gg)
  replace R_b := Lib.hid (R_b.out.grow gg)
  replace R_s := Lib.hid (R_s.out.grow gg)
  replace R_d := Lib.hid (R_d.out.grow gg)
  replace G := Lib.hid (G.out.trans gg)
  clear hg gg
  go_wp2_with fail
  refine (radd_v _ _ _ _ _ _ _ _ z e FZ.out (by have := Sa.out; omega) (by have := Sb.out; omega) _ (R_a.out.grow (Gr.refl w6)) (R_b.out.grow (Gr.refl w6))).mono ?_
  rintro e w7 ⟨pz, nz, cz, rfl, hr_z, hg⟩
  replace k_a := hg.cell k_a
  replace k_b := hg.cell k_b
  replace k_s := hg.cell k_s
  replace k_d := hg.cell k_d
  have gg := (Gr.refl w6).trans hg
  replace R_a := Lib.hid (R_a.out.grow gg)
  replace R_b := Lib.hid (R_b.out.grow gg)
  replace R_s := Lib.hid (R_s.out.grow gg)
  replace R_d := Lib.hid (R_d.out.grow gg)
  replace G := Lib.hid (G.out.trans gg)
  have R_z := Lib.hid hr_z.toNw
  clear hr_z
  clear hg gg
  replace k_a := ((Gr.refl w7).alloc (.cells #[.slice pz nz cz] 24)).cell k_a
  replace k_b := ((Gr.refl w7).alloc (.cells #[.slice pz nz cz] 24)).cell k_b
  replace k_s := ((Gr.refl w7).alloc (.cells #[.slice pz nz cz] 24)).cell k_s
  replace k_d := ((Gr.refl w7).alloc (.cells #[.slice pz nz cz] 24)).cell k_d
  have k_z : (w7.alloc (.cells #[.slice pz nz cz] 24)).cell? ⟨w7.heap.size, 0, none⟩ = some (.slice pz nz cz) := by simp [go_sem]
  go_upto_region 10 with fail
  replace R_a := Lib.hid (R_a.out.grow ((Gr.refl w7).alloc (.cells #[.slice pz nz cz] 24)))
  replace R_b := Lib.hid (R_b.out.grow ((Gr.refl w7).alloc (.cells #[.slice pz nz cz] 24)))
  replace R_s := Lib.hid (R_s.out.grow ((Gr.refl w7).alloc (.cells #[.slice pz nz cz] 24)))
  replace R_d := Lib.hid (R_d.out.grow ((Gr.refl w7).alloc (.cells #[.slice pz nz cz] 24)))
  replace R_z := Lib.hid (R_z.out.grow ((Gr.refl w7).alloc (.cells #[.slice pz nz cz] 24)))
  replace G := Lib.hid (G.out.trans ((Gr.refl w7).alloc (.cells #[.slice pz nz cz] 24)))
  generalize (w7.alloc (.cells #[.slice pz nz cz] 24)) = wE at k_a k_b k_s k_d k_z R_a R_b R_s R_d R_z G ⊢
  have HC1 := Lib.hid (fun W (hW : Gr wE W) => Compare_v (w := W) (R_a.out.grow hW) (R_b.out.grow hW) HX.out HY.out)
  have HC2 := Lib.hid (fun W (hW : Gr wE W) => rcompare_v ba bb na ca nb cb x y HX.out HY.out W (R_a.out.grow hW) (R_b.out.grow hW))
  rw [HO.out] at HC1 HC2
  have HI := Lib.hid (fun W (hW : Gr wE W) => is_lit (w := W) e (e : Int) rfl HE.out (R_s.out.grow hW) (R_z.out.grow hW))
  go_cut [73] from 11 (fun s W => s = .bool false ∧ Gr wE W)
  case first => as_aux_lemma =>
    have GD : Gr wE wE.drew := (Gr.refl wE).drew
    have K0 : wE.drew.cell? ⟨w.heap.size, 0, none⟩ = some (.slice ba na ca) := k_a
    have K1 : wE.drew.cell? ⟨w.heap.size + 1, 0, none⟩ = some (.slice bb nb cb) := k_b
    have K2 : wE.drew.cell? ⟨w3.heap.size, 0, none⟩ = some (.slice ps ns cs) := k_s
    have K3 : wE.drew.cell? ⟨w7.heap.size, 0, none⟩ = some (.slice pz nz cz) := k_z
    clear k_a k_b k_s k_d k_z
    first
    | (go_region_held3 (fun W' => W'.cell? ⟨w.heap.size, 0, none⟩ = some (.slice ba na ca) ∧ W'.cell? ⟨w.heap.size + 1, 0, none⟩ = some (.slice bb nb cb) ∧ W'.cell? ⟨w3.heap.size, 0, none⟩ = some (.slice ps ns cs) ∧ W'.cell? ⟨w7.heap.size, 0, none⟩ = some (.slice pz nz cz) ∧ Gr wE W')
        (first | exact ⟨K0, K1, K2, K3, GD⟩ | (refine ⟨?_, ?_, ?_, ?_, ?_⟩ <;> assumption))
        (first
        | (go_at_call 35; refine (HC1.out _ ?_).mono ?_; assumption; rintro e y0 ⟨rfl, hg0⟩; have z00 := hg0.cell (p := ⟨w.heap.size, 0, none⟩) (v := (.slice ba na ca)) (by assumption); have z01 := hg0.cell (p := ⟨w.heap.size + 1, 0, none⟩) (v := (.slice bb nb cb)) (by assumption); have z02 := hg0.cell (p := ⟨w3.heap.size, 0, none⟩) (v := (.slice ps ns cs)) (by assumption); have z03 := hg0.cell (p := ⟨w7.heap.size, 0, none⟩) (v := (.slice pz nz cz)) (by assumption); have g0 : Gr wE y0 := Gr.trans (by assumption) hg0)
        | (go_at_call 37; refine (HC2.out _ ?_).mono ?_; assumption; rintro e y1 ⟨rfl, hg1⟩; have z10 := hg1.cell (p := ⟨w.heap.size, 0, none⟩) (v := (.slice ba na ca)) (by assumption); have z11 := hg1.cell (p := ⟨w.heap.size + 1, 0, none⟩) (v := (.slice bb nb cb)) (by assumption); have z12 := hg1.cell (p := ⟨w3.heap.size, 0, none⟩) (v := (.slice ps ns cs)) (by assumption); have z13 := hg1.cell (p := ⟨w7.heap.size, 0, none⟩) (v := (.slice pz nz cz)) (by assumption); have g1 : Gr wE y1 := Gr.trans (by assumption) hg1)
        | (go_at_call 26; refine (HI.out _ ?_).mono ?_; assumption; rintro e y2 ⟨rfl, hg2⟩; have z20 := hg2.cell (p := ⟨w.heap.size, 0, none⟩) (v := (.slice ba na ca)) (by assumption); have z21 := hg2.cell (p := ⟨w.heap.size + 1, 0, none⟩) (v := (.slice bb nb cb)) (by assumption); have z22 := hg2.cell (p := ⟨w3.heap.size, 0, none⟩) (v := (.slice ps ns cs)) (by assumption); have z23 := hg2.cell (p := ⟨w7.heap.size, 0, none⟩) (v := (.slice pz nz cz)) (by assumption); have g2 : Gr wE y2 := Gr.trans (by assumption) hg2)))
    | fail
    all_goals (go_wp2_with fail; go_meet; exact ⟨rfl, by assumption⟩)
  case rest => as_aux_lemma =>
    obtain ⟨rfl, hcut⟩ := hcut
    replace k_a := hcut.cell k_a
    replace k_b := hcut.cell k_b
    replace k_s := hcut.cell k_s
    replace k_d := hcut.cell k_d
    replace k_z := hcut.cell k_z
    replace R_a := Lib.hid (R_a.out.grow hcut)
    replace R_b := Lib.hid (R_b.out.grow hcut)
    replace R_s := Lib.hid (R_s.out.grow hcut)
    replace R_d := Lib.hid (R_d.out.grow hcut)
    replace R_z := Lib.hid (R_z.out.grow hcut)
    replace G := Lib.hid (G.out.trans hcut)
    clear hcut
    clear HC1 HC2 HI
    clear k_s
    clear R_s
    clear k_z
    clear R_z
    go_wp2_with fail
    refine (rcompare_v _ _ _ _ _ _ _ _ HX.out HY.out _ (R_a.out.grow (Gr.refl wc)) (R_b.out.grow (Gr.refl wc))).mono ?_
    rintro e w8 ⟨rfl, hg⟩
    replace k_a := hg.cell k_a
    replace k_b := hg.cell k_b
    replace k_d := hg.cell k_d
    have gg := (Gr.refl wc).trans hg
    replace R_a := Lib.hid (R_a.out.grow gg)
    replace R_b := Lib.hid (R_b.out.grow gg)
    replace R_d := Lib.hid (R_d.out.grow gg)
    replace G := Lib.hid (G.out.trans gg)
    clear hg gg
    rw [HO.out]
    go_wp2_with fail
    generalize w8 = WE at k_a k_b k_d R_a R_b R_d G ⊢
    have K0 : WE.drew.cell? ⟨w.heap.size, 0, none⟩ = some (.slice ba na ca) := k_a
    have K1 : WE.drew.cell? ⟨w.heap.size + 1, 0, none⟩ = some (.slice bb nb cb) := k_b
    have K2 : WE.drew.cell? ⟨w4.heap.size, 0, none⟩ = some (.slice pd nd cd) := k_d
    have GD : Gr WE WE.drew := (Gr.refl WE).drew
    clear k_a k_b k_d
    have HSU := Lib.hid (fun W (hW : Gr WE W) => rsub_v ba bb na ca nb cb x y (by have := Sa.out; omega) HLT.out W (R_a.out.grow hW) (R_b.out.grow hW))
    first
    | (go_region_held3 (fun W' => W'.cell? ⟨w.heap.size, 0, none⟩ = some (.slice ba na ca) ∧ W'.cell? ⟨w.heap.size + 1, 0, none⟩ = some (.slice bb nb cb) ∧ W'.cell? ⟨w4.heap.size, 0, none⟩ = some (.slice pd nd cd) ∧ Gr WE W')
        (first | exact ⟨K0, K1, K2, GD⟩ | (refine ⟨?_, ?_, ?_, ?_⟩ <;> assumption))
        (first
        | (go_at_call 38; refine (HSU.out _ ?_).mono ?_; assumption; rintro e y0 ⟨pu, nu, cu, rfl, hu, hg0⟩; have z0 := hg0.cell (p := ⟨w.heap.size, 0, none⟩) (v := .slice ba na ca) (by assumption); have z1 := hg0.cell (p := ⟨w.heap.size + 1, 0, none⟩) (v := .slice bb nb cb) (by assumption); have z2 := hg0.cell (p := ⟨w4.heap.size, 0, none⟩) (v := .slice pd nd cd) (by assumption); have g0 : Gr WE y0 := Gr.trans (by assumption) hg0)
        | (go_at_call 26; refine (is_lit (x := x - y) 0 0 rfl (by decide) (R_d.out.grow g0) hu.toNw).mono ?_; rintro e y1 ⟨rfl, hg1⟩; have x0 := hg1.cell (p := ⟨w.heap.size, 0, none⟩) (v := .slice ba na ca) (by assumption); have x1 := hg1.cell (p := ⟨w.heap.size + 1, 0, none⟩) (v := .slice bb nb cb) (by assumption); have x2 := hg1.cell (p := ⟨w4.heap.size, 0, none⟩) (v := .slice pd nd cd) (by assumption); have g1 : Gr WE y1 := Gr.trans (by assumption) hg1)))
    | fail
    all_goals (go_wp2; go_ret; exact ⟨rfl, G.out.trans (by assumption)⟩)

theorem NaturalSums (w : World) (ba : Option Addr) (na ca : Nat) (bb : Option Addr) (nb cb : Nat) (h1 : Nin w ba na ca) (h2 : Nin w bb nb cb) : Calls Try.prog 4 #[.agg #[.slice ba na ca], .agg #[.slice bb nb cb]] w fun e w' => e = .returned (.bool true) ∧ Gr w w' := by
  by_cases g1 : 100 < na ∨ 100 < nb
  · exact great w ba bb na ca nb cb g1
  have sa : na ≤ 100 := by omega
  have sb : nb ≤ 100 := by omega
  obtain ⟨la, ha⟩ := h1.nw (by omega)
  obtain ⟨lb, hb⟩ := h2.nw (by omega)
  cases va : decide (valid la) with
  | false => exact bad_a w ba bb na ca nb cb la lb ha hb va sa sb
  | true =>
    cases vb : decide (valid lb) with
    | false => exact bad_b w ba bb na ca nb cb la lb ha hb va vb sa sb
    | true =>
      obtain ⟨x, hx, rfl⟩ := nw_value ha va
      obtain ⟨y, hy, rfl⟩ := nw_value hb vb
      rcases Nat.lt_or_ge x y with h | h
      · exact ok_lt w ba bb na ca nb cb x y hx hy h ha hb sa sb
      · exact ok_ge w ba bb na ca nb cb x y hx hy h ha hb sa sb
end Go.Proofs.Ytiefnhpbniaklaa.Nlsums
