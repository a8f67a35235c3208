/- The walk of NaturalRing: the laws of arithmetic hold. -/
import Derived.Test.YtiefnhpbniaklaaNpre
import Derived.Deep.Cut
namespace Go.Proofs.Ytiefnhpbniaklaa.Nlring
open Go.RowKit Go.Shelf Go.Proofs.Ytiefnhpbniaklaa.Nm Go.Proofs.Ytiefnhpbniaklaa.Ne Go.Proofs.Ytiefnhpbniaklaa.Nf Go.Proofs.Ytiefnhpbniaklaa.Nk Go.Proofs.Ytiefnhpbniaklaa.Nv Go.Proofs.Ytiefnhpbniaklaa.Nl

set_option maxRecDepth 100000 in
set_option maxHeartbeats 8000000 in
theorem great (w : World) (ba bb bc : Option Addr) (na ca nb cb nc cc : Nat) (hg1 : 100 < na ∨ 100 < nb ∨ 100 < nc) : Calls Try.prog 6 #[.agg #[.slice ba na ca], .agg #[.slice bb nb cb], .agg #[.slice bc nc cc]] w fun e w' => e = .returned (.bool true) ∧ Gr w w' := by
  have HY := Lib.hid hg1
  have G := Lib.hid (Gr.refl w)
  clear hg1
  have k_a : (((w.alloc (.cells #[.slice ba na ca] 24)).alloc (.cells #[.slice bb nb cb] 24)).alloc (.cells #[.slice bc nc cc] 24)).cell? ⟨w.heap.size, 0, none⟩ = some (.slice ba na ca) := by simp [go_sem]
  have k_b : (((w.alloc (.cells #[.slice ba na ca] 24)).alloc (.cells #[.slice bb nb cb] 24)).alloc (.cells #[.slice bc nc cc] 24)).cell? ⟨w.heap.size + 1, 0, none⟩ = some (.slice bb nb cb) := by simp [go_sem]
  have k_c : (((w.alloc (.cells #[.slice ba na ca] 24)).alloc (.cells #[.slice bb nb cb] 24)).alloc (.cells #[.slice bc nc cc] 24)).cell? ⟨w.heap.size + 1 + 1, 0, none⟩ = some (.slice bc nc cc) := by simp [go_sem]
  go_enter Try.func6, Try.ntmps6
  go_wp2_with fail
  refine (awake_any _).mono ?_
  rintro e w1 ⟨rfl, hg⟩
  replace k_a := hg.cell k_a
  replace k_b := hg.cell k_b
  replace k_c := hg.cell k_c
  have gg := ((((Gr.refl w).alloc (.cells #[.slice ba na ca] 24)).alloc (.cells #[.slice bb nb cb] 24)).alloc (.cells #[.slice bc nc cc] 24)).trans hg
  replace G := Lib.hid (G.out.trans gg)
  clear hg gg
  go_wp2_with fail
  replace k_a := ((Gr.refl w1).alloc (.cells #[.slice ba na ca, .slice bb nb cb, .slice bc nc cc] 24)).cell k_a
  replace k_b := ((Gr.refl w1).alloc (.cells #[.slice ba na ca, .slice bb nb cb, .slice bc nc cc] 24)).cell k_b
  replace k_c := ((Gr.refl w1).alloc (.cells #[.slice ba na ca, .slice bb nb cb, .slice bc nc cc] 24)).cell k_c
  refine (great_yes (n := 3) (c := 3) rfl (by decide) (nats3 w1 ba bb bc na ca nb cb nc cc) (gt3 HY.out)).mono ?_
  rintro e w2 ⟨rfl, hg⟩
  replace k_a := hg.cell k_a
  replace k_b := hg.cell k_b
  replace k_c := hg.cell k_c
  have gg := ((Gr.refl w1).alloc (.cells #[.slice ba na ca, .slice bb nb cb, .slice bc nc cc] 24)).trans hg
  replace G := Lib.hid (G.out.trans gg)
  clear hg gg
  go_wp2
  go_ret
  exact ⟨rfl, G.out⟩

set_option maxRecDepth 100000 in
set_option maxHeartbeats 8000000 in
theorem bad_a (w : World) (ba bb bc : Option Addr) (na ca nb cb nc cc : Nat) (l : List Nat) (ha : Nw w ba na ca l) (vl : decide (valid l) = false) (sa : na ≤ 100) (sb : nb ≤ 100) (sc : nc ≤ 100)  : Calls Try.prog 6 #[.agg #[.slice ba na ca], .agg #[.slice bb nb cb], .agg #[.slice bc nc cc]] w fun e w' => e = .returned (.bool true) ∧ Gr w w' := by
  have G := Lib.hid (Gr.refl w)
  have R_a := Lib.hid ha
  have VL := Lib.hid vl
  have Sa := Lib.hid sa
  have Sb := Lib.hid sb
  have Sc := Lib.hid sc
  clear ha vl sa sb sc
  have k_a : (((w.alloc (.cells #[.slice ba na ca] 24)).alloc (.cells #[.slice bb nb cb] 24)).alloc (.cells #[.slice bc nc cc] 24)).cell? ⟨w.heap.size, 0, none⟩ = some (.slice ba na ca) := by simp [go_sem]
  have k_b : (((w.alloc (.cells #[.slice ba na ca] 24)).alloc (.cells #[.slice bb nb cb] 24)).alloc (.cells #[.slice bc nc cc] 24)).cell? ⟨w.heap.size + 1, 0, none⟩ = some (.slice bb nb cb) := by simp [go_sem]
  have k_c : (((w.alloc (.cells #[.slice ba na ca] 24)).alloc (.cells #[.slice bb nb cb] 24)).alloc (.cells #[.slice bc nc cc] 24)).cell? ⟨w.heap.size + 1 + 1, 0, none⟩ = some (.slice bc nc cc) := by simp [go_sem]
  go_enter Try.func6, Try.ntmps6
  go_wp2_with fail
  refine (awake_any _).mono ?_
  rintro e w1 ⟨rfl, hg⟩
  replace k_a := hg.cell k_a
  replace k_b := hg.cell k_b
  replace k_c := hg.cell k_c
  have gg := ((((Gr.refl w).alloc (.cells #[.slice ba na ca] 24)).alloc (.cells #[.slice bb nb cb] 24)).alloc (.cells #[.slice bc nc cc] 24)).trans hg
  replace R_a := Lib.hid (R_a.out.grow gg)
  replace G := Lib.hid (G.out.trans gg)
  clear hg gg
  have sa := Sa.out
  have sb := Sb.out
  have sc := Sc.out
  go_wp2_with fail
  replace k_a := ((Gr.refl w1).alloc (.cells #[.slice ba na ca, .slice bb nb cb, .slice bc nc cc] 24)).cell k_a
  replace k_b := ((Gr.refl w1).alloc (.cells #[.slice ba na ca, .slice bb nb cb, .slice bc nc cc] 24)).cell k_b
  replace k_c := ((Gr.refl w1).alloc (.cells #[.slice ba na ca, .slice bb nb cb, .slice bc nc cc] 24)).cell k_c
  refine (great_no (n := 3) (c := 3) rfl (by decide) (nats3 w1 ba bb bc na ca nb cb nc cc) (le3 sa sb sc)).mono ?_
  rintro e w2 ⟨rfl, hg⟩
  replace k_a := hg.cell k_a
  replace k_b := hg.cell k_b
  replace k_c := hg.cell k_c
  have gg := ((Gr.refl w1).alloc (.cells #[.slice ba na ca, .slice bb nb cb, .slice bc nc cc] 24)).trans hg
  replace R_a := Lib.hid (R_a.out.grow gg)
  replace G := Lib.hid (G.out.trans gg)
  clear hg gg
  clear sa sb sc
  go_wp2_with fail
  refine (RValid_no (R_a.out.grow (Gr.refl w2)) VL.out).mono ?_
  rintro e w3 ⟨rfl, hg⟩
  replace k_a := hg.cell k_a
  replace k_b := hg.cell k_b
  replace k_c := hg.cell k_c
  have gg := (Gr.refl w2).trans hg
  replace R_a := Lib.hid (R_a.out.grow gg)
  replace G := Lib.hid (G.out.trans gg)
  clear hg gg
  go_wp2
  go_ret
  exact ⟨rfl, G.out⟩

set_option maxRecDepth 100000 in
set_option maxHeartbeats 8000000 in
theorem bad_b (w : World) (ba bb bc : Option Addr) (na ca nb cb nc cc : Nat) (x : Nat) (hx : x < pw 64) (ha : Nw w ba na ca (digs x)) (sa : na ≤ 100) (l : List Nat) (hb : Nw w bb nb cb l) (vl : decide (valid l) = false) (sb : nb ≤ 100) (sc : nc ≤ 100)  : Calls Try.prog 6 #[.agg #[.slice ba na ca], .agg #[.slice bb nb cb], .agg #[.slice bc nc cc]] w fun e w' => e = .returned (.bool true) ∧ Gr w w' := by
  have G := Lib.hid (Gr.refl w)
  have R_a := Lib.hid ha
  have HX := Lib.hid hx
  have Sa := Lib.hid sa
  have R_b := Lib.hid hb
  have VL := Lib.hid vl
  have Sb := Lib.hid sb
  have Sc := Lib.hid sc
  clear ha hx sa hb vl sb sc
  have k_a : (((w.alloc (.cells #[.slice ba na ca] 24)).alloc (.cells #[.slice bb nb cb] 24)).alloc (.cells #[.slice bc nc cc] 24)).cell? ⟨w.heap.size, 0, none⟩ = some (.slice ba na ca) := by simp [go_sem]
  have k_b : (((w.alloc (.cells #[.slice ba na ca] 24)).alloc (.cells #[.slice bb nb cb] 24)).alloc (.cells #[.slice bc nc cc] 24)).cell? ⟨w.heap.size + 1, 0, none⟩ = some (.slice bb nb cb) := by simp [go_sem]
  have k_c : (((w.alloc (.cells #[.slice ba na ca] 24)).alloc (.cells #[.slice bb nb cb] 24)).alloc (.cells #[.slice bc nc cc] 24)).cell? ⟨w.heap.size + 1 + 1, 0, none⟩ = some (.slice bc nc cc) := by simp [go_sem]
  go_enter Try.func6, Try.ntmps6
  go_wp2_with fail
  refine (awake_any _).mono ?_
  rintro e w1 ⟨rfl, hg⟩
  replace k_a := hg.cell k_a
  replace k_b := hg.cell k_b
  replace k_c := hg.cell k_c
  have gg := ((((Gr.refl w).alloc (.cells #[.slice ba na ca] 24)).alloc (.cells #[.slice bb nb cb] 24)).alloc (.cells #[.slice bc nc cc] 24)).trans hg
  replace R_a := Lib.hid (R_a.out.grow gg)
  replace R_b := Lib.hid (R_b.out.grow gg)
  replace G := Lib.hid (G.out.trans gg)
  clear hg gg
  have sa := Sa.out
  have sb := Sb.out
  have sc := Sc.out
  go_wp2_with fail
  replace k_a := ((Gr.refl w1).alloc (.cells #[.slice ba na ca, .slice bb nb cb, .slice bc nc cc] 24)).cell k_a
  replace k_b := ((Gr.refl w1).alloc (.cells #[.slice ba na ca, .slice bb nb cb, .slice bc nc cc] 24)).cell k_b
  replace k_c := ((Gr.refl w1).alloc (.cells #[.slice ba na ca, .slice bb nb cb, .slice bc nc cc] 24)).cell k_c
  refine (great_no (n := 3) (c := 3) rfl (by decide) (nats3 w1 ba bb bc na ca nb cb nc cc) (le3 sa sb sc)).mono ?_
  rintro e w2 ⟨rfl, hg⟩
  replace k_a := hg.cell k_a
  replace k_b := hg.cell k_b
  replace k_c := hg.cell k_c
  have gg := ((Gr.refl w1).alloc (.cells #[.slice ba na ca, .slice bb nb cb, .slice bc nc cc] 24)).trans hg
  replace R_a := Lib.hid (R_a.out.grow gg)
  replace R_b := Lib.hid (R_b.out.grow gg)
  replace G := Lib.hid (G.out.trans gg)
  clear hg gg
  clear sa sb sc
  go_wp2_with fail
  refine (RValid_v (R_a.out.grow (Gr.refl w2)) HX.out).mono ?_
  rintro e w3 ⟨rfl, hg⟩
  replace k_a := hg.cell k_a
  replace k_b := hg.cell k_b
  replace k_c := hg.cell k_c
  have gg := (Gr.refl w2).trans hg
  replace R_a := Lib.hid (R_a.out.grow gg)
  replace R_b := Lib.hid (R_b.out.grow gg)
  replace G := Lib.hid (G.out.trans gg)
  clear hg gg
  go_wp2_with fail
  refine (RValid_no (R_b.out.grow (Gr.refl w3)) VL.out).mono ?_
  rintro e w4 ⟨rfl, hg⟩
  replace k_a := hg.cell k_a
  replace k_b := hg.cell k_b
  replace k_c := hg.cell k_c
  have gg := (Gr.refl w3).trans hg
  replace R_a := Lib.hid (R_a.out.grow gg)
  replace R_b := Lib.hid (R_b.out.grow gg)
  replace G := Lib.hid (G.out.trans gg)
  clear hg gg
  go_wp2
  go_ret
  exact ⟨rfl, G.out⟩

set_option maxRecDepth 100000 in
set_option maxHeartbeats 8000000 in
theorem bad_c (w : World) (ba bb bc : Option Addr) (na ca nb cb nc cc : Nat) (x : Nat) (hx : x < pw 64) (ha : Nw w ba na ca (digs x)) (sa : na ≤ 100) (y : Nat) (hy : y < pw 64) (hb : Nw w bb nb cb (digs y)) (sb : nb ≤ 100) (l : List Nat) (hc : Nw w bc nc cc l) (vl : decide (valid l) = false) (sc : nc ≤ 100)  : Calls Try.prog 6 #[.agg #[.slice ba na ca], .agg #[.slice bb nb cb], .agg #[.slice bc nc cc]] w fun e w' => e = .returned (.bool true) ∧ Gr w w' := by
  have G := Lib.hid (Gr.refl w)
  have R_a := Lib.hid ha
  have HX := Lib.hid hx
  have Sa := Lib.hid sa
  have R_b := Lib.hid hb
  have HY := Lib.hid hy
  have Sb := Lib.hid sb
  have R_c := Lib.hid hc
  have VL := Lib.hid vl
  have Sc := Lib.hid sc
  clear ha hx sa hb hy sb hc vl sc
  have k_a : (((w.alloc (.cells #[.slice ba na ca] 24)).alloc (.cells #[.slice bb nb cb] 24)).alloc (.cells #[.slice bc nc cc] 24)).cell? ⟨w.heap.size, 0, none⟩ = some (.slice ba na ca) := by simp [go_sem]
  have k_b : (((w.alloc (.cells #[.slice ba na ca] 24)).alloc (.cells #[.slice bb nb cb] 24)).alloc (.cells #[.slice bc nc cc] 24)).cell? ⟨w.heap.size + 1, 0, none⟩ = some (.slice bb nb cb) := by simp [go_sem]
  have k_c : (((w.alloc (.cells #[.slice ba na ca] 24)).alloc (.cells #[.slice bb nb cb] 24)).alloc (.cells #[.slice bc nc cc] 24)).cell? ⟨w.heap.size + 1 + 1, 0, none⟩ = some (.slice bc nc cc) := by simp [go_sem]
  go_enter Try.func6, Try.ntmps6
  go_wp2_with fail
  refine (awake_any _).mono ?_
  rintro e w1 ⟨rfl, hg⟩
  replace k_a := hg.cell k_a
  replace k_b := hg.cell k_b
  replace k_c := hg.cell k_c
  have gg := ((((Gr.refl w).alloc (.cells #[.slice ba na ca] 24)).alloc (.cells #[.slice bb nb cb] 24)).alloc (.cells #[.slice bc nc cc] 24)).trans hg
  replace R_a := Lib.hid (R_a.out.grow gg)
  replace R_b := Lib.hid (R_b.out.grow gg)
  replace R_c := Lib.hid (R_c.out.grow gg)
  replace G := Lib.hid (G.out.trans gg)
  clear hg gg
  have sa := Sa.out
  have sb := Sb.out
  have sc := Sc.out
  go_wp2_with fail
  replace k_a := ((Gr.refl w1).alloc (.cells #[.slice ba na ca, .slice bb nb cb, .slice bc nc cc] 24)).cell k_a
  replace k_b := ((Gr.refl w1).alloc (.cells #[.slice ba na ca, .slice bb nb cb, .slice bc nc cc] 24)).cell k_b
  replace k_c := ((Gr.refl w1).alloc (.cells #[.slice ba na ca, .slice bb nb cb, .slice bc nc cc] 24)).cell k_c
  refine (great_no (n := 3) (c := 3) rfl (by decide) (nats3 w1 ba bb bc na ca nb cb nc cc) (le3 sa sb sc)).mono ?_
  rintro e w2 ⟨rfl, hg⟩
  replace k_a := hg.cell k_a
  replace k_b := hg.cell k_b
  replace k_c := hg.cell k_c
  have gg := ((Gr.refl w1).alloc (.cells #[.slice ba na ca, .slice bb nb cb, .slice bc nc cc] 24)).trans hg
  replace R_a := Lib.hid (R_a.out.grow gg)
  replace R_b := Lib.hid (R_b.out.grow gg)
  replace R_c := Lib.hid (R_c.out.grow gg)
  replace G := Lib.hid (G.out.trans gg)
  clear hg gg
  clear sa sb sc
  go_wp2_with fail
  refine (RValid_v (R_a.out.grow (Gr.refl w2)) HX.out).mono ?_
  rintro e w3 ⟨rfl, hg⟩
  replace k_a := hg.cell k_a
  replace k_b := hg.cell k_b
  replace k_c := hg.cell k_c
  have gg := (Gr.refl w2).trans hg
  replace R_a := Lib.hid (R_a.out.grow gg)
  replace R_b := Lib.hid (R_b.out.grow gg)
  replace R_c := Lib.hid (R_c.out.grow gg)
  replace G := Lib.hid (G.out.trans gg)
  clear hg gg
  go_wp2_with fail
  refine (RValid_v (R_b.out.grow (Gr.refl w3)) HY.out).mono ?_
  rintro e w4 ⟨rfl, hg⟩
  replace k_a := hg.cell k_a
  replace k_b := hg.cell k_b
  replace k_c := hg.cell k_c
  have gg := (Gr.refl w3).trans hg
  replace R_a := Lib.hid (R_a.out.grow gg)
  replace R_b := Lib.hid (R_b.out.grow gg)
  replace R_c := Lib.hid (R_c.out.grow gg)
  replace G := Lib.hid (G.out.trans gg)
  clear hg gg
  go_wp2_with fail
  refine (RValid_no (R_c.out.grow (Gr.refl w4)) VL.out).mono ?_
  rintro e w5 ⟨rfl, hg⟩
  replace k_a := hg.cell k_a
  replace k_b := hg.cell k_b
  replace k_c := hg.cell k_c
  have gg := (Gr.refl w4).trans hg
  replace R_a := Lib.hid (R_a.out.grow gg)
  replace R_b := Lib.hid (R_b.out.grow gg)
  replace R_c := Lib.hid (R_c.out.grow gg)
  replace G := Lib.hid (G.out.trans gg)
  clear hg gg
  go_wp2
  go_ret
  exact ⟨rfl, G.out⟩

set_option maxRecDepth 100000 in
set_option maxHeartbeats 40000000 in
theorem ok (w : World) (ba bb bc : Option Addr) (na ca nb cb nc cc : Nat) (x : Nat) (hx : x < pw 64) (ha : Nw w ba na ca (digs x)) (sa : na ≤ 100) (y : Nat) (hy : y < pw 64) (hb : Nw w bb nb cb (digs y)) (sb : nb ≤ 100) (z : Nat) (hz : z < pw 64) (hc : Nw w bc nc cc (digs z)) (sc : nc ≤ 100)  : Calls Try.prog 6 #[.agg #[.slice ba na ca], .agg #[.slice bb nb cb], .agg #[.slice bc nc cc]] w fun e w' => e = .returned (.bool true) ∧ Gr w w' := by
  have G := Lib.hid (Gr.refl w)
  have R_a := Lib.hid ha
  have HX := Lib.hid hx
  have Sa := Lib.hid sa
  have R_b := Lib.hid hb
  have HY := Lib.hid hy
  have Sb := Lib.hid sb
  have R_c := Lib.hid hc
  have HZ := Lib.hid hz
  have Sc := Lib.hid sc
  clear ha hx sa hb hy sb hc hz sc
  obtain ⟨s, e, f_s⟩ := fits_ex (x + y)
  have F_s := Lib.hid f_s
  clear f_s
  obtain ⟨t, g, f_t⟩ := fits_ex (y + z)
  have F_t := Lib.hid f_t
  clear f_t
  obtain ⟨p, i, f_p⟩ := fits_ex (x * y)
  have F_p := Lib.hid f_p
  clear f_p
  obtain ⟨q, j, f_q⟩ := fits_ex (y * z)
  have F_q := Lib.hid f_q
  clear f_q
  obtain ⟨r, m, f_r⟩ := fits_ex (x * z)
  have F_r := Lib.hid f_r
  clear f_r
  obtain ⟨u, h, f_u⟩ := fits_ex (s + z)
  have F_u := Lib.hid f_u
  clear f_u
  obtain ⟨v, n, f_v⟩ := fits_ex (p * z)
  have F_v := Lib.hid f_v
  clear f_v
  obtain ⟨d, o, f_d⟩ := fits_ex (s * z)
  have F_d := Lib.hid f_d
  clear f_d
  have k_a : (((w.alloc (.cells #[.slice ba na ca] 24)).alloc (.cells #[.slice bb nb cb] 24)).alloc (.cells #[.slice bc nc cc] 24)).cell? ⟨w.heap.size, 0, none⟩ = some (.slice ba na ca) := by simp [go_sem]
  have k_b : (((w.alloc (.cells #[.slice ba na ca] 24)).alloc (.cells #[.slice bb nb cb] 24)).alloc (.cells #[.slice bc nc cc] 24)).cell? ⟨w.heap.size + 1, 0, none⟩ = some (.slice bb nb cb) := by simp [go_sem]
  have k_c : (((w.alloc (.cells #[.slice ba na ca] 24)).alloc (.cells #[.slice bb nb cb] 24)).alloc (.cells #[.slice bc nc cc] 24)).cell? ⟨w.heap.size + 1 + 1, 0, none⟩ = some (.slice bc nc cc) := by simp [go_sem]
  go_enter Try.func6, Try.ntmps6
  go_wp2_with fail
  refine (awake_any _).mono ?_
  rintro e w1 ⟨rfl, hg⟩
  replace k_a := hg.cell k_a
  replace k_b := hg.cell k_b
  replace k_c := hg.cell k_c
  have gg := ((((Gr.refl w).alloc (.cells #[.slice ba na ca] 24)).alloc (.cells #[.slice bb nb cb] 24)).alloc (.cells #[.slice bc nc cc] 24)).trans hg
  replace R_a := Lib.hid (R_a.out.grow gg)
  replace R_b := Lib.hid (R_b.out.grow gg)
  replace R_c := Lib.hid (R_c.out.grow gg)
  replace G := Lib.hid (G.out.trans gg)
  clear hg gg
  have sa := Sa.out
  have sb := Sb.out
  have sc := Sc.out
  go_wp2_with fail
  replace k_a := ((Gr.refl w1).alloc (.cells #[.slice ba na ca, .slice bb nb cb, .slice bc nc cc] 24)).cell k_a
  replace k_b := ((Gr.refl w1).alloc (.cells #[.slice ba na ca, .slice bb nb cb, .slice bc nc cc] 24)).cell k_b
  replace k_c := ((Gr.refl w1).alloc (.cells #[.slice ba na ca, .slice bb nb cb, .slice bc nc cc] 24)).cell k_c
  refine (great_no (n := 3) (c := 3) rfl (by decide) (nats3 w1 ba bb bc na ca nb cb nc cc) (le3 sa sb sc)).mono ?_
  rintro e w2 ⟨rfl, hg⟩
  replace k_a := hg.cell k_a
  replace k_b := hg.cell k_b
  replace k_c := hg.cell k_c
  have gg := ((Gr.refl w1).alloc (.cells #[.slice ba na ca, .slice bb nb cb, .slice bc nc cc] 24)).trans hg
  replace R_a := Lib.hid (R_a.out.grow gg)
  replace R_b := Lib.hid (R_b.out.grow gg)
  replace R_c := Lib.hid (R_c.out.grow gg)
  replace G := Lib.hid (G.out.trans gg)
  clear hg gg
  clear sa sb sc
  go_wp2_with fail
  refine (RValid_v (R_a.out.grow (Gr.refl w2)) HX.out).mono ?_
  rintro e w3 ⟨rfl, hg⟩
  replace k_a := hg.cell k_a
  replace k_b := hg.cell k_b
  replace k_c := hg.cell k_c
  have gg := (Gr.refl w2).trans hg
  replace R_a := Lib.hid (R_a.out.grow gg)
  replace R_b := Lib.hid (R_b.out.grow gg)
  replace R_c := Lib.hid (R_c.out.grow gg)
  replace G := Lib.hid (G.out.trans gg)
  clear hg gg
  go_wp2_with fail
  refine (RValid_v (R_b.out.grow (Gr.refl w3)) HY.out).mono ?_
  rintro e w4 ⟨rfl, hg⟩
  replace k_a := hg.cell k_a
  replace k_b := hg.cell k_b
  replace k_c := hg.cell k_c
  have gg := (Gr.refl w3).trans hg
  replace R_a := Lib.hid (R_a.out.grow gg)
  replace R_b := Lib.hid (R_b.out.grow gg)
  replace R_c := Lib.hid (R_c.out.grow gg)
  replace G := Lib.hid (G.out.trans gg)
  clear hg gg
  go_wp2_with fail
  refine (RValid_v (R_c.out.grow (Gr.refl w4)) HZ.out).mono ?_
  rintro e w5 ⟨rfl, hg⟩
  replace k_a := hg.cell k_a
  replace k_b := hg.cell k_b
  replace k_c := hg.cell k_c
  have gg := (Gr.refl w4).trans hg
  replace R_a := Lib.hid (R_a.out.grow gg)
  replace R_b := Lib.hid (R_b.out.grow gg)
  replace R_c := Lib.hid (R_c.out.grow gg)
  replace G := Lib.hid (G.out.trans gg)
  clear hg gg
  go_wp2_with fail
  refine (Add_v s e F_s.out (R_a.out.grow (Gr.refl w5)) (R_b.out.grow (Gr.refl w5)) HX.out HY.out).mono ?_
  rintro e w6 ⟨p1, n1, c1, rfl, hr_s, hg⟩
  replace k_a := hg.cell k_a
  replace k_b := hg.cell k_b
  replace k_c := hg.cell k_c
  have gg := (Gr.refl w5).trans hg
  replace R_a := Lib.hid (R_a.out.grow gg)
  replace R_b := Lib.hid (R_b.out.grow gg)
  replace R_c := Lib.hid (R_c.out.grow gg)
  replace G := Lib.hid (G.out.trans gg)
  have R_s := Lib.hid hr_s.toNw
  clear hr_s
  clear hg gg
  replace k_a := ((Gr.refl w6).alloc (.cells #[.slice p1 n1 c1] 24)).cell k_a
  replace k_b := ((Gr.refl w6).alloc (.cells #[.slice p1 n1 c1] 24)).cell k_b
  replace k_c := ((Gr.refl w6).alloc (.cells #[.slice p1 n1 c1] 24)).cell k_c
  have k_s : (w6.alloc (.cells #[.slice p1 n1 c1] 24)).cell? ⟨w6.heap.size, 0, none⟩ = some (.slice p1 n1 c1) := by simp [go_sem]
  go_wp2_with fail
  refine (Add_v s e (by rw [Nat.add_comm]; exact F_s.out) (R_b.out.grow ((Gr.refl w6).alloc (.cells #[.slice p1 n1 c1] 24))) (R_a.out.grow ((Gr.refl w6).alloc (.cells #[.slice p1 n1 c1] 24))) HY.out HX.out).mono ?_
  rintro e w7 ⟨p2, n2, c2, rfl, hr_s2, hg⟩
  replace k_a := hg.cell k_a
  replace k_b := hg.cell k_b
  replace k_c := hg.cell k_c
  replace k_s := hg.cell k_s
  have gg := ((Gr.refl w6).alloc (.cells #[.slice p1 n1 c1] 24)).trans hg
  replace R_a := Lib.hid (R_a.out.grow gg)
  replace R_b := Lib.hid (R_b.out.grow gg)
  replace R_c := Lib.hid (R_c.out.grow gg)
  replace R_s := Lib.hid (R_s.out.grow gg)
  replace G := Lib.hid (G.out.trans gg)
  have R_s2 := Lib.hid hr_s2.toNw
  clear hr_s2
  clear hg gg
  replace k_a := ((Gr.refl w7).alloc (.cells #[.slice p2 n2 c2] 24)).cell k_a
  replace k_b := ((Gr.refl w7).alloc (.cells #[.slice p2 n2 c2] 24)).cell k_b
  replace k_c := ((Gr.refl w7).alloc (.cells #[.slice p2 n2 c2] 24)).cell k_c
  replace k_s := ((Gr.refl w7).alloc (.cells #[.slice p2 n2 c2] 24)).cell k_s
  have k_s2 : (w7.alloc (.cells #[.slice p2 n2 c2] 24)).cell? ⟨w7.heap.size, 0, none⟩ = some (.slice p2 n2 c2) := by simp [go_sem]
  go_wp2_with fail
  refine (Same_v_eq rfl (R_s.out.grow ((Gr.refl w7).alloc (.cells #[.slice p2 n2 c2] 24))) (R_s2.out.grow ((Gr.refl w7).alloc (.cells #[.slice p2 n2 c2] 24)))).mono ?_
  rintro e w8 ⟨rfl, hg⟩
  replace k_a := hg.cell k_a
  replace k_b := hg.cell k_b
  replace k_c := hg.cell k_c
  replace k_s := hg.cell k_s
  replace k_s2 := hg.cell k_s2
  have gg := ((Gr.refl w7).alloc (.cells #[.slice p2 n2 c2] 24)).trans hg
  replace R_a := Lib.hid (R_a.out.grow gg)
  replace R_b := Lib.hid (R_b.out.grow gg)
  replace R_c := Lib.hid (R_c.out.grow gg)
  replace R_s := Lib.hid (R_s.out.grow gg)
  replace R_s2 := Lib.hid (R_s2.out.grow gg)
  replace G := Lib.hid (G.out.trans gg)
  clear hg gg
  clear k_s2
  clear R_s2
  go_upto_if 86 with fail
  generalize w8 = wE at *
  go_cut [] from 42 (fun wc => Gr wE wc)
  case first => as_aux_lemma =>
    have GE := Lib.hid (Gr.refl wE)
    by_cases he : e = 0
    · subst he
      obtain ⟨es, hs⟩ := F_s.out.ok
      have ES := Lib.hid es
      have HS := Lib.hid hs
      clear es hs
      have HSS : Hid (s < pw 64) := Lib.hid (by rw [ES.out]; exact HS.out)
      go_wp2_with fail
      refine (Sub_v (by rw [ES.out]; exact Nat.le_add_left y x) (R_s.out.grow (Gr.refl wE)) (R_b.out.grow (Gr.refl wE)) HSS.out HY.out).mono ?_
      rintro e w9 ⟨p3, n3, c3, rfl, hr_k, hg⟩
      replace k_a := hg.cell k_a
      replace k_b := hg.cell k_b
      replace k_c := hg.cell k_c
      replace k_s := hg.cell k_s
      have gg := (Gr.refl wE).trans hg
      replace R_a := Lib.hid (R_a.out.grow gg)
      replace R_b := Lib.hid (R_b.out.grow gg)
      replace R_c := Lib.hid (R_c.out.grow gg)
      replace R_s := Lib.hid (R_s.out.grow gg)
      replace G := Lib.hid (G.out.trans gg)
      replace GE := Lib.hid (GE.out.trans gg)
      have R_k := Lib.hid hr_k.toNw
      clear hr_k
      clear hg gg
      replace k_a := ((Gr.refl w9).alloc (.cells #[.slice p3 n3 c3] 24)).cell k_a
      replace k_b := ((Gr.refl w9).alloc (.cells #[.slice p3 n3 c3] 24)).cell k_b
      replace k_c := ((Gr.refl w9).alloc (.cells #[.slice p3 n3 c3] 24)).cell k_c
      replace k_s := ((Gr.refl w9).alloc (.cells #[.slice p3 n3 c3] 24)).cell k_s
      have k_k : (w9.alloc (.cells #[.slice p3 n3 c3] 24)).cell? ⟨w9.heap.size, 0, none⟩ = some (.slice p3 n3 c3) := by simp [go_sem]
      go_wp2_with fail
      refine (Same_v_eq (by rw [ES.out]; exact Nat.add_sub_cancel x y) (R_k.out.grow ((Gr.refl w9).alloc (.cells #[.slice p3 n3 c3] 24))) (R_a.out.grow ((Gr.refl w9).alloc (.cells #[.slice p3 n3 c3] 24)))).mono ?_
      rintro e w10 ⟨rfl, hg⟩
      replace k_a := hg.cell k_a
      replace k_b := hg.cell k_b
      replace k_c := hg.cell k_c
      replace k_s := hg.cell k_s
      replace k_k := hg.cell k_k
      have gg := ((Gr.refl w9).alloc (.cells #[.slice p3 n3 c3] 24)).trans hg
      replace R_a := Lib.hid (R_a.out.grow gg)
      replace R_b := Lib.hid (R_b.out.grow gg)
      replace R_c := Lib.hid (R_c.out.grow gg)
      replace R_s := Lib.hid (R_s.out.grow gg)
      replace R_k := Lib.hid (R_k.out.grow gg)
      replace G := Lib.hid (G.out.trans gg)
      replace GE := Lib.hid (GE.out.trans gg)
      clear hg gg
      clear k_k
      clear R_k
      go_wp2_with fail
      refine (Add_v t g F_t.out (R_b.out.grow (Gr.refl w10)) (R_c.out.grow (Gr.refl w10)) HY.out HZ.out).mono ?_
      rintro e w11 ⟨p4, n4, c4, rfl, hr_t, hg⟩
      replace k_a := hg.cell k_a
      replace k_b := hg.cell k_b
      replace k_c := hg.cell k_c
      replace k_s := hg.cell k_s
      have gg := (Gr.refl w10).trans hg
      replace R_a := Lib.hid (R_a.out.grow gg)
      replace R_b := Lib.hid (R_b.out.grow gg)
      replace R_c := Lib.hid (R_c.out.grow gg)
      replace R_s := Lib.hid (R_s.out.grow gg)
      replace G := Lib.hid (G.out.trans gg)
      replace GE := Lib.hid (GE.out.trans gg)
      have R_t := Lib.hid hr_t.toNw
      clear hr_t
      clear hg gg
      replace k_a := ((Gr.refl w11).alloc (.cells #[.slice p4 n4 c4] 24)).cell k_a
      replace k_b := ((Gr.refl w11).alloc (.cells #[.slice p4 n4 c4] 24)).cell k_b
      replace k_c := ((Gr.refl w11).alloc (.cells #[.slice p4 n4 c4] 24)).cell k_c
      replace k_s := ((Gr.refl w11).alloc (.cells #[.slice p4 n4 c4] 24)).cell k_s
      have k_t : (w11.alloc (.cells #[.slice p4 n4 c4] 24)).cell? ⟨w11.heap.size, 0, none⟩ = some (.slice p4 n4 c4) := by simp [go_sem]
      go_wp2_with fail
      refine (Add_v u h F_u.out (R_s.out.grow ((Gr.refl w11).alloc (.cells #[.slice p4 n4 c4] 24))) (R_c.out.grow ((Gr.refl w11).alloc (.cells #[.slice p4 n4 c4] 24))) HSS.out HZ.out).mono ?_
      rintro e w12 ⟨p5, n5, c5, rfl, hr_u, hg⟩
      replace k_a := hg.cell k_a
      replace k_b := hg.cell k_b
      replace k_c := hg.cell k_c
      replace k_s := hg.cell k_s
      replace k_t := hg.cell k_t
      have gg := ((Gr.refl w11).alloc (.cells #[.slice p4 n4 c4] 24)).trans hg
      replace R_a := Lib.hid (R_a.out.grow gg)
      replace R_b := Lib.hid (R_b.out.grow gg)
      replace R_c := Lib.hid (R_c.out.grow gg)
      replace R_s := Lib.hid (R_s.out.grow gg)
      replace R_t := Lib.hid (R_t.out.grow gg)
      replace G := Lib.hid (G.out.trans gg)
      replace GE := Lib.hid (GE.out.trans gg)
      have R_u := Lib.hid hr_u.toNw
      clear hr_u
      clear hg gg
      replace k_a := ((Gr.refl w12).alloc (.cells #[.slice p5 n5 c5] 24)).cell k_a
      replace k_b := ((Gr.refl w12).alloc (.cells #[.slice p5 n5 c5] 24)).cell k_b
      replace k_c := ((Gr.refl w12).alloc (.cells #[.slice p5 n5 c5] 24)).cell k_c
      replace k_s := ((Gr.refl w12).alloc (.cells #[.slice p5 n5 c5] 24)).cell k_s
      replace k_t := ((Gr.refl w12).alloc (.cells #[.slice p5 n5 c5] 24)).cell k_t
      have k_u : (w12.alloc (.cells #[.slice p5 n5 c5] 24)).cell? ⟨w12.heap.size, 0, none⟩ = some (.slice p5 n5 c5) := by simp [go_sem]
      by_cases hgh : g = 0 ∧ h = 0
      · obtain ⟨rfl, rfl⟩ := hgh
        obtain ⟨et, ht⟩ := F_t.out.ok
        obtain ⟨eu, hu⟩ := F_u.out.ok
        have HT : Hid (t < pw 64) := Lib.hid (by rw [et]; exact ht)
        have FX : Hid (Fits (x + t) u 0) := Lib.hid (.inl ⟨by rw [et, ← Nat.add_assoc, ← ES.out]; exact hu, by rw [eu, et, ES.out, Nat.add_assoc], rfl⟩)
        clear et ht eu hu
        go_wp2_with fail
        refine (Add_v u 0 FX.out (R_a.out.grow ((Gr.refl w12).alloc (.cells #[.slice p5 n5 c5] 24))) (R_t.out.grow ((Gr.refl w12).alloc (.cells #[.slice p5 n5 c5] 24))) HX.out HT.out).mono ?_
        rintro e w13 ⟨p6, n6, c6, rfl, hr_u2, hg⟩
        replace k_a := hg.cell k_a
        replace k_b := hg.cell k_b
        replace k_c := hg.cell k_c
        replace k_s := hg.cell k_s
        replace k_t := hg.cell k_t
        replace k_u := hg.cell k_u
        have gg := ((Gr.refl w12).alloc (.cells #[.slice p5 n5 c5] 24)).trans hg
        replace R_a := Lib.hid (R_a.out.grow gg)
        replace R_b := Lib.hid (R_b.out.grow gg)
        replace R_c := Lib.hid (R_c.out.grow gg)
        replace R_s := Lib.hid (R_s.out.grow gg)
        replace R_t := Lib.hid (R_t.out.grow gg)
        replace R_u := Lib.hid (R_u.out.grow gg)
        replace G := Lib.hid (G.out.trans gg)
        replace GE := Lib.hid (GE.out.trans gg)
        have R_u2 := Lib.hid hr_u2.toNw
        clear hr_u2
        clear hg gg
        replace k_a := ((Gr.refl w13).alloc (.cells #[.slice p6 n6 c6] 24)).cell k_a
        replace k_b := ((Gr.refl w13).alloc (.cells #[.slice p6 n6 c6] 24)).cell k_b
        replace k_c := ((Gr.refl w13).alloc (.cells #[.slice p6 n6 c6] 24)).cell k_c
        replace k_s := ((Gr.refl w13).alloc (.cells #[.slice p6 n6 c6] 24)).cell k_s
        replace k_t := ((Gr.refl w13).alloc (.cells #[.slice p6 n6 c6] 24)).cell k_t
        replace k_u := ((Gr.refl w13).alloc (.cells #[.slice p6 n6 c6] 24)).cell k_u
        have k_u2 : (w13.alloc (.cells #[.slice p6 n6 c6] 24)).cell? ⟨w13.heap.size, 0, none⟩ = some (.slice p6 n6 c6) := by simp [go_sem]
        go_wp2_with fail
        refine (Same_v_eq rfl (R_u.out.grow ((Gr.refl w13).alloc (.cells #[.slice p6 n6 c6] 24))) (R_u2.out.grow ((Gr.refl w13).alloc (.cells #[.slice p6 n6 c6] 24)))).mono ?_
        rintro e w14 ⟨rfl, hg⟩
        replace k_a := hg.cell k_a
        replace k_b := hg.cell k_b
        replace k_c := hg.cell k_c
        replace k_s := hg.cell k_s
        replace k_t := hg.cell k_t
        replace k_u := hg.cell k_u
        replace k_u2 := hg.cell k_u2
        have gg := ((Gr.refl w13).alloc (.cells #[.slice p6 n6 c6] 24)).trans hg
        replace R_a := Lib.hid (R_a.out.grow gg)
        replace R_b := Lib.hid (R_b.out.grow gg)
        replace R_c := Lib.hid (R_c.out.grow gg)
        replace R_s := Lib.hid (R_s.out.grow gg)
        replace R_t := Lib.hid (R_t.out.grow gg)
        replace R_u := Lib.hid (R_u.out.grow gg)
        replace R_u2 := Lib.hid (R_u2.out.grow gg)
        replace G := Lib.hid (G.out.trans gg)
        replace GE := Lib.hid (GE.out.trans gg)
        clear hg gg
        go_wp2_with fail
        go_meet
        exact GE.out
      · have hb : ((g : Int) == 0 && (h : Int) == 0) = false := by
          simp only [Bool.and_eq_false_iff, beq_eq_false_iff_ne]; omega
        by_cases hg0 : g = 0
        · subst hg0
          have hh0 : ((h : Int) == 0) = false := by simp; omega
          clear hb
          go_wp2_with fail
          go_meet
          exact GE.out.trans ((Gr.refl w12).alloc (.cells #[.slice p5 n5 c5] 24))
        · have hh0 : ((g : Int) == 0) = false := by simp; omega
          clear hb
          go_wp2_with fail
          go_meet
          exact GE.out.trans ((Gr.refl w12).alloc (.cells #[.slice p5 n5 c5] 24))
    · have he0 : ((e : Int) == 0) = false := by simp; omega
      go_wp2_with fail
      go_meet
      exact GE.out
  case rest => as_aux_lemma =>
    replace k_a := hcut.cell k_a
    replace k_b := hcut.cell k_b
    replace k_c := hcut.cell k_c
    replace k_s := hcut.cell k_s
    replace R_a := Lib.hid (R_a.out.grow hcut)
    replace R_b := Lib.hid (R_b.out.grow hcut)
    replace R_c := Lib.hid (R_c.out.grow hcut)
    replace R_s := Lib.hid (R_s.out.grow hcut)
    replace G := Lib.hid (G.out.trans hcut)
    clear hcut
    go_wp2_with fail
    refine (Mul_v p i F_p.out (R_a.out.grow (Gr.refl wc)) (R_b.out.grow (Gr.refl wc)) HX.out HY.out).mono ?_
    rintro e w9 ⟨p1, n1, c1, rfl, hr_p, hg⟩
    replace k_a := hg.cell k_a
    replace k_b := hg.cell k_b
    replace k_c := hg.cell k_c
    replace k_s := hg.cell k_s
    have gg := (Gr.refl wc).trans hg
    replace R_a := Lib.hid (R_a.out.grow gg)
    replace R_b := Lib.hid (R_b.out.grow gg)
    replace R_c := Lib.hid (R_c.out.grow gg)
    replace R_s := Lib.hid (R_s.out.grow gg)
    replace G := Lib.hid (G.out.trans gg)
    have R_p := Lib.hid hr_p.toNw
    clear hr_p
    clear hg gg
    replace k_a := ((Gr.refl w9).alloc (.cells #[.slice p1 n1 c1] 24)).cell k_a
    replace k_b := ((Gr.refl w9).alloc (.cells #[.slice p1 n1 c1] 24)).cell k_b
    replace k_c := ((Gr.refl w9).alloc (.cells #[.slice p1 n1 c1] 24)).cell k_c
    replace k_s := ((Gr.refl w9).alloc (.cells #[.slice p1 n1 c1] 24)).cell k_s
    have k_p : (w9.alloc (.cells #[.slice p1 n1 c1] 24)).cell? ⟨w9.heap.size, 0, none⟩ = some (.slice p1 n1 c1) := by simp [go_sem]
    go_wp2_with fail
    refine (Mul_v p i (by rw [Nat.mul_comm]; exact F_p.out) (R_b.out.grow ((Gr.refl w9).alloc (.cells #[.slice p1 n1 c1] 24))) (R_a.out.grow ((Gr.refl w9).alloc (.cells #[.slice p1 n1 c1] 24))) HY.out HX.out).mono ?_
    rintro e w10 ⟨p2, n2, c2, rfl, hr_p2, hg⟩
    replace k_a := hg.cell k_a
    replace k_b := hg.cell k_b
    replace k_c := hg.cell k_c
    replace k_s := hg.cell k_s
    replace k_p := hg.cell k_p
    have gg := ((Gr.refl w9).alloc (.cells #[.slice p1 n1 c1] 24)).trans hg
    replace R_a := Lib.hid (R_a.out.grow gg)
    replace R_b := Lib.hid (R_b.out.grow gg)
    replace R_c := Lib.hid (R_c.out.grow gg)
    replace R_s := Lib.hid (R_s.out.grow gg)
    replace R_p := Lib.hid (R_p.out.grow gg)
    replace G := Lib.hid (G.out.trans gg)
    have R_p2 := Lib.hid hr_p2.toNw
    clear hr_p2
    clear hg gg
    replace k_a := ((Gr.refl w10).alloc (.cells #[.slice p2 n2 c2] 24)).cell k_a
    replace k_b := ((Gr.refl w10).alloc (.cells #[.slice p2 n2 c2] 24)).cell k_b
    replace k_c := ((Gr.refl w10).alloc (.cells #[.slice p2 n2 c2] 24)).cell k_c
    replace k_s := ((Gr.refl w10).alloc (.cells #[.slice p2 n2 c2] 24)).cell k_s
    replace k_p := ((Gr.refl w10).alloc (.cells #[.slice p2 n2 c2] 24)).cell k_p
    have k_p2 : (w10.alloc (.cells #[.slice p2 n2 c2] 24)).cell? ⟨w10.heap.size, 0, none⟩ = some (.slice p2 n2 c2) := by simp [go_sem]
    go_wp2_with fail
    refine (Same_v_eq rfl (R_p.out.grow ((Gr.refl w10).alloc (.cells #[.slice p2 n2 c2] 24))) (R_p2.out.grow ((Gr.refl w10).alloc (.cells #[.slice p2 n2 c2] 24)))).mono ?_
    rintro e w11 ⟨rfl, hg⟩
    replace k_a := hg.cell k_a
    replace k_b := hg.cell k_b
    replace k_c := hg.cell k_c
    replace k_s := hg.cell k_s
    replace k_p := hg.cell k_p
    replace k_p2 := hg.cell k_p2
    have gg := ((Gr.refl w10).alloc (.cells #[.slice p2 n2 c2] 24)).trans hg
    replace R_a := Lib.hid (R_a.out.grow gg)
    replace R_b := Lib.hid (R_b.out.grow gg)
    replace R_c := Lib.hid (R_c.out.grow gg)
    replace R_s := Lib.hid (R_s.out.grow gg)
    replace R_p := Lib.hid (R_p.out.grow gg)
    replace R_p2 := Lib.hid (R_p2.out.grow gg)
    replace G := Lib.hid (G.out.trans gg)
    clear hg gg
    clear k_p2
    clear R_p2
    go_wp2_with fail
    refine (Of_v (x := 1) (by decide)).mono ?_
    rintro e w12 ⟨p3, n3, c3, rfl, hr_one, hg⟩
    replace k_a := hg.cell k_a
    replace k_b := hg.cell k_b
    replace k_c := hg.cell k_c
    replace k_s := hg.cell k_s
    replace k_p := hg.cell k_p
    have gg := (Gr.refl w11).trans hg
    replace R_a := Lib.hid (R_a.out.grow gg)
    replace R_b := Lib.hid (R_b.out.grow gg)
    replace R_c := Lib.hid (R_c.out.grow gg)
    replace R_s := Lib.hid (R_s.out.grow gg)
    replace R_p := Lib.hid (R_p.out.grow gg)
    replace G := Lib.hid (G.out.trans gg)
    have R_one := Lib.hid hr_one.toNw
    clear hr_one
    clear hg gg
    replace k_a := ((Gr.refl w12).alloc (.cells #[.slice p3 n3 c3] 24)).cell k_a
    replace k_b := ((Gr.refl w12).alloc (.cells #[.slice p3 n3 c3] 24)).cell k_b
    replace k_c := ((Gr.refl w12).alloc (.cells #[.slice p3 n3 c3] 24)).cell k_c
    replace k_s := ((Gr.refl w12).alloc (.cells #[.slice p3 n3 c3] 24)).cell k_s
    replace k_p := ((Gr.refl w12).alloc (.cells #[.slice p3 n3 c3] 24)).cell k_p
    have k_one : (w12.alloc (.cells #[.slice p3 n3 c3] 24)).cell? ⟨w12.heap.size, 0, none⟩ = some (.slice p3 n3 c3) := by simp [go_sem]
    go_wp2_with fail
    refine (Mul_v x 0 (.inl ⟨by rw [Nat.mul_one]; exact HX.out, (Nat.mul_one x).symm, rfl⟩) (R_a.out.grow ((Gr.refl w12).alloc (.cells #[.slice p3 n3 c3] 24))) (R_one.out.grow ((Gr.refl w12).alloc (.cells #[.slice p3 n3 c3] 24))) HX.out (dv_small (by decide))).mono ?_
    rintro e w13 ⟨p4, n4, c4, rfl, hr_sm, hg⟩
    replace k_a := hg.cell k_a
    replace k_b := hg.cell k_b
    replace k_c := hg.cell k_c
    replace k_s := hg.cell k_s
    replace k_p := hg.cell k_p
    replace k_one := hg.cell k_one
    have gg := ((Gr.refl w12).alloc (.cells #[.slice p3 n3 c3] 24)).trans hg
    replace R_a := Lib.hid (R_a.out.grow gg)
    replace R_b := Lib.hid (R_b.out.grow gg)
    replace R_c := Lib.hid (R_c.out.grow gg)
    replace R_s := Lib.hid (R_s.out.grow gg)
    replace R_p := Lib.hid (R_p.out.grow gg)
    replace R_one := Lib.hid (R_one.out.grow gg)
    replace G := Lib.hid (G.out.trans gg)
    have R_sm := Lib.hid hr_sm.toNw
    clear hr_sm
    clear hg gg
    replace k_a := ((Gr.refl w13).alloc (.cells #[.slice p4 n4 c4] 24)).cell k_a
    replace k_b := ((Gr.refl w13).alloc (.cells #[.slice p4 n4 c4] 24)).cell k_b
    replace k_c := ((Gr.refl w13).alloc (.cells #[.slice p4 n4 c4] 24)).cell k_c
    replace k_s := ((Gr.refl w13).alloc (.cells #[.slice p4 n4 c4] 24)).cell k_s
    replace k_p := ((Gr.refl w13).alloc (.cells #[.slice p4 n4 c4] 24)).cell k_p
    replace k_one := ((Gr.refl w13).alloc (.cells #[.slice p4 n4 c4] 24)).cell k_one
    have k_sm : (w13.alloc (.cells #[.slice p4 n4 c4] 24)).cell? ⟨w13.heap.size, 0, none⟩ = some (.slice p4 n4 c4) := by simp [go_sem]
    go_wp2_with fail
    refine (Add_v (y := 0) x 0 (.inl ⟨HX.out, rfl, rfl⟩) (R_a.out.grow ((Gr.refl w13).alloc (.cells #[.slice p4 n4 c4] 24))) (by rw [digs_zero]; exact Nw.zero _) HX.out (pw_pos 64)).mono ?_
    rintro e w14 ⟨p5, n5, c5, rfl, hr_sz, hg⟩
    replace k_a := hg.cell k_a
    replace k_b := hg.cell k_b
    replace k_c := hg.cell k_c
    replace k_s := hg.cell k_s
    replace k_p := hg.cell k_p
    replace k_one := hg.cell k_one
    replace k_sm := hg.cell k_sm
    have gg := ((Gr.refl w13).alloc (.cells #[.slice p4 n4 c4] 24)).trans hg
    replace R_a := Lib.hid (R_a.out.grow gg)
    replace R_b := Lib.hid (R_b.out.grow gg)
    replace R_c := Lib.hid (R_c.out.grow gg)
    replace R_s := Lib.hid (R_s.out.grow gg)
    replace R_p := Lib.hid (R_p.out.grow gg)
    replace R_one := Lib.hid (R_one.out.grow gg)
    replace R_sm := Lib.hid (R_sm.out.grow gg)
    replace G := Lib.hid (G.out.trans gg)
    have R_sz := Lib.hid hr_sz.toNw
    clear hr_sz
    clear hg gg
    replace k_a := ((Gr.refl w14).alloc (.cells #[.slice p5 n5 c5] 24)).cell k_a
    replace k_b := ((Gr.refl w14).alloc (.cells #[.slice p5 n5 c5] 24)).cell k_b
    replace k_c := ((Gr.refl w14).alloc (.cells #[.slice p5 n5 c5] 24)).cell k_c
    replace k_s := ((Gr.refl w14).alloc (.cells #[.slice p5 n5 c5] 24)).cell k_s
    replace k_p := ((Gr.refl w14).alloc (.cells #[.slice p5 n5 c5] 24)).cell k_p
    replace k_one := ((Gr.refl w14).alloc (.cells #[.slice p5 n5 c5] 24)).cell k_one
    replace k_sm := ((Gr.refl w14).alloc (.cells #[.slice p5 n5 c5] 24)).cell k_sm
    have k_sz : (w14.alloc (.cells #[.slice p5 n5 c5] 24)).cell? ⟨w14.heap.size, 0, none⟩ = some (.slice p5 n5 c5) := by simp [go_sem]
    go_wp2_with fail
    refine (Same_v_eq rfl (R_sm.out.grow ((Gr.refl w14).alloc (.cells #[.slice p5 n5 c5] 24))) (R_a.out.grow ((Gr.refl w14).alloc (.cells #[.slice p5 n5 c5] 24)))).mono ?_
    rintro e w15 ⟨rfl, hg⟩
    replace k_a := hg.cell k_a
    replace k_b := hg.cell k_b
    replace k_c := hg.cell k_c
    replace k_s := hg.cell k_s
    replace k_p := hg.cell k_p
    replace k_one := hg.cell k_one
    replace k_sm := hg.cell k_sm
    replace k_sz := hg.cell k_sz
    have gg := ((Gr.refl w14).alloc (.cells #[.slice p5 n5 c5] 24)).trans hg
    replace R_a := Lib.hid (R_a.out.grow gg)
    replace R_b := Lib.hid (R_b.out.grow gg)
    replace R_c := Lib.hid (R_c.out.grow gg)
    replace R_s := Lib.hid (R_s.out.grow gg)
    replace R_p := Lib.hid (R_p.out.grow gg)
    replace R_one := Lib.hid (R_one.out.grow gg)
    replace R_sm := Lib.hid (R_sm.out.grow gg)
    replace R_sz := Lib.hid (R_sz.out.grow gg)
    replace G := Lib.hid (G.out.trans gg)
    clear hg gg
    go_wp2_with fail
    refine (Same_v_eq rfl (R_sz.out.grow (Gr.refl w15)) (R_a.out.grow (Gr.refl w15))).mono ?_
    rintro e w16 ⟨rfl, hg⟩
    replace k_a := hg.cell k_a
    replace k_b := hg.cell k_b
    replace k_c := hg.cell k_c
    replace k_s := hg.cell k_s
    replace k_p := hg.cell k_p
    replace k_one := hg.cell k_one
    replace k_sm := hg.cell k_sm
    replace k_sz := hg.cell k_sz
    have gg := (Gr.refl w15).trans hg
    replace R_a := Lib.hid (R_a.out.grow gg)
    replace R_b := Lib.hid (R_b.out.grow gg)
    replace R_c := Lib.hid (R_c.out.grow gg)
    replace R_s := Lib.hid (R_s.out.grow gg)
    replace R_p := Lib.hid (R_p.out.grow gg)
    replace R_one := Lib.hid (R_one.out.grow gg)
    replace R_sm := Lib.hid (R_sm.out.grow gg)
    replace R_sz := Lib.hid (R_sz.out.grow gg)
    replace G := Lib.hid (G.out.trans gg)
    clear hg gg
    clear k_one
    clear R_one
    clear k_sm
    clear R_sm
    clear k_sz
    clear R_sz
    go_upto_if 193 with fail
    generalize w16 = wE at *
    go_cut [] from 42 (fun wc => Gr wE wc)
    case first => as_aux_lemma =>
      have GE := Lib.hid (Gr.refl wE)
      by_cases he : i = 0
      · subst he
        obtain ⟨es, hs⟩ := F_p.out.ok
        have ES := Lib.hid es
        have HS := Lib.hid hs
        clear es hs
        have HSS : Hid (p < pw 64) := Lib.hid (by rw [ES.out]; exact HS.out)
        go_wp2_with fail
        refine (Mul_v v n F_v.out (R_p.out.grow (Gr.refl wE)) (R_c.out.grow (Gr.refl wE)) HSS.out HZ.out).mono ?_
        rintro e w17 ⟨p6, n6, c6, rfl, hr_v, hg⟩
        replace k_a := hg.cell k_a
        replace k_b := hg.cell k_b
        replace k_c := hg.cell k_c
        replace k_s := hg.cell k_s
        replace k_p := hg.cell k_p
        have gg := (Gr.refl wE).trans hg
        replace R_a := Lib.hid (R_a.out.grow gg)
        replace R_b := Lib.hid (R_b.out.grow gg)
        replace R_c := Lib.hid (R_c.out.grow gg)
        replace R_s := Lib.hid (R_s.out.grow gg)
        replace R_p := Lib.hid (R_p.out.grow gg)
        replace G := Lib.hid (G.out.trans gg)
        replace GE := Lib.hid (GE.out.trans gg)
        have R_v := Lib.hid hr_v.toNw
        clear hr_v
        clear hg gg
        replace k_a := ((Gr.refl w17).alloc (.cells #[.slice p6 n6 c6] 24)).cell k_a
        replace k_b := ((Gr.refl w17).alloc (.cells #[.slice p6 n6 c6] 24)).cell k_b
        replace k_c := ((Gr.refl w17).alloc (.cells #[.slice p6 n6 c6] 24)).cell k_c
        replace k_s := ((Gr.refl w17).alloc (.cells #[.slice p6 n6 c6] 24)).cell k_s
        replace k_p := ((Gr.refl w17).alloc (.cells #[.slice p6 n6 c6] 24)).cell k_p
        have k_v : (w17.alloc (.cells #[.slice p6 n6 c6] 24)).cell? ⟨w17.heap.size, 0, none⟩ = some (.slice p6 n6 c6) := by simp [go_sem]
        go_wp2_with fail
        refine (Mul_v q j F_q.out (R_b.out.grow ((Gr.refl w17).alloc (.cells #[.slice p6 n6 c6] 24))) (R_c.out.grow ((Gr.refl w17).alloc (.cells #[.slice p6 n6 c6] 24))) HY.out HZ.out).mono ?_
        rintro e w18 ⟨p7, n7, c7, rfl, hr_q, hg⟩
        replace k_a := hg.cell k_a
        replace k_b := hg.cell k_b
        replace k_c := hg.cell k_c
        replace k_s := hg.cell k_s
        replace k_p := hg.cell k_p
        replace k_v := hg.cell k_v
        have gg := ((Gr.refl w17).alloc (.cells #[.slice p6 n6 c6] 24)).trans hg
        replace R_a := Lib.hid (R_a.out.grow gg)
        replace R_b := Lib.hid (R_b.out.grow gg)
        replace R_c := Lib.hid (R_c.out.grow gg)
        replace R_s := Lib.hid (R_s.out.grow gg)
        replace R_p := Lib.hid (R_p.out.grow gg)
        replace R_v := Lib.hid (R_v.out.grow gg)
        replace G := Lib.hid (G.out.trans gg)
        replace GE := Lib.hid (GE.out.trans gg)
        have R_q := Lib.hid hr_q.toNw
        clear hr_q
        clear hg gg
        replace k_a := ((Gr.refl w18).alloc (.cells #[.slice p7 n7 c7] 24)).cell k_a
        replace k_b := ((Gr.refl w18).alloc (.cells #[.slice p7 n7 c7] 24)).cell k_b
        replace k_c := ((Gr.refl w18).alloc (.cells #[.slice p7 n7 c7] 24)).cell k_c
        replace k_s := ((Gr.refl w18).alloc (.cells #[.slice p7 n7 c7] 24)).cell k_s
        replace k_p := ((Gr.refl w18).alloc (.cells #[.slice p7 n7 c7] 24)).cell k_p
        replace k_v := ((Gr.refl w18).alloc (.cells #[.slice p7 n7 c7] 24)).cell k_v
        have k_q : (w18.alloc (.cells #[.slice p7 n7 c7] 24)).cell? ⟨w18.heap.size, 0, none⟩ = some (.slice p7 n7 c7) := by simp [go_sem]
        by_cases hgh : n = 0
        · subst hgh
          by_cases hj : j = 0
          · subst hj
            obtain ⟨et, ht⟩ := F_q.out.ok
            obtain ⟨eu, hu⟩ := F_v.out.ok
            have HT : Hid (q < pw 64) := Lib.hid (by rw [et]; exact ht)
            have FX : Hid (Fits (x * q) v 0) := Lib.hid (.inl ⟨by rw [et, ← Nat.mul_assoc, ← ES.out]; exact hu, by rw [eu, et, ES.out, Nat.mul_assoc], rfl⟩)
            clear et ht eu hu
            go_wp2_with fail
            refine (Mul_v v 0 FX.out (R_a.out.grow ((Gr.refl w18).alloc (.cells #[.slice p7 n7 c7] 24))) (R_q.out.grow ((Gr.refl w18).alloc (.cells #[.slice p7 n7 c7] 24))) HX.out HT.out).mono ?_
            rintro e w19 ⟨p8, n8, c8, rfl, hr_v2, hg⟩
            replace k_a := hg.cell k_a
            replace k_b := hg.cell k_b
            replace k_c := hg.cell k_c
            replace k_s := hg.cell k_s
            replace k_p := hg.cell k_p
            replace k_v := hg.cell k_v
            replace k_q := hg.cell k_q
            have gg := ((Gr.refl w18).alloc (.cells #[.slice p7 n7 c7] 24)).trans hg
            replace R_a := Lib.hid (R_a.out.grow gg)
            replace R_b := Lib.hid (R_b.out.grow gg)
            replace R_c := Lib.hid (R_c.out.grow gg)
            replace R_s := Lib.hid (R_s.out.grow gg)
            replace R_p := Lib.hid (R_p.out.grow gg)
            replace R_v := Lib.hid (R_v.out.grow gg)
            replace R_q := Lib.hid (R_q.out.grow gg)
            replace G := Lib.hid (G.out.trans gg)
            replace GE := Lib.hid (GE.out.trans gg)
            have R_v2 := Lib.hid hr_v2.toNw
            clear hr_v2
            clear hg gg
            replace k_a := ((Gr.refl w19).alloc (.cells #[.slice p8 n8 c8] 24)).cell k_a
            replace k_b := ((Gr.refl w19).alloc (.cells #[.slice p8 n8 c8] 24)).cell k_b
            replace k_c := ((Gr.refl w19).alloc (.cells #[.slice p8 n8 c8] 24)).cell k_c
            replace k_s := ((Gr.refl w19).alloc (.cells #[.slice p8 n8 c8] 24)).cell k_s
            replace k_p := ((Gr.refl w19).alloc (.cells #[.slice p8 n8 c8] 24)).cell k_p
            replace k_v := ((Gr.refl w19).alloc (.cells #[.slice p8 n8 c8] 24)).cell k_v
            replace k_q := ((Gr.refl w19).alloc (.cells #[.slice p8 n8 c8] 24)).cell k_q
            have k_v2 : (w19.alloc (.cells #[.slice p8 n8 c8] 24)).cell? ⟨w19.heap.size, 0, none⟩ = some (.slice p8 n8 c8) := by simp [go_sem]
            go_wp2_with fail
            refine (Same_v_eq rfl (R_v.out.grow ((Gr.refl w19).alloc (.cells #[.slice p8 n8 c8] 24))) (R_v2.out.grow ((Gr.refl w19).alloc (.cells #[.slice p8 n8 c8] 24)))).mono ?_
            rintro e w20 ⟨rfl, hg⟩
            replace k_a := hg.cell k_a
            replace k_b := hg.cell k_b
            replace k_c := hg.cell k_c
            replace k_s := hg.cell k_s
            replace k_p := hg.cell k_p
            replace k_v := hg.cell k_v
            replace k_q := hg.cell k_q
            replace k_v2 := hg.cell k_v2
            have gg := ((Gr.refl w19).alloc (.cells #[.slice p8 n8 c8] 24)).trans hg
            replace R_a := Lib.hid (R_a.out.grow gg)
            replace R_b := Lib.hid (R_b.out.grow gg)
            replace R_c := Lib.hid (R_c.out.grow gg)
            replace R_s := Lib.hid (R_s.out.grow gg)
            replace R_p := Lib.hid (R_p.out.grow gg)
            replace R_v := Lib.hid (R_v.out.grow gg)
            replace R_q := Lib.hid (R_q.out.grow gg)
            replace R_v2 := Lib.hid (R_v2.out.grow gg)
            replace G := Lib.hid (G.out.trans gg)
            replace GE := Lib.hid (GE.out.trans gg)
            clear hg gg
            go_wp2_with fail
            go_meet
            exact GE.out
          · have hh0 : ((j : Int) == 0) = false := by simp; omega
            go_wp2_with fail
            go_meet
            exact GE.out.trans ((Gr.refl w18).alloc (.cells #[.slice p7 n7 c7] 24))
        · have hh0 : ((n : Int) == 0) = false := by simp; omega
          go_wp2_with fail
          go_meet
          exact GE.out.trans ((Gr.refl w18).alloc (.cells #[.slice p7 n7 c7] 24))
      · have he0 : ((i : Int) == 0) = false := by simp; omega
        go_wp2_with fail
        go_meet
        exact GE.out
    case rest => as_aux_lemma =>
      replace k_a := hcut.cell k_a
      replace k_b := hcut.cell k_b
      replace k_c := hcut.cell k_c
      replace k_s := hcut.cell k_s
      replace k_p := hcut.cell k_p
      replace R_a := Lib.hid (R_a.out.grow hcut)
      replace R_b := Lib.hid (R_b.out.grow hcut)
      replace R_c := Lib.hid (R_c.out.grow hcut)
      replace R_s := Lib.hid (R_s.out.grow hcut)
      replace R_p := Lib.hid (R_p.out.grow hcut)
      replace G := Lib.hid (G.out.trans hcut)
      clear hcut
      clear k_p
      clear R_p
      go_wp2_with fail
      refine (Mul_v d o F_d.out (R_s.out.grow (Gr.refl wc)) (R_c.out.grow (Gr.refl wc)) F_s.out.lt HZ.out).mono ?_
      rintro e w17 ⟨p1, n1, c1, rfl, hr_d, hg⟩
      replace k_a := hg.cell k_a
      replace k_b := hg.cell k_b
      replace k_c := hg.cell k_c
      replace k_s := hg.cell k_s
      have gg := (Gr.refl wc).trans hg
      replace R_a := Lib.hid (R_a.out.grow gg)
      replace R_b := Lib.hid (R_b.out.grow gg)
      replace R_c := Lib.hid (R_c.out.grow gg)
      replace R_s := Lib.hid (R_s.out.grow gg)
      replace G := Lib.hid (G.out.trans gg)
      have R_d := Lib.hid hr_d.toNw
      clear hr_d
      clear hg gg
      replace k_a := ((Gr.refl w17).alloc (.cells #[.slice p1 n1 c1] 24)).cell k_a
      replace k_b := ((Gr.refl w17).alloc (.cells #[.slice p1 n1 c1] 24)).cell k_b
      replace k_c := ((Gr.refl w17).alloc (.cells #[.slice p1 n1 c1] 24)).cell k_c
      replace k_s := ((Gr.refl w17).alloc (.cells #[.slice p1 n1 c1] 24)).cell k_s
      have k_d : (w17.alloc (.cells #[.slice p1 n1 c1] 24)).cell? ⟨w17.heap.size, 0, none⟩ = some (.slice p1 n1 c1) := by simp [go_sem]
      go_wp2_with fail
      refine (Mul_v r m F_r.out (R_a.out.grow ((Gr.refl w17).alloc (.cells #[.slice p1 n1 c1] 24))) (R_c.out.grow ((Gr.refl w17).alloc (.cells #[.slice p1 n1 c1] 24))) HX.out HZ.out).mono ?_
      rintro e w18 ⟨p2, n2, c2, rfl, hr_r, hg⟩
      replace k_a := hg.cell k_a
      replace k_b := hg.cell k_b
      replace k_c := hg.cell k_c
      replace k_s := hg.cell k_s
      replace k_d := hg.cell k_d
      have gg := ((Gr.refl w17).alloc (.cells #[.slice p1 n1 c1] 24)).trans hg
      replace R_a := Lib.hid (R_a.out.grow gg)
      replace R_b := Lib.hid (R_b.out.grow gg)
      replace R_c := Lib.hid (R_c.out.grow gg)
      replace R_s := Lib.hid (R_s.out.grow gg)
      replace R_d := Lib.hid (R_d.out.grow gg)
      replace G := Lib.hid (G.out.trans gg)
      have R_r := Lib.hid hr_r.toNw
      clear hr_r
      clear hg gg
      replace k_a := ((Gr.refl w18).alloc (.cells #[.slice p2 n2 c2] 24)).cell k_a
      replace k_b := ((Gr.refl w18).alloc (.cells #[.slice p2 n2 c2] 24)).cell k_b
      replace k_c := ((Gr.refl w18).alloc (.cells #[.slice p2 n2 c2] 24)).cell k_c
      replace k_s := ((Gr.refl w18).alloc (.cells #[.slice p2 n2 c2] 24)).cell k_s
      replace k_d := ((Gr.refl w18).alloc (.cells #[.slice p2 n2 c2] 24)).cell k_d
      have k_r : (w18.alloc (.cells #[.slice p2 n2 c2] 24)).cell? ⟨w18.heap.size, 0, none⟩ = some (.slice p2 n2 c2) := by simp [go_sem]
      go_wp2_with fail
      refine (Mul_v q j F_q.out (R_b.out.grow ((Gr.refl w18).alloc (.cells #[.slice p2 n2 c2] 24))) (R_c.out.grow ((Gr.refl w18).alloc (.cells #[.slice p2 n2 c2] 24))) HY.out HZ.out).mono ?_
      rintro e w19 ⟨p3, n3, c3, rfl, hr_q, hg⟩
      replace k_a := hg.cell k_a
      replace k_b := hg.cell k_b
      replace k_c := hg.cell k_c
      replace k_s := hg.cell k_s
      replace k_d := hg.cell k_d
      replace k_r := hg.cell k_r
      have gg := ((Gr.refl w18).alloc (.cells #[.slice p2 n2 c2] 24)).trans hg
      replace R_a := Lib.hid (R_a.out.grow gg)
      replace R_b := Lib.hid (R_b.out.grow gg)
      replace R_c := Lib.hid (R_c.out.grow gg)
      replace R_s := Lib.hid (R_s.out.grow gg)
      replace R_d := Lib.hid (R_d.out.grow gg)
      replace R_r := Lib.hid (R_r.out.grow gg)
      replace G := Lib.hid (G.out.trans gg)
      have R_q := Lib.hid hr_q.toNw
      clear hr_q
      clear hg gg
      replace k_a := ((Gr.refl w19).alloc (.cells #[.slice p3 n3 c3] 24)).cell k_a
      replace k_b := ((Gr.refl w19).alloc (.cells #[.slice p3 n3 c3] 24)).cell k_b
      replace k_c := ((Gr.refl w19).alloc (.cells #[.slice p3 n3 c3] 24)).cell k_c
      replace k_s := ((Gr.refl w19).alloc (.cells #[.slice p3 n3 c3] 24)).cell k_s
      replace k_d := ((Gr.refl w19).alloc (.cells #[.slice p3 n3 c3] 24)).cell k_d
      replace k_r := ((Gr.refl w19).alloc (.cells #[.slice p3 n3 c3] 24)).cell k_r
      have k_q : (w19.alloc (.cells #[.slice p3 n3 c3] 24)).cell? ⟨w19.heap.size, 0, none⟩ = some (.slice p3 n3 c3) := by simp [go_sem]
      by_cases h_e : e = 0
      · subst h_e
        by_cases h_o : o = 0
        · subst h_o
          by_cases h_m : m = 0
          · subst h_m
            by_cases h_j : j = 0
            · subst h_j
              obtain ⟨e1, h1⟩ := F_s.out.ok
              obtain ⟨e2, h2⟩ := F_d.out.ok
              obtain ⟨e3, h3⟩ := F_r.out.ok
              obtain ⟨e4, h4⟩ := F_q.out.ok
              have HR : Hid (r < pw 64) := Lib.hid (by rw [e3]; exact h3)
              have HQ : Hid (q < pw 64) := Lib.hid (by rw [e4]; exact h4)
              have FX : Hid (Fits (r + q) d 0) := Lib.hid (.inl ⟨by rw [e3, e4, ← Nat.add_mul, ← e1]; exact h2, by rw [e2, e1, e3, e4, Nat.add_mul], rfl⟩)
              clear e1 h1 e2 h2 e3 h3 e4 h4
              go_wp2_with fail
              refine (Add_v d 0 FX.out (R_r.out.grow ((Gr.refl w19).alloc (.cells #[.slice p3 n3 c3] 24))) (R_q.out.grow ((Gr.refl w19).alloc (.cells #[.slice p3 n3 c3] 24))) HR.out HQ.out).mono ?_
              rintro e w20 ⟨p4, n4, c4, rfl, hr_d2, hg⟩
              replace k_a := hg.cell k_a
              replace k_b := hg.cell k_b
              replace k_c := hg.cell k_c
              replace k_s := hg.cell k_s
              replace k_d := hg.cell k_d
              replace k_r := hg.cell k_r
              replace k_q := hg.cell k_q
              have gg := ((Gr.refl w19).alloc (.cells #[.slice p3 n3 c3] 24)).trans hg
              replace R_a := Lib.hid (R_a.out.grow gg)
              replace R_b := Lib.hid (R_b.out.grow gg)
              replace R_c := Lib.hid (R_c.out.grow gg)
              replace R_s := Lib.hid (R_s.out.grow gg)
              replace R_d := Lib.hid (R_d.out.grow gg)
              replace R_r := Lib.hid (R_r.out.grow gg)
              replace R_q := Lib.hid (R_q.out.grow gg)
              replace G := Lib.hid (G.out.trans gg)
              have R_d2 := Lib.hid hr_d2.toNw
              clear hr_d2
              clear hg gg
              replace k_a := ((Gr.refl w20).alloc (.cells #[.slice p4 n4 c4] 24)).cell k_a
              replace k_b := ((Gr.refl w20).alloc (.cells #[.slice p4 n4 c4] 24)).cell k_b
              replace k_c := ((Gr.refl w20).alloc (.cells #[.slice p4 n4 c4] 24)).cell k_c
              replace k_s := ((Gr.refl w20).alloc (.cells #[.slice p4 n4 c4] 24)).cell k_s
              replace k_d := ((Gr.refl w20).alloc (.cells #[.slice p4 n4 c4] 24)).cell k_d
              replace k_r := ((Gr.refl w20).alloc (.cells #[.slice p4 n4 c4] 24)).cell k_r
              replace k_q := ((Gr.refl w20).alloc (.cells #[.slice p4 n4 c4] 24)).cell k_q
              have k_d2 : (w20.alloc (.cells #[.slice p4 n4 c4] 24)).cell? ⟨w20.heap.size, 0, none⟩ = some (.slice p4 n4 c4) := by simp [go_sem]
              go_wp2_with fail
              refine (Same_v_eq rfl (R_d.out.grow ((Gr.refl w20).alloc (.cells #[.slice p4 n4 c4] 24))) (R_d2.out.grow ((Gr.refl w20).alloc (.cells #[.slice p4 n4 c4] 24)))).mono ?_
              rintro e w21 ⟨rfl, hg⟩
              replace k_a := hg.cell k_a
              replace k_b := hg.cell k_b
              replace k_c := hg.cell k_c
              replace k_s := hg.cell k_s
              replace k_d := hg.cell k_d
              replace k_r := hg.cell k_r
              replace k_q := hg.cell k_q
              replace k_d2 := hg.cell k_d2
              have gg := ((Gr.refl w20).alloc (.cells #[.slice p4 n4 c4] 24)).trans hg
              replace R_a := Lib.hid (R_a.out.grow gg)
              replace R_b := Lib.hid (R_b.out.grow gg)
              replace R_c := Lib.hid (R_c.out.grow gg)
              replace R_s := Lib.hid (R_s.out.grow gg)
              replace R_d := Lib.hid (R_d.out.grow gg)
              replace R_r := Lib.hid (R_r.out.grow gg)
              replace R_q := Lib.hid (R_q.out.grow gg)
              replace R_d2 := Lib.hid (R_d2.out.grow gg)
              replace G := Lib.hid (G.out.trans gg)
              clear hg gg
              go_wp2
              go_ret
              exact ⟨rfl, G.out⟩
            · have h0_j : ((j : Int) != 0) = true := by simp; omega
              go_wp2
              go_ret
              exact ⟨rfl, G.out.trans ((Gr.refl w19).alloc (.cells #[.slice p3 n3 c3] 24))⟩
          · have h0_m : ((m : Int) != 0) = true := by simp; omega
            go_wp2
            go_ret
            exact ⟨rfl, G.out.trans ((Gr.refl w19).alloc (.cells #[.slice p3 n3 c3] 24))⟩
        · have h0_o : ((o : Int) != 0) = true := by simp; omega
          go_wp2
          go_ret
          exact ⟨rfl, G.out.trans ((Gr.refl w19).alloc (.cells #[.slice p3 n3 c3] 24))⟩
      · have h0_e : ((e : Int) != 0) = true := by simp; omega
        go_wp2
        go_ret
        exact ⟨rfl, G.out.trans ((Gr.refl w19).alloc (.cells #[.slice p3 n3 c3] 24))⟩

theorem NaturalRing (w : World) (ba : Option Addr) (na ca : Nat) (bb : Option Addr) (nb cb : Nat) (bc : Option Addr) (nc cc : Nat) (h1 : Nin w ba na ca) (h2 : Nin w bb nb cb) (h3 : Nin w bc nc cc) : Calls Try.prog 6 #[.agg #[.slice ba na ca], .agg #[.slice bb nb cb], .agg #[.slice bc nc cc]] w fun e w' => e = .returned (.bool true) ∧ Gr w w' := by
  by_cases g1 : 100 < na ∨ 100 < nb ∨ 100 < nc
  · exact great w ba bb bc na ca nb cb nc cc g1
  have sa : na ≤ 100 := by omega
  have sb : nb ≤ 100 := by omega
  have sc : nc ≤ 100 := by omega
  obtain ⟨la, ha⟩ := h1.nw (by omega)
  obtain ⟨lb, hb⟩ := h2.nw (by omega)
  obtain ⟨lc, hc⟩ := h3.nw (by omega)
  cases va : decide (valid la) with
  | false => exact bad_a w ba bb bc na ca nb cb nc cc la ha va sa sb sc
  | true =>
    obtain ⟨x, hx, rfl⟩ := nw_value ha va
    cases vb : decide (valid lb) with
    | false => exact bad_b w ba bb bc na ca nb cb nc cc x hx ha sa lb hb vb sb sc
    | true =>
      obtain ⟨y, hy, rfl⟩ := nw_value hb vb
      cases vc : decide (valid lc) with
      | false => exact bad_c w ba bb bc na ca nb cb nc cc x hx ha sa y hy hb sb lc hc vc sc
      | true =>
        obtain ⟨z, hz, rfl⟩ := nw_value hc vc
        exact ok w ba bb bc na ca nb cb nc cc x hx ha sa y hy hb sb z hz hc sc
end Go.Proofs.Ytiefnhpbniaklaa.Nlring
