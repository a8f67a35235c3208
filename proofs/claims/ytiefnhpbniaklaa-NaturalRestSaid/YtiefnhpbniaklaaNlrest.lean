/- The walk of NaturalRest: a quotient with its remainder is the number. -/
import Derived.Test.YtiefnhpbniaklaaNpre
namespace Go.Proofs.Ytiefnhpbniaklaa.Nlrest
open Go.RowKit Go.Shelf Go.Proofs.Ytiefnhpbniaklaa.Nm Go.Proofs.Ytiefnhpbniaklaa.Ne Go.Proofs.Ytiefnhpbniaklaa.Nf Go.Proofs.Ytiefnhpbniaklaa.Nk Go.Proofs.Ytiefnhpbniaklaa.Nv Go.Proofs.Ytiefnhpbniaklaa.Nl

set_option maxRecDepth 100000 in
set_option maxHeartbeats 8000000 in
theorem great (ba bb : Option Addr) (na ca nb cb : Nat) (hg1 : 100 < na ∨ 100 < nb) (w : World) : Calls Try.prog 7 #[.agg #[.slice ba na ca], .agg #[.slice bb nb cb]] w fun e w' => e = .returned (.bool true) ∧ Gr w w' := by
  have HY := Lib.hid hg1
  have G := Lib.hid (Gr.refl w)
  clear hg1
  have k_a : ((w.alloc (.cells #[.slice ba na ca] 24)).alloc (.cells #[.slice bb nb cb] 24)).cell? ⟨w.heap.size, 0, none⟩ = some (.slice ba na ca) := by simp [go_sem]
  have k_b : ((w.alloc (.cells #[.slice ba na ca] 24)).alloc (.cells #[.slice bb nb cb] 24)).cell? ⟨w.heap.size + 1, 0, none⟩ = some (.slice bb nb cb) := by simp [go_sem]
  go_enter Try.func7, Try.ntmps7
  go_wp2_with fail
  refine (awake_any _).mono ?_
  rintro e w1 ⟨rfl, hg⟩
  replace k_a := hg.cell k_a
  replace k_b := hg.cell k_b
  have gg := (((Gr.refl w).alloc (.cells #[.slice ba na ca] 24)).alloc (.cells #[.slice bb nb cb] 24)).trans hg
  replace G := Lib.hid (G.out.trans gg)
  clear hg gg
  go_wp2_with fail
  replace k_a := ((Gr.refl w1).alloc (.cells #[.slice ba na ca, .slice bb nb cb] 24)).cell k_a
  replace k_b := ((Gr.refl w1).alloc (.cells #[.slice ba na ca, .slice bb nb cb] 24)).cell k_b
  refine (great_yes (n := 2) (c := 2) rfl (by decide) (nats2 w1 ba bb na ca nb cb) (gt2 HY.out)).mono ?_
  rintro e w2 ⟨rfl, hg⟩
  replace k_a := hg.cell k_a
  replace k_b := hg.cell k_b
  have gg := ((Gr.refl w1).alloc (.cells #[.slice ba na ca, .slice bb nb cb] 24)).trans hg
  replace G := Lib.hid (G.out.trans gg)
  clear hg gg
  go_wp2
  go_ret
  exact ⟨rfl, G.out⟩

set_option maxRecDepth 100000 in
set_option maxHeartbeats 8000000 in
theorem bad_a (ba bb : Option Addr) (na ca nb cb : Nat) (w : World) (la : List Nat) (ha : Nw w ba na ca la) (va : decide (valid la) = false) (sa : na ≤ 100) (sb : nb ≤ 100) : Calls Try.prog 7 #[.agg #[.slice ba na ca], .agg #[.slice bb nb cb]] w fun e w' => e = .returned (.bool true) ∧ Gr w w' := by
  have G := Lib.hid (Gr.refl w)
  have R_a := Lib.hid ha
  have VA := Lib.hid va
  have SA := Lib.hid sa
  have SB := Lib.hid sb
  clear ha sa sb va
  have k_a : ((w.alloc (.cells #[.slice ba na ca] 24)).alloc (.cells #[.slice bb nb cb] 24)).cell? ⟨w.heap.size, 0, none⟩ = some (.slice ba na ca) := by simp [go_sem]
  have k_b : ((w.alloc (.cells #[.slice ba na ca] 24)).alloc (.cells #[.slice bb nb cb] 24)).cell? ⟨w.heap.size + 1, 0, none⟩ = some (.slice bb nb cb) := by simp [go_sem]
  go_enter Try.func7, Try.ntmps7
  go_wp2_with fail
  refine (awake_any _).mono ?_
  rintro e w1 ⟨rfl, hg⟩
  replace k_a := hg.cell k_a
  replace k_b := hg.cell k_b
  have gg := (((Gr.refl w).alloc (.cells #[.slice ba na ca] 24)).alloc (.cells #[.slice bb nb cb] 24)).trans hg
  replace R_a := Lib.hid (R_a.out.grow gg)
  replace G := Lib.hid (G.out.trans gg)
  clear hg gg
  have sa := SA.out
  have sb := SB.out
  go_wp2_with fail
  replace k_a := ((Gr.refl w1).alloc (.cells #[.slice ba na ca, .slice bb nb cb] 24)).cell k_a
  replace k_b := ((Gr.refl w1).alloc (.cells #[.slice ba na ca, .slice bb nb cb] 24)).cell k_b
  refine (great_no (n := 2) (c := 2) rfl (by decide) (nats2 w1 ba bb na ca nb cb) (le2 sa sb)).mono ?_
  rintro e w2 ⟨rfl, hg⟩
  replace k_a := hg.cell k_a
  replace k_b := hg.cell k_b
  have gg := ((Gr.refl w1).alloc (.cells #[.slice ba na ca, .slice bb nb cb] 24)).trans hg
  replace R_a := Lib.hid (R_a.out.grow gg)
  replace G := Lib.hid (G.out.trans gg)
  clear hg gg
  clear sa sb
  go_wp2_with fail
  refine (RValid_no (R_a.out.grow (Gr.refl w2)) VA.out).mono ?_
  rintro e w3 ⟨rfl, hg⟩
  replace k_a := hg.cell k_a
  replace k_b := hg.cell k_b
  have gg := (Gr.refl w2).trans hg
  replace R_a := Lib.hid (R_a.out.grow gg)
  replace G := Lib.hid (G.out.trans gg)
  clear hg gg
  go_wp2
  go_ret
  exact ⟨rfl, G.out⟩

set_option maxRecDepth 100000 in
set_option maxHeartbeats 8000000 in
theorem bad_b (ba bb : Option Addr) (na ca nb cb : Nat) (w : World) (x : Nat) (lb : List Nat) (hx : x < pw 64) (ha : Nw w ba na ca (digs x)) (hb : Nw w bb nb cb lb) (vb : decide (valid lb) = false) (sa : na ≤ 100) (sb : nb ≤ 100) : Calls Try.prog 7 #[.agg #[.slice ba na ca], .agg #[.slice bb nb cb]] w fun e w' => e = .returned (.bool true) ∧ Gr w w' := by
  have G := Lib.hid (Gr.refl w)
  have R_a := Lib.hid ha
  have R_b := Lib.hid hb
  have HX := Lib.hid hx
  have VB := Lib.hid vb
  have SA := Lib.hid sa
  have SB := Lib.hid sb
  clear ha sa sb hb hx vb
  have k_a : ((w.alloc (.cells #[.slice ba na ca] 24)).alloc (.cells #[.slice bb nb cb] 24)).cell? ⟨w.heap.size, 0, none⟩ = some (.slice ba na ca) := by simp [go_sem]
  have k_b : ((w.alloc (.cells #[.slice ba na ca] 24)).alloc (.cells #[.slice bb nb cb] 24)).cell? ⟨w.heap.size + 1, 0, none⟩ = some (.slice bb nb cb) := by simp [go_sem]
  go_enter Try.func7, Try.ntmps7
  go_wp2_with fail
  refine (awake_any _).mono ?_
  rintro e w1 ⟨rfl, hg⟩
  replace k_a := hg.cell k_a
  replace k_b := hg.cell k_b
  have gg := (((Gr.refl w).alloc (.cells #[.slice ba na ca] 24)).alloc (.cells #[.slice bb nb cb] 24)).trans hg
  replace R_a := Lib.hid (R_a.out.grow gg)
  replace R_b := Lib.hid (R_b.out.grow gg)
  replace G := Lib.hid (G.out.trans gg)
  clear hg gg
  have sa := SA.out
  have sb := SB.out
  go_wp2_with fail
  replace k_a := ((Gr.refl w1).alloc (.cells #[.slice ba na ca, .slice bb nb cb] 24)).cell k_a
  replace k_b := ((Gr.refl w1).alloc (.cells #[.slice ba na ca, .slice bb nb cb] 24)).cell k_b
  refine (great_no (n := 2) (c := 2) rfl (by decide) (nats2 w1 ba bb na ca nb cb) (le2 sa sb)).mono ?_
  rintro e w2 ⟨rfl, hg⟩
  replace k_a := hg.cell k_a
  replace k_b := hg.cell k_b
  have gg := ((Gr.refl w1).alloc (.cells #[.slice ba na ca, .slice bb nb cb] 24)).trans hg
  replace R_a := Lib.hid (R_a.out.grow gg)
  replace R_b := Lib.hid (R_b.out.grow gg)
  replace G := Lib.hid (G.out.trans gg)
  clear hg gg
  clear sa sb
  go_wp2_with fail
  refine (RValid_v (R_a.out.grow (Gr.refl w2)) HX.out).mono ?_
  rintro e w3 ⟨rfl, hg⟩
  replace k_a := hg.cell k_a
  replace k_b := hg.cell k_b
  have gg := (Gr.refl w2).trans hg
  replace R_a := Lib.hid (R_a.out.grow gg)
  replace R_b := Lib.hid (R_b.out.grow gg)
  replace G := Lib.hid (G.out.trans gg)
  clear hg gg
  go_wp2_with fail
  refine (RValid_no (R_b.out.grow (Gr.refl w3)) VB.out).mono ?_
  rintro e w4 ⟨rfl, hg⟩
  replace k_a := hg.cell k_a
  replace k_b := hg.cell k_b
  have gg := (Gr.refl w3).trans hg
  replace R_a := Lib.hid (R_a.out.grow gg)
  replace R_b := Lib.hid (R_b.out.grow gg)
  replace G := Lib.hid (G.out.trans gg)
  clear hg gg
  go_wp2
  go_ret
  exact ⟨rfl, G.out⟩

set_option maxRecDepth 100000 in
set_option maxHeartbeats 8000000 in
theorem zero (ba bb : Option Addr) (na ca nb cb : Nat) (w : World) (x : Nat) (hx : x < pw 64) (ha : Nw w ba na ca (digs x)) (hb : Nw w bb nb cb (digs 0)) (sa : na ≤ 100) (sb : nb ≤ 100) : Calls Try.prog 7 #[.agg #[.slice ba na ca], .agg #[.slice bb nb cb]] w fun e w' => e = .returned (.bool true) ∧ Gr w w' := by
  have G := Lib.hid (Gr.refl w)
  have R_a := Lib.hid ha
  have R_b := Lib.hid hb
  have HX := Lib.hid hx
  have hz : nb = 0 := by rw [← hb.len, digs_zero]; rfl
  have hz2 : ((nb : Int) == 0) = true := by rw [hz]; rfl
  clear hz
  have SA := Lib.hid sa
  have SB := Lib.hid sb
  clear ha sa sb hb hx
  have k_a : ((w.alloc (.cells #[.slice ba na ca] 24)).alloc (.cells #[.slice bb nb cb] 24)).cell? ⟨w.heap.size, 0, none⟩ = some (.slice ba na ca) := by simp [go_sem]
  have k_b : ((w.alloc (.cells #[.slice ba na ca] 24)).alloc (.cells #[.slice bb nb cb] 24)).cell? ⟨w.heap.size + 1, 0, none⟩ = some (.slice bb nb cb) := by simp [go_sem]
  go_enter Try.func7, Try.ntmps7
  go_wp2_with fail
  refine (awake_any _).mono ?_
  rintro e w1 ⟨rfl, hg⟩
  replace k_a := hg.cell k_a
  replace k_b := hg.cell k_b
  have gg := (((Gr.refl w).alloc (.cells #[.slice ba na ca] 24)).alloc (.cells #[.slice bb nb cb] 24)).trans hg
  replace R_a := Lib.hid (R_a.out.grow gg)
  replace R_b := Lib.hid (R_b.out.grow gg)
  replace G := Lib.hid (G.out.trans gg)
  clear hg gg
  have sa := SA.out
  have sb := SB.out
  go_wp2_with fail
  replace k_a := ((Gr.refl w1).alloc (.cells #[.slice ba na ca, .slice bb nb cb] 24)).cell k_a
  replace k_b := ((Gr.refl w1).alloc (.cells #[.slice ba na ca, .slice bb nb cb] 24)).cell k_b
  refine (great_no (n := 2) (c := 2) rfl (by decide) (nats2 w1 ba bb na ca nb cb) (le2 sa sb)).mono ?_
  rintro e w2 ⟨rfl, hg⟩
  replace k_a := hg.cell k_a
  replace k_b := hg.cell k_b
  have gg := ((Gr.refl w1).alloc (.cells #[.slice ba na ca, .slice bb nb cb] 24)).trans hg
  replace R_a := Lib.hid (R_a.out.grow gg)
  replace R_b := Lib.hid (R_b.out.grow gg)
  replace G := Lib.hid (G.out.trans gg)
  clear hg gg
  clear sa sb
  go_wp2_with fail
  refine (RValid_v (R_a.out.grow (Gr.refl w2)) HX.out).mono ?_
  rintro e w3 ⟨rfl, hg⟩
  replace k_a := hg.cell k_a
  replace k_b := hg.cell k_b
  have gg := (Gr.refl w2).trans hg
  replace R_a := Lib.hid (R_a.out.grow gg)
  replace R_b := Lib.hid (R_b.out.grow gg)
  replace G := Lib.hid (G.out.trans gg)
  clear hg gg
  go_wp2_with fail
  refine (RValid_v (R_b.out.grow (Gr.refl w3)) (pw_pos 64)).mono ?_
  rintro e w4 ⟨rfl, hg⟩
  replace k_a := hg.cell k_a
  replace k_b := hg.cell k_b
  have gg := (Gr.refl w3).trans hg
  replace R_a := Lib.hid (R_a.out.grow gg)
  replace R_b := Lib.hid (R_b.out.grow gg)
  replace G := Lib.hid (G.out.trans gg)
  clear hg gg
  go_wp2
  go_ret
  exact ⟨rfl, G.out⟩

set_option maxRecDepth 100000 in
set_option maxHeartbeats 16000000 in
theorem ok (ba bb : Option Addr) (na ca nb cb : Nat) (w : World) (x y : Nat) (hx : x < pw 64) (hy : y < pw 64) (h0 : 0 < y) (ha : Nw w ba na ca (digs x)) (hb : Nw w bb nb cb (digs y)) (sa : na ≤ 100) (sb : nb ≤ 100) (hm : x * y < pw 64) : Calls Try.prog 7 #[.agg #[.slice ba na ca], .agg #[.slice bb nb cb]] w fun e w' => e = .returned (.bool true) ∧ Gr w w' := by
  have G := Lib.hid (Gr.refl w)
  have R_a := Lib.hid ha
  have R_b := Lib.hid hb
  have HX := Lib.hid hx
  have HY := Lib.hid hy
  have H0 := Lib.hid h0
  have SA := Lib.hid sa
  have SB := Lib.hid sb
  have HM := Lib.hid hm
  have HQ : Hid (x / y < pw 64) := Lib.hid (Nat.lt_of_le_of_lt (Nat.div_le_self x y) hx)
  have HR : Hid (x % y < pw 64) := Lib.hid (Nat.lt_of_le_of_lt (Nat.mod_le x y) hx)
  have HO : Hid (ord (x % y) y = -1) := Lib.hid (ord_lt (Nat.mod_lt x h0))
  have HP : Hid (x / y * y < pw 64) := Lib.hid (Nat.lt_of_le_of_lt (Nat.div_mul_le_self x y) hx)
  have HS : Hid (x / y * y + x % y = x) := Lib.hid (by have := Nat.div_add_mod x y; rw [Nat.mul_comm] at this; exact this)
  have hn : ((nb : Int) == 0) = false := by
    have : nb ≠ 0 := by
      intro e
      have h1 := hb.len
      rw [e] at h1
      have h2 := val_digs y
      rw [List.eq_nil_of_length_eq_zero h1] at h2
      have : val [] = 0 := rfl
      omega
    simp; omega
  clear ha hb hx hy h0 sa sb hm
  have k_a : ((w.alloc (.cells #[.slice ba na ca] 24)).alloc (.cells #[.slice bb nb cb] 24)).cell? ⟨w.heap.size, 0, none⟩ = some (.slice ba na ca) := by simp [go_sem]
  have k_b : ((w.alloc (.cells #[.slice ba na ca] 24)).alloc (.cells #[.slice bb nb cb] 24)).cell? ⟨w.heap.size + 1, 0, none⟩ = some (.slice bb nb cb) := by simp [go_sem]
  go_enter Try.func7, Try.ntmps7
  go_wp2_with fail
  refine (awake_any _).mono ?_
  rintro e w1 ⟨rfl, hg⟩
  replace k_a := hg.cell k_a
  replace k_b := hg.cell k_b
  have gg := (((Gr.refl w).alloc (.cells #[.slice ba na ca] 24)).alloc (.cells #[.slice bb nb cb] 24)).trans hg
  replace R_a := Lib.hid (R_a.out.grow gg)
  replace R_b := Lib.hid (R_b.out.grow gg)
  replace G := Lib.hid (G.out.trans gg)
  clear hg gg
  have sa := SA.out
  have sb := SB.out
  go_wp2_with fail
  replace k_a := ((Gr.refl w1).alloc (.cells #[.slice ba na ca, .slice bb nb cb] 24)).cell k_a
  replace k_b := ((Gr.refl w1).alloc (.cells #[.slice ba na ca, .slice bb nb cb] 24)).cell k_b
  refine (great_no (n := 2) (c := 2) rfl (by decide) (nats2 w1 ba bb na ca nb cb) (le2 sa sb)).mono ?_
  rintro e w2 ⟨rfl, hg⟩
  replace k_a := hg.cell k_a
  replace k_b := hg.cell k_b
  have gg := ((Gr.refl w1).alloc (.cells #[.slice ba na ca, .slice bb nb cb] 24)).trans hg
  replace R_a := Lib.hid (R_a.out.grow gg)
  replace R_b := Lib.hid (R_b.out.grow gg)
  replace G := Lib.hid (G.out.trans gg)
  clear hg gg
  clear sa sb
  go_wp2_with fail
  refine (RValid_v (R_a.out.grow (Gr.refl w2)) HX.out).mono ?_
  rintro e w3 ⟨rfl, hg⟩
  replace k_a := hg.cell k_a
  replace k_b := hg.cell k_b
  have gg := (Gr.refl w2).trans hg
  replace R_a := Lib.hid (R_a.out.grow gg)
  replace R_b := Lib.hid (R_b.out.grow gg)
  replace G := Lib.hid (G.out.trans gg)
  clear hg gg
  go_wp2_with fail
  refine (RValid_v (R_b.out.grow (Gr.refl w3)) HY.out).mono ?_
  rintro e w4 ⟨rfl, hg⟩
  replace k_a := hg.cell k_a
  replace k_b := hg.cell k_b
  have gg := (Gr.refl w3).trans hg
  replace R_a := Lib.hid (R_a.out.grow gg)
  replace R_b := Lib.hid (R_b.out.grow gg)
  replace G := Lib.hid (G.out.trans gg)
  clear hg gg
  go_wp2_with fail
  refine (Div_v H0.out (R_a.out.grow (Gr.refl w4)) (R_b.out.grow (Gr.refl w4)) HX.out HY.out).mono ?_
  rintro e w5 ⟨pq, pr, nq, cq, nr, cr, rfl, hr_q, hr_r, hg⟩
  replace k_a := hg.cell k_a
  replace k_b := hg.cell k_b
  have gg := (Gr.refl w4).trans hg
  replace R_a := Lib.hid (R_a.out.grow gg)
  replace R_b := Lib.hid (R_b.out.grow gg)
  replace G := Lib.hid (G.out.trans gg)
  have R_q := Lib.hid hr_q.toNw
  clear hr_q
  have R_r := Lib.hid hr_r.toNw
  clear hr_r
  clear hg gg
  replace k_a := ((Gr.refl w5).alloc (.cells #[.slice pq nq cq] 24)).cell k_a
  replace k_b := ((Gr.refl w5).alloc (.cells #[.slice pq nq cq] 24)).cell k_b
  have k_q : (w5.alloc (.cells #[.slice pq nq cq] 24)).cell? ⟨w5.heap.size, 0, none⟩ = some (.slice pq nq cq) := by simp [go_sem]
  replace k_a := ((Gr.refl (w5.alloc (.cells #[.slice pq nq cq] 24))).alloc (.cells #[.slice pr nr cr] 24)).cell k_a
  replace k_b := ((Gr.refl (w5.alloc (.cells #[.slice pq nq cq] 24))).alloc (.cells #[.slice pr nr cr] 24)).cell k_b
  replace k_q := ((Gr.refl (w5.alloc (.cells #[.slice pq nq cq] 24))).alloc (.cells #[.slice pr nr cr] 24)).cell k_q
  have k_r : ((w5.alloc (.cells #[.slice pq nq cq] 24)).alloc (.cells #[.slice pr nr cr] 24)).cell? ⟨w5.heap.size + 1, 0, none⟩ = some (.slice pr nr cr) := by simp [go_sem]
  go_wp2_with fail
  refine (Valid_v (R_q.out.grow (((Gr.refl w5).alloc (.cells #[.slice pq nq cq] 24)).alloc (.cells #[.slice pr nr cr] 24))) HQ.out).mono ?_
  rintro e w6 ⟨rfl, hg⟩
  replace k_a := hg.cell k_a
  replace k_b := hg.cell k_b
  replace k_q := hg.cell k_q
  replace k_r := hg.cell k_r
  have gg := (((Gr.refl w5).alloc (.cells #[.slice pq nq cq] 24)).alloc (.cells #[.slice pr nr cr] 24)).trans hg
  replace R_a := Lib.hid (R_a.out.grow gg)
  replace R_b := Lib.hid (R_b.out.grow gg)
  replace R_q := Lib.hid (R_q.out.grow gg)
  replace R_r := Lib.hid (R_r.out.grow gg)
  replace G := Lib.hid (G.out.trans gg)
  clear hg gg
  go_wp2_with fail
  refine (Valid_v (R_r.out.grow (Gr.refl w6)) HR.out).mono ?_
  rintro e w7 ⟨rfl, hg⟩
  replace k_a := hg.cell k_a
  replace k_b := hg.cell k_b
  replace k_q := hg.cell k_q
  replace k_r := hg.cell k_r
  have gg := (Gr.refl w6).trans hg
  replace R_a := Lib.hid (R_a.out.grow gg)
  replace R_b := Lib.hid (R_b.out.grow gg)
  replace R_q := Lib.hid (R_q.out.grow gg)
  replace R_r := Lib.hid (R_r.out.grow gg)
  replace G := Lib.hid (G.out.trans gg)
  clear hg gg
  go_wp2_with fail
  refine (Compare_v (R_r.out.grow (Gr.refl w7)) (R_b.out.grow (Gr.refl w7)) HR.out HY.out).mono ?_
  rintro e w8 ⟨rfl, hg⟩
  replace k_a := hg.cell k_a
  replace k_b := hg.cell k_b
  replace k_q := hg.cell k_q
  replace k_r := hg.cell k_r
  have gg := (Gr.refl w7).trans hg
  replace R_a := Lib.hid (R_a.out.grow gg)
  replace R_b := Lib.hid (R_b.out.grow gg)
  replace R_q := Lib.hid (R_q.out.grow gg)
  replace R_r := Lib.hid (R_r.out.grow gg)
  replace G := Lib.hid (G.out.trans gg)
  clear hg gg
  rw [HO.out]
  go_wp2_with fail
  refine (Mul_v _ 0 (.inl ⟨HP.out, rfl, rfl⟩) (R_q.out.grow (Gr.refl w8)) (R_b.out.grow (Gr.refl w8)) HQ.out HY.out).mono ?_
  rintro e w9 ⟨pp, np, cp, rfl, hr_p, hg⟩
  replace k_a := hg.cell k_a
  replace k_b := hg.cell k_b
  replace k_q := hg.cell k_q
  replace k_r := hg.cell k_r
  have gg := (Gr.refl w8).trans hg
  replace R_a := Lib.hid (R_a.out.grow gg)
  replace R_b := Lib.hid (R_b.out.grow gg)
  replace R_q := Lib.hid (R_q.out.grow gg)
  replace R_r := Lib.hid (R_r.out.grow gg)
  replace G := Lib.hid (G.out.trans gg)
  have R_p := Lib.hid hr_p.toNw
  clear hr_p
  clear hg gg
  replace k_a := ((Gr.refl w9).alloc (.cells #[.slice pp np cp] 24)).cell k_a
  replace k_b := ((Gr.refl w9).alloc (.cells #[.slice pp np cp] 24)).cell k_b
  replace k_q := ((Gr.refl w9).alloc (.cells #[.slice pp np cp] 24)).cell k_q
  replace k_r := ((Gr.refl w9).alloc (.cells #[.slice pp np cp] 24)).cell k_r
  have k_p : (w9.alloc (.cells #[.slice pp np cp] 24)).cell? ⟨w9.heap.size, 0, none⟩ = some (.slice pp np cp) := by simp [go_sem]
  go_wp2_with fail
  refine (Add_v _ 0 (.inl ⟨by rw [HS.out]; exact HX.out, rfl, rfl⟩) (R_p.out.grow ((Gr.refl w9).alloc (.cells #[.slice pp np cp] 24))) (R_r.out.grow ((Gr.refl w9).alloc (.cells #[.slice pp np cp] 24))) HP.out HR.out).mono ?_
  rintro e w10 ⟨ps, ns, cs, rfl, hr_s, hg⟩
  replace k_a := hg.cell k_a
  replace k_b := hg.cell k_b
  replace k_q := hg.cell k_q
  replace k_r := hg.cell k_r
  replace k_p := hg.cell k_p
  have gg := ((Gr.refl w9).alloc (.cells #[.slice pp np cp] 24)).trans hg
  replace R_a := Lib.hid (R_a.out.grow gg)
  replace R_b := Lib.hid (R_b.out.grow gg)
  replace R_q := Lib.hid (R_q.out.grow gg)
  replace R_r := Lib.hid (R_r.out.grow gg)
  replace R_p := Lib.hid (R_p.out.grow gg)
  replace G := Lib.hid (G.out.trans gg)
  have R_s := Lib.hid hr_s.toNw
  clear hr_s
  clear hg gg
  replace k_a := ((Gr.refl w10).alloc (.cells #[.slice ps ns cs] 24)).cell k_a
  replace k_b := ((Gr.refl w10).alloc (.cells #[.slice ps ns cs] 24)).cell k_b
  replace k_q := ((Gr.refl w10).alloc (.cells #[.slice ps ns cs] 24)).cell k_q
  replace k_r := ((Gr.refl w10).alloc (.cells #[.slice ps ns cs] 24)).cell k_r
  replace k_p := ((Gr.refl w10).alloc (.cells #[.slice ps ns cs] 24)).cell k_p
  have k_s : (w10.alloc (.cells #[.slice ps ns cs] 24)).cell? ⟨w10.heap.size, 0, none⟩ = some (.slice ps ns cs) := by simp [go_sem]
  go_wp2_with fail
  refine (Same_v_eq HS.out (R_s.out.grow ((Gr.refl w10).alloc (.cells #[.slice ps ns cs] 24))) (R_a.out.grow ((Gr.refl w10).alloc (.cells #[.slice ps ns cs] 24)))).mono ?_
  rintro e w11 ⟨rfl, hg⟩
  replace k_a := hg.cell k_a
  replace k_b := hg.cell k_b
  replace k_q := hg.cell k_q
  replace k_r := hg.cell k_r
  replace k_p := hg.cell k_p
  replace k_s := hg.cell k_s
  have gg := ((Gr.refl w10).alloc (.cells #[.slice ps ns cs] 24)).trans hg
  replace R_a := Lib.hid (R_a.out.grow gg)
  replace R_b := Lib.hid (R_b.out.grow gg)
  replace R_q := Lib.hid (R_q.out.grow gg)
  replace R_r := Lib.hid (R_r.out.grow gg)
  replace R_p := Lib.hid (R_p.out.grow gg)
  replace R_s := Lib.hid (R_s.out.grow gg)
  replace G := Lib.hid (G.out.trans gg)
  clear hg gg
  clear k_s
  clear R_s
  clear k_p
  clear R_p
  clear k_q
  clear R_q
  clear k_r
  clear R_r
  go_wp2_with fail
  refine (Mul_v _ 0 (.inl ⟨HM.out, rfl, rfl⟩) (R_a.out.grow (Gr.refl w11)) (R_b.out.grow (Gr.refl w11)) HX.out HY.out).mono ?_
  rintro e w12 ⟨pm, nm, cm, rfl, hr_m, hg⟩
  replace k_a := hg.cell k_a
  replace k_b := hg.cell k_b
  have gg := (Gr.refl w11).trans hg
  replace R_a := Lib.hid (R_a.out.grow gg)
  replace R_b := Lib.hid (R_b.out.grow gg)
  replace G := Lib.hid (G.out.trans gg)
  have R_m := Lib.hid hr_m.toNw
  clear hr_m
  clear hg gg
  replace k_a := ((Gr.refl w12).alloc (.cells #[.slice pm nm cm] 24)).cell k_a
  replace k_b := ((Gr.refl w12).alloc (.cells #[.slice pm nm cm] 24)).cell k_b
  have k_m : (w12.alloc (.cells #[.slice pm nm cm] 24)).cell? ⟨w12.heap.size, 0, none⟩ = some (.slice pm nm cm) := by simp [go_sem]
  go_wp2_with fail
  refine (Div_v H0.out (R_m.out.grow ((Gr.refl w12).alloc (.cells #[.slice pm nm cm] 24))) (R_b.out.grow ((Gr.refl w12).alloc (.cells #[.slice pm nm cm] 24))) HM.out HY.out).mono ?_
  rintro e w13 ⟨pq, pr, nq, cq, nr, cr, rfl, hr_q, hr_r, hg⟩
  replace k_a := hg.cell k_a
  replace k_b := hg.cell k_b
  replace k_m := hg.cell k_m
  have gg := ((Gr.refl w12).alloc (.cells #[.slice pm nm cm] 24)).trans hg
  replace R_a := Lib.hid (R_a.out.grow gg)
  replace R_b := Lib.hid (R_b.out.grow gg)
  replace R_m := Lib.hid (R_m.out.grow gg)
  replace G := Lib.hid (G.out.trans gg)
  have R_q := Lib.hid hr_q.toNw
  clear hr_q
  have R_r := Lib.hid hr_r.toNw
  clear hr_r
  clear hg gg
  replace k_a := ((Gr.refl w13).alloc (.cells #[.slice pq nq cq] 24)).cell k_a
  replace k_b := ((Gr.refl w13).alloc (.cells #[.slice pq nq cq] 24)).cell k_b
  replace k_m := ((Gr.refl w13).alloc (.cells #[.slice pq nq cq] 24)).cell k_m
  have k_q : (w13.alloc (.cells #[.slice pq nq cq] 24)).cell? ⟨w13.heap.size, 0, none⟩ = some (.slice pq nq cq) := by simp [go_sem]
  replace k_a := ((Gr.refl (w13.alloc (.cells #[.slice pq nq cq] 24))).alloc (.cells #[.slice pr nr cr] 24)).cell k_a
  replace k_b := ((Gr.refl (w13.alloc (.cells #[.slice pq nq cq] 24))).alloc (.cells #[.slice pr nr cr] 24)).cell k_b
  replace k_m := ((Gr.refl (w13.alloc (.cells #[.slice pq nq cq] 24))).alloc (.cells #[.slice pr nr cr] 24)).cell k_m
  replace k_q := ((Gr.refl (w13.alloc (.cells #[.slice pq nq cq] 24))).alloc (.cells #[.slice pr nr cr] 24)).cell k_q
  have k_r : ((w13.alloc (.cells #[.slice pq nq cq] 24)).alloc (.cells #[.slice pr nr cr] 24)).cell? ⟨w13.heap.size + 1, 0, none⟩ = some (.slice pr nr cr) := by simp [go_sem]
  go_wp2_with fail
  refine (Same_v_eq (Nat.mul_div_cancel x H0.out) (R_q.out.grow (((Gr.refl w13).alloc (.cells #[.slice pq nq cq] 24)).alloc (.cells #[.slice pr nr cr] 24))) (R_a.out.grow (((Gr.refl w13).alloc (.cells #[.slice pq nq cq] 24)).alloc (.cells #[.slice pr nr cr] 24)))).mono ?_
  rintro e w14 ⟨rfl, hg⟩
  replace k_a := hg.cell k_a
  replace k_b := hg.cell k_b
  replace k_m := hg.cell k_m
  replace k_q := hg.cell k_q
  replace k_r := hg.cell k_r
  have gg := (((Gr.refl w13).alloc (.cells #[.slice pq nq cq] 24)).alloc (.cells #[.slice pr nr cr] 24)).trans hg
  replace R_a := Lib.hid (R_a.out.grow gg)
  replace R_b := Lib.hid (R_b.out.grow gg)
  replace R_m := Lib.hid (R_m.out.grow gg)
  replace R_q := Lib.hid (R_q.out.grow gg)
  replace R_r := Lib.hid (R_r.out.grow gg)
  replace G := Lib.hid (G.out.trans gg)
  clear hg gg
  have hz : nr = 0 := by rw [← R_r.out.len, Nat.mul_mod_left, digs_zero]; rfl
  subst hz
  go_wp2
  go_ret
  exact ⟨rfl, G.out⟩

set_option maxRecDepth 100000 in
set_option maxHeartbeats 16000000 in
theorem ok_big (ba bb : Option Addr) (na ca nb cb : Nat) (w : World) (x y : Nat) (hx : x < pw 64) (hy : y < pw 64) (h0 : 0 < y) (ha : Nw w ba na ca (digs x)) (hb : Nw w bb nb cb (digs y)) (sa : na ≤ 100) (sb : nb ≤ 100) (hm : pw 64 ≤ x * y) : Calls Try.prog 7 #[.agg #[.slice ba na ca], .agg #[.slice bb nb cb]] w fun e w' => e = .returned (.bool true) ∧ Gr w w' := by
  have G := Lib.hid (Gr.refl w)
  have R_a := Lib.hid ha
  have R_b := Lib.hid hb
  have HX := Lib.hid hx
  have HY := Lib.hid hy
  have H0 := Lib.hid h0
  have SA := Lib.hid sa
  have SB := Lib.hid sb
  have HM := Lib.hid hm
  have HQ : Hid (x / y < pw 64) := Lib.hid (Nat.lt_of_le_of_lt (Nat.div_le_self x y) hx)
  have HR : Hid (x % y < pw 64) := Lib.hid (Nat.lt_of_le_of_lt (Nat.mod_le x y) hx)
  have HO : Hid (ord (x % y) y = -1) := Lib.hid (ord_lt (Nat.mod_lt x h0))
  have HP : Hid (x / y * y < pw 64) := Lib.hid (Nat.lt_of_le_of_lt (Nat.div_mul_le_self x y) hx)
  have HS : Hid (x / y * y + x % y = x) := Lib.hid (by have := Nat.div_add_mod x y; rw [Nat.mul_comm] at this; exact this)
  have hn : ((nb : Int) == 0) = false := by
    have : nb ≠ 0 := by
      intro e
      have h1 := hb.len
      rw [e] at h1
      have h2 := val_digs y
      rw [List.eq_nil_of_length_eq_zero h1] at h2
      have : val [] = 0 := rfl
      omega
    simp; omega
  clear ha hb hx hy h0 sa sb hm
  have k_a : ((w.alloc (.cells #[.slice ba na ca] 24)).alloc (.cells #[.slice bb nb cb] 24)).cell? ⟨w.heap.size, 0, none⟩ = some (.slice ba na ca) := by simp [go_sem]
  have k_b : ((w.alloc (.cells #[.slice ba na ca] 24)).alloc (.cells #[.slice bb nb cb] 24)).cell? ⟨w.heap.size + 1, 0, none⟩ = some (.slice bb nb cb) := by simp [go_sem]
  go_enter Try.func7, Try.ntmps7
  go_wp2_with fail
  refine (awake_any _).mono ?_
  rintro e w1 ⟨rfl, hg⟩
  replace k_a := hg.cell k_a
  replace k_b := hg.cell k_b
  have gg := (((Gr.refl w).alloc (.cells #[.slice ba na ca] 24)).alloc (.cells #[.slice bb nb cb] 24)).trans hg
  replace R_a := Lib.hid (R_a.out.grow gg)
  replace R_b := Lib.hid (R_b.out.grow gg)
  replace G := Lib.hid (G.out.trans gg)
  clear hg gg
  have sa := SA.out
  have sb := SB.out
  go_wp2_with fail
  replace k_a := ((Gr.refl w1).alloc (.cells #[.slice ba na ca, .slice bb nb cb] 24)).cell k_a
  replace k_b := ((Gr.refl w1).alloc (.cells #[.slice ba na ca, .slice bb nb cb] 24)).cell k_b
  refine (great_no (n := 2) (c := 2) rfl (by decide) (nats2 w1 ba bb na ca nb cb) (le2 sa sb)).mono ?_
  rintro e w2 ⟨rfl, hg⟩
  replace k_a := hg.cell k_a
  replace k_b := hg.cell k_b
  have gg := ((Gr.refl w1).alloc (.cells #[.slice ba na ca, .slice bb nb cb] 24)).trans hg
  replace R_a := Lib.hid (R_a.out.grow gg)
  replace R_b := Lib.hid (R_b.out.grow gg)
  replace G := Lib.hid (G.out.trans gg)
  clear hg gg
  clear sa sb
  go_wp2_with fail
  refine (RValid_v (R_a.out.grow (Gr.refl w2)) HX.out).mono ?_
  rintro e w3 ⟨rfl, hg⟩
  replace k_a := hg.cell k_a
  replace k_b := hg.cell k_b
  have gg := (Gr.refl w2).trans hg
  replace R_a := Lib.hid (R_a.out.grow gg)
  replace R_b := Lib.hid (R_b.out.grow gg)
  replace G := Lib.hid (G.out.trans gg)
  clear hg gg
  go_wp2_with fail
  refine (RValid_v (R_b.out.grow (Gr.refl w3)) HY.out).mono ?_
  rintro e w4 ⟨rfl, hg⟩
  replace k_a := hg.cell k_a
  replace k_b := hg.cell k_b
  have gg := (Gr.refl w3).trans hg
  replace R_a := Lib.hid (R_a.out.grow gg)
  replace R_b := Lib.hid (R_b.out.grow gg)
  replace G := Lib.hid (G.out.trans gg)
  clear hg gg
  go_wp2_with fail
  refine (Div_v H0.out (R_a.out.grow (Gr.refl w4)) (R_b.out.grow (Gr.refl w4)) HX.out HY.out).mono ?_
  rintro e w5 ⟨pq, pr, nq, cq, nr, cr, rfl, hr_q, hr_r, hg⟩
  replace k_a := hg.cell k_a
  replace k_b := hg.cell k_b
  have gg := (Gr.refl w4).trans hg
  replace R_a := Lib.hid (R_a.out.grow gg)
  replace R_b := Lib.hid (R_b.out.grow gg)
  replace G := Lib.hid (G.out.trans gg)
  have R_q := Lib.hid hr_q.toNw
  clear hr_q
  have R_r := Lib.hid hr_r.toNw
  clear hr_r
  clear hg gg
  replace k_a := ((Gr.refl w5).alloc (.cells #[.slice pq nq cq] 24)).cell k_a
  replace k_b := ((Gr.refl w5).alloc (.cells #[.slice pq nq cq] 24)).cell k_b
  have k_q : (w5.alloc (.cells #[.slice pq nq cq] 24)).cell? ⟨w5.heap.size, 0, none⟩ = some (.slice pq nq cq) := by simp [go_sem]
  replace k_a := ((Gr.refl (w5.alloc (.cells #[.slice pq nq cq] 24))).alloc (.cells #[.slice pr nr cr] 24)).cell k_a
  replace k_b := ((Gr.refl (w5.alloc (.cells #[.slice pq nq cq] 24))).alloc (.cells #[.slice pr nr cr] 24)).cell k_b
  replace k_q := ((Gr.refl (w5.alloc (.cells #[.slice pq nq cq] 24))).alloc (.cells #[.slice pr nr cr] 24)).cell k_q
  have k_r : ((w5.alloc (.cells #[.slice pq nq cq] 24)).alloc (.cells #[.slice pr nr cr] 24)).cell? ⟨w5.heap.size + 1, 0, none⟩ = some (.slice pr nr cr) := by simp [go_sem]
  go_wp2_with fail
  refine (Valid_v (R_q.out.grow (((Gr.refl w5).alloc (.cells #[.slice pq nq cq] 24)).alloc (.cells #[.slice pr nr cr] 24))) HQ.out).mono ?_
  rintro e w6 ⟨rfl, hg⟩
  replace k_a := hg.cell k_a
  replace k_b := hg.cell k_b
  replace k_q := hg.cell k_q
  replace k_r := hg.cell k_r
  have gg := (((Gr.refl w5).alloc (.cells #[.slice pq nq cq] 24)).alloc (.cells #[.slice pr nr cr] 24)).trans hg
  replace R_a := Lib.hid (R_a.out.grow gg)
  replace R_b := Lib.hid (R_b.out.grow gg)
  replace R_q := Lib.hid (R_q.out.grow gg)
  replace R_r := Lib.hid (R_r.out.grow gg)
  replace G := Lib.hid (G.out.trans gg)
  clear hg gg
  go_wp2_with fail
  refine (Valid_v (R_r.out.grow (Gr.refl w6)) HR.out).mono ?_
  rintro e w7 ⟨rfl, hg⟩
  replace k_a := hg.cell k_a
  replace k_b := hg.cell k_b
  replace k_q := hg.cell k_q
  replace k_r := hg.cell k_r
  have gg := (Gr.refl w6).trans hg
  replace R_a := Lib.hid (R_a.out.grow gg)
  replace R_b := Lib.hid (R_b.out.grow gg)
  replace R_q := Lib.hid (R_q.out.grow gg)
  replace R_r := Lib.hid (R_r.out.grow gg)
  replace G := Lib.hid (G.out.trans gg)
  clear hg gg
  go_wp2_with fail
  refine (Compare_v (R_r.out.grow (Gr.refl w7)) (R_b.out.grow (Gr.refl w7)) HR.out HY.out).mono ?_
  rintro e w8 ⟨rfl, hg⟩
  replace k_a := hg.cell k_a
  replace k_b := hg.cell k_b
  replace k_q := hg.cell k_q
  replace k_r := hg.cell k_r
  have gg := (Gr.refl w7).trans hg
  replace R_a := Lib.hid (R_a.out.grow gg)
  replace R_b := Lib.hid (R_b.out.grow gg)
  replace R_q := Lib.hid (R_q.out.grow gg)
  replace R_r := Lib.hid (R_r.out.grow gg)
  replace G := Lib.hid (G.out.trans gg)
  clear hg gg
  rw [HO.out]
  go_wp2_with fail
  refine (Mul_v _ 0 (.inl ⟨HP.out, rfl, rfl⟩) (R_q.out.grow (Gr.refl w8)) (R_b.out.grow (Gr.refl w8)) HQ.out HY.out).mono ?_
  rintro e w9 ⟨pp, np, cp, rfl, hr_p, hg⟩
  replace k_a := hg.cell k_a
  replace k_b := hg.cell k_b
  replace k_q := hg.cell k_q
  replace k_r := hg.cell k_r
  have gg := (Gr.refl w8).trans hg
  replace R_a := Lib.hid (R_a.out.grow gg)
  replace R_b := Lib.hid (R_b.out.grow gg)
  replace R_q := Lib.hid (R_q.out.grow gg)
  replace R_r := Lib.hid (R_r.out.grow gg)
  replace G := Lib.hid (G.out.trans gg)
  have R_p := Lib.hid hr_p.toNw
  clear hr_p
  clear hg gg
  replace k_a := ((Gr.refl w9).alloc (.cells #[.slice pp np cp] 24)).cell k_a
  replace k_b := ((Gr.refl w9).alloc (.cells #[.slice pp np cp] 24)).cell k_b
  replace k_q := ((Gr.refl w9).alloc (.cells #[.slice pp np cp] 24)).cell k_q
  replace k_r := ((Gr.refl w9).alloc (.cells #[.slice pp np cp] 24)).cell k_r
  have k_p : (w9.alloc (.cells #[.slice pp np cp] 24)).cell? ⟨w9.heap.size, 0, none⟩ = some (.slice pp np cp) := by simp [go_sem]
  go_wp2_with fail
  refine (Add_v _ 0 (.inl ⟨by rw [HS.out]; exact HX.out, rfl, rfl⟩) (R_p.out.grow ((Gr.refl w9).alloc (.cells #[.slice pp np cp] 24))) (R_r.out.grow ((Gr.refl w9).alloc (.cells #[.slice pp np cp] 24))) HP.out HR.out).mono ?_
  rintro e w10 ⟨ps, ns, cs, rfl, hr_s, hg⟩
  replace k_a := hg.cell k_a
  replace k_b := hg.cell k_b
  replace k_q := hg.cell k_q
  replace k_r := hg.cell k_r
  replace k_p := hg.cell k_p
  have gg := ((Gr.refl w9).alloc (.cells #[.slice pp np cp] 24)).trans hg
  replace R_a := Lib.hid (R_a.out.grow gg)
  replace R_b := Lib.hid (R_b.out.grow gg)
  replace R_q := Lib.hid (R_q.out.grow gg)
  replace R_r := Lib.hid (R_r.out.grow gg)
  replace R_p := Lib.hid (R_p.out.grow gg)
  replace G := Lib.hid (G.out.trans gg)
  have R_s := Lib.hid hr_s.toNw
  clear hr_s
  clear hg gg
  replace k_a := ((Gr.refl w10).alloc (.cells #[.slice ps ns cs] 24)).cell k_a
  replace k_b := ((Gr.refl w10).alloc (.cells #[.slice ps ns cs] 24)).cell k_b
  replace k_q := ((Gr.refl w10).alloc (.cells #[.slice ps ns cs] 24)).cell k_q
  replace k_r := ((Gr.refl w10).alloc (.cells #[.slice ps ns cs] 24)).cell k_r
  replace k_p := ((Gr.refl w10).alloc (.cells #[.slice ps ns cs] 24)).cell k_p
  have k_s : (w10.alloc (.cells #[.slice ps ns cs] 24)).cell? ⟨w10.heap.size, 0, none⟩ = some (.slice ps ns cs) := by simp [go_sem]
  go_wp2_with fail
  refine (Same_v_eq HS.out (R_s.out.grow ((Gr.refl w10).alloc (.cells #[.slice ps ns cs] 24))) (R_a.out.grow ((Gr.refl w10).alloc (.cells #[.slice ps ns cs] 24)))).mono ?_
  rintro e w11 ⟨rfl, hg⟩
  replace k_a := hg.cell k_a
  replace k_b := hg.cell k_b
  replace k_q := hg.cell k_q
  replace k_r := hg.cell k_r
  replace k_p := hg.cell k_p
  replace k_s := hg.cell k_s
  have gg := ((Gr.refl w10).alloc (.cells #[.slice ps ns cs] 24)).trans hg
  replace R_a := Lib.hid (R_a.out.grow gg)
  replace R_b := Lib.hid (R_b.out.grow gg)
  replace R_q := Lib.hid (R_q.out.grow gg)
  replace R_r := Lib.hid (R_r.out.grow gg)
  replace R_p := Lib.hid (R_p.out.grow gg)
  replace R_s := Lib.hid (R_s.out.grow gg)
  replace G := Lib.hid (G.out.trans gg)
  clear hg gg
  clear k_s
  clear R_s
  clear k_p
  clear R_p
  clear k_q
  clear R_q
  clear k_r
  clear R_r
  go_wp2_with fail
  refine (Mul_v 0 9 (.inr ⟨HM.out, rfl, rfl⟩) (R_a.out.grow (Gr.refl w11)) (R_b.out.grow (Gr.refl w11)) HX.out HY.out).mono ?_
  rintro e w12 ⟨pm, nm, cm, rfl, hr_m, hg⟩
  replace k_a := hg.cell k_a
  replace k_b := hg.cell k_b
  have gg := (Gr.refl w11).trans hg
  replace R_a := Lib.hid (R_a.out.grow gg)
  replace R_b := Lib.hid (R_b.out.grow gg)
  replace G := Lib.hid (G.out.trans gg)
  have R_m := Lib.hid hr_m.toNw
  clear hr_m
  clear hg gg
  clear R_m
  replace k_a := ((Gr.refl w12).alloc (.cells #[.slice pm nm cm] 24)).cell k_a
  replace k_b := ((Gr.refl w12).alloc (.cells #[.slice pm nm cm] 24)).cell k_b
  have k_m : (w12.alloc (.cells #[.slice pm nm cm] 24)).cell? ⟨w12.heap.size, 0, none⟩ = some (.slice pm nm cm) := by simp [go_sem]
  go_wp2
  go_ret
  exact ⟨rfl, G.out.trans ((Gr.refl w12).alloc (.cells #[.slice pm nm cm] 24))⟩

theorem NaturalRest (w : World) (ba : Option Addr) (na ca : Nat) (bb : Option Addr) (nb cb : Nat) (h1 : Nin w ba na ca) (h2 : Nin w bb nb cb) : Calls Try.prog 7 #[.agg #[.slice ba na ca], .agg #[.slice bb nb cb]] w fun e w' => e = .returned (.bool true) ∧ Gr w w' := by
  by_cases g1 : 100 < na ∨ 100 < nb
  · exact great ba bb na ca nb cb g1 w
  have sa : na ≤ 100 := by omega
  have sb : nb ≤ 100 := by omega
  obtain ⟨la, ha⟩ := h1.nw (by omega)
  obtain ⟨lb, hb⟩ := h2.nw (by omega)
  cases va : decide (valid la) with
  | false => exact bad_a ba bb na ca nb cb w la ha va sa sb
  | true =>
    obtain ⟨x, hx, rfl⟩ := nw_value ha va
    cases vb : decide (valid lb) with
    | false => exact bad_b ba bb na ca nb cb w x lb hx ha hb vb sa sb
    | true =>
      obtain ⟨y, hy, rfl⟩ := nw_value hb vb
      rcases Nat.eq_zero_or_pos y with h0 | h0
      · subst h0; exact zero ba bb na ca nb cb w x hx ha hb sa sb
      · rcases Nat.lt_or_ge (x * y) (pw 64) with hm | hm
        · exact ok ba bb na ca nb cb w x y hx hy h0 ha hb sa sb hm
        · exact ok_big ba bb na ca nb cb w x y hx hy h0 ha hb sa sb hm
end Go.Proofs.Ytiefnhpbniaklaa.Nlrest
