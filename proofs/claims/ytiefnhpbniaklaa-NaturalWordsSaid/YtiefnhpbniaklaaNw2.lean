/- The walk of NaturalWords: numbers of ints behave as ints do. -/
import Derived.Test.YtiefnhpbniaklaaNawake
import Derived.Test.YtiefnhpbniaklaaNequal
import Derived.Test.YtiefnhpbniaklaaWbits
namespace Go.Proofs.Ytiefnhpbniaklaa.Nlwords
open Go.RowKit Go.Shelf Go.Proofs.Ytiefnhpbniaklaa.Nm Go.Proofs.Ytiefnhpbniaklaa.Ne Go.Proofs.Ytiefnhpbniaklaa.Nf Go.Proofs.Ytiefnhpbniaklaa.Nk Go.Proofs.Ytiefnhpbniaklaa.Nv

theorem small_pw {x : Nat} (h : x < 9223372036854775808) : x < pw 64 := dv_small (by omega)
theorem sum_fits {x y : Nat} (hx : x < 9223372036854775808) (hy : y < 9223372036854775808) : Fits (x + y) (x + y) 0 := .inl ⟨dv_small (by omega), rfl, rfl⟩
theorem mul_lt {x y : Nat} (hx : x < 9223372036854775808) (hy : y < 9223372036854775808) : x * y < 85070591730234615865843651857942052864 := by
  have := Nat.mul_le_mul (show x ≤ 9223372036854775807 by omega) (show y ≤ 9223372036854775807 by omega)
  omega
theorem mul_fits {x y : Nat} (hx : x < 9223372036854775808) (hy : y < 9223372036854775808) : Fits (x * y) (x * y) 0 := by
  refine .inl ⟨?_, rfl, rfl⟩
  have := mul_lt hx hy
  have h4 : pw 4 = 340282366920938463463374607431768211456 := rfl
  have := pw_mono (show 4 ≤ 64 by decide)
  omega
theorem i64_lt {a : Int} (h : (Lit.int .i64 a).wf = true) : a < 9223372036854775808 := by
  simp [Lit.wf, IntKind.min, IntKind.max, IntKind.signed, IntKind.bits] at h
  omega
theorem ord_cases (x y : Nat) : x < y ∧ ord x y = -1 ∨ x = y ∧ ord x y = 0 ∨ y < x ∧ ord x y = 1 := by
  rcases Nat.lt_trichotomy x y with h | h | h
  · exact .inl ⟨h, ord_lt h⟩
  · subst h; exact .inr (.inl ⟨rfl, ord_eq x⟩)
  · exact .inr (.inr ⟨h, ord_gt h⟩)

theorem mul64_v (x y : Nat) (hx : x < 9223372036854775808) (hy : y < 9223372036854775808) (w : World) :
    Calls Try.prog 46 #[.int .u64 x, .int .u64 y] w fun e w' => ∃ hi lo : Nat, e = .returned (.tuple #[.int .u64 (hi : Int), .int .u64 (lo : Int)]) ∧ Gr w w' ∧ hi < 18446744073709551616 ∧ lo < 18446744073709551616 ∧ x * y = lo + 18446744073709551616 * hi := by
  refine (Wb.mul64 x y (by omega) (by omega) w).mono ?_
  rintro e w' ⟨rfl, rfl⟩
  have := mul_lt hx hy
  exact ⟨_, _, rfl, Gr.refl _, by omega, by omega, by omega⟩
theorem equal_v0 (p : Option Addr) (n c x : Nat) (hx : x < 18446744073709551616) (w : World) (hl : Nw w p n c (digs x)) :
    Calls Try.prog 47 #[.agg #[.slice p n c], .int .u64 (x : Int), .int .u64 0] w fun e w' => e = .returned (.bool true) ∧ Gr w w' := by
  simpa using equal_v p n c x 0 x hx (by decide) (by omega) w hl

set_option maxRecDepth 100000 in
set_option maxHeartbeats 4000000 in
theorem neg_x (x y : Int) (h : x < 0) (w : World) : Calls Try.prog 9 #[.int .i64 x, .int .i64 y] w fun e w' => e = .returned (.bool true) ∧ Gr w w' := by
  go_enter Try.func9, Try.ntmps9
  go_wp2_with fail
  refine (awake_any w).mono ?_
  rintro e w1 ⟨rfl, hg⟩
  go_wp2
  go_ret
  exact ⟨rfl, hg⟩
set_option maxRecDepth 100000 in
set_option maxHeartbeats 4000000 in
theorem neg_y (x y : Int) (h : ¬ x < 0) (h2 : y < 0) (w : World) : Calls Try.prog 9 #[.int .i64 x, .int .i64 y] w fun e w' => e = .returned (.bool true) ∧ Gr w w' := by
  go_enter Try.func9, Try.ntmps9
  go_wp2_with fail
  refine (awake_any w).mono ?_
  rintro e w1 ⟨rfl, hg⟩
  go_wp2
  go_ret
  exact ⟨rfl, hg⟩


set_option maxRecDepth 100000 in
set_option maxHeartbeats 8000000 in
theorem ok_lt (x y : Nat) (hx : x < 9223372036854775808) (hy : y < 9223372036854775808) (hy0 : 0 < y) (ho : x < y) (w : World) : Calls Try.prog 9 #[.int .i64 (x : Int), .int .i64 (y : Int)] w fun e w' => e = .returned (.bool true) ∧ Gr w w' := by
  have HX := Lib.hid hx
  have HY := Lib.hid hy
  have HO : Hid (ord x y = -1) := Lib.hid (ord_lt ho)
  have hx0 : ¬ (x : Int) < 0 := by omega
  have ux : IntKind.u64.wrap (x : Int) = (x : Int) := by rw [IntKind.wrap_u64]; omega
  have uy : IntKind.u64.wrap (y : Int) = (y : Int) := by rw [IntKind.wrap_u64]; omega
  have us : IntKind.u64.wrap ((x : Int) + (y : Int)) = ((x + y : Nat) : Int) := by rw [IntKind.wrap_u64]; omega
  have hy1 : ¬ (y : Int) < 0 := by omega
  have ho1 : (x : Int) < (y : Int) := by omega
  have ho2 : ¬ (y : Int) < (x : Int) := by omega
  have hyz : ((y : Int) == 0) = false := by simp; omega
  have hyn : ¬ (y : Int) = 0 := by omega
  have hyn2 : ¬ y = 0 := by omega
  have HD := Lib.hid hy0
  clear hx hy ho hy0
  go_enter Try.func9, Try.ntmps9
  have G := Lib.hid (Gr.refl w)
  go_wp2_with fail
  refine (awake_any _).mono ?_
  rintro e w1 ⟨rfl, hg⟩
  have gg := (Gr.refl w).trans hg
  replace G := Lib.hid (G.out.trans gg)
  clear hg gg
  go_wp2_with fail
  refine (Of_v HX.out).mono ?_
  rintro e w2 ⟨pa, na, ca, rfl, hr_a, hg⟩
  have gg := (Gr.refl w1).trans hg
  replace G := Lib.hid (G.out.trans gg)
  have R_a := Lib.hid hr_a.toNw
  clear hr_a
  clear hg gg
  have k_a : (w2.alloc (.cells #[.slice pa na ca] 24)).cell? ⟨w2.heap.size, 0, none⟩ = some (.slice pa na ca) := by simp [go_sem]
  go_wp2_with fail
  refine (Of_v HY.out).mono ?_
  rintro e w3 ⟨pb, nb, cb, rfl, hr_b, hg⟩
  replace k_a := hg.cell k_a
  have gg := ((Gr.refl w2).alloc (.cells #[.slice pa na ca] 24)).trans hg
  replace R_a := Lib.hid (R_a.out.grow gg)
  replace G := Lib.hid (G.out.trans gg)
  have R_b := Lib.hid hr_b.toNw
  clear hr_b
  clear hg gg
  replace k_a := ((Gr.refl w3).alloc (.cells #[.slice pb nb cb] 24)).cell k_a
  have k_b : (w3.alloc (.cells #[.slice pb nb cb] 24)).cell? ⟨w3.heap.size, 0, none⟩ = some (.slice pb nb cb) := by simp [go_sem]
  go_wp2_with fail
  refine (Int_v HX.out (R_a.out.grow ((Gr.refl w3).alloc (.cells #[.slice pb nb cb] 24)))).mono ?_
  rintro e w4 ⟨rfl, hg⟩
  replace k_a := hg.cell k_a
  replace k_b := hg.cell k_b
  have gg := ((Gr.refl w3).alloc (.cells #[.slice pb nb cb] 24)).trans hg
  replace R_a := Lib.hid (R_a.out.grow gg)
  replace R_b := Lib.hid (R_b.out.grow gg)
  replace G := Lib.hid (G.out.trans gg)
  clear hg gg
  go_wp2_with fail
  refine (Add_v _ 0 (sum_fits HX.out HY.out) (R_a.out.grow (Gr.refl w4)) (R_b.out.grow (Gr.refl w4)) (small_pw HX.out) (small_pw HY.out)).mono ?_
  rintro e w5 ⟨ps, ns, cs, rfl, hr_s, hg⟩
  replace k_a := hg.cell k_a
  replace k_b := hg.cell k_b
  have gg := (Gr.refl w4).trans hg
  replace R_a := Lib.hid (R_a.out.grow gg)
  replace R_b := Lib.hid (R_b.out.grow gg)
  replace G := Lib.hid (G.out.trans gg)
  have R_s := Lib.hid hr_s.toNw
  clear hr_s
  clear hg gg
  replace k_a := ((Gr.refl w5).alloc (.cells #[.slice ps ns cs] 24)).cell k_a
  replace k_b := ((Gr.refl w5).alloc (.cells #[.slice ps ns cs] 24)).cell k_b
  have k_s : (w5.alloc (.cells #[.slice ps ns cs] 24)).cell? ⟨w5.heap.size, 0, none⟩ = some (.slice ps ns cs) := by simp [go_sem]
  go_wp2_with fail
  refine (Mul_v _ 0 (mul_fits HX.out HY.out) (R_a.out.grow ((Gr.refl w5).alloc (.cells #[.slice ps ns cs] 24))) (R_b.out.grow ((Gr.refl w5).alloc (.cells #[.slice ps ns cs] 24))) (small_pw HX.out) (small_pw HY.out)).mono ?_
  rintro e w6 ⟨pp, np, cp, rfl, hr_p, hg⟩
  replace k_a := hg.cell k_a
  replace k_b := hg.cell k_b
  replace k_s := hg.cell k_s
  have gg := ((Gr.refl w5).alloc (.cells #[.slice ps ns cs] 24)).trans hg
  replace R_a := Lib.hid (R_a.out.grow gg)
  replace R_b := Lib.hid (R_b.out.grow gg)
  replace R_s := Lib.hid (R_s.out.grow gg)
  replace G := Lib.hid (G.out.trans gg)
  have R_p := Lib.hid hr_p.toNw
  clear hr_p
  clear hg gg
  replace k_a := ((Gr.refl w6).alloc (.cells #[.slice pp np cp] 24)).cell k_a
  replace k_b := ((Gr.refl w6).alloc (.cells #[.slice pp np cp] 24)).cell k_b
  replace k_s := ((Gr.refl w6).alloc (.cells #[.slice pp np cp] 24)).cell k_s
  have k_p : (w6.alloc (.cells #[.slice pp np cp] 24)).cell? ⟨w6.heap.size, 0, none⟩ = some (.slice pp np cp) := by simp [go_sem]
  go_wp2_with fail
  refine (Compare_v (R_a.out.grow ((Gr.refl w6).alloc (.cells #[.slice pp np cp] 24))) (R_b.out.grow ((Gr.refl w6).alloc (.cells #[.slice pp np cp] 24))) (small_pw HX.out) (small_pw HY.out)).mono ?_
  rintro e w7 ⟨rfl, hg⟩
  replace k_a := hg.cell k_a
  replace k_b := hg.cell k_b
  replace k_s := hg.cell k_s
  replace k_p := hg.cell k_p
  have gg := ((Gr.refl w6).alloc (.cells #[.slice pp np cp] 24)).trans hg
  replace R_a := Lib.hid (R_a.out.grow gg)
  replace R_b := Lib.hid (R_b.out.grow gg)
  replace R_s := Lib.hid (R_s.out.grow gg)
  replace R_p := Lib.hid (R_p.out.grow gg)
  replace G := Lib.hid (G.out.trans gg)
  clear hg gg
  rw [HO.out]
  go_wp2_with fail
  refine (mul64_v x y HX.out HY.out _).mono ?_
  rintro e w8 ⟨hi, lo, rfl, hg, hhi, hlo, hp⟩
  replace k_a := hg.cell k_a
  replace k_b := hg.cell k_b
  replace k_s := hg.cell k_s
  replace k_p := hg.cell k_p
  have gg := (Gr.refl w7).trans hg
  replace R_a := Lib.hid (R_a.out.grow gg)
  replace R_b := Lib.hid (R_b.out.grow gg)
  replace R_s := Lib.hid (R_s.out.grow gg)
  replace R_p := Lib.hid (R_p.out.grow gg)
  replace G := Lib.hid (G.out.trans gg)
  clear hg gg
  have HP := Lib.hid hp
  clear hp
  go_wp2_with fail
  refine (equal_v0 _ _ _ (x + y) (by have := HX.out; have := HY.out; omega) _ (R_s.out.grow (Gr.refl w8))).mono ?_
  rintro e w9 ⟨rfl, hg⟩
  replace k_a := hg.cell k_a
  replace k_b := hg.cell k_b
  replace k_s := hg.cell k_s
  replace k_p := hg.cell k_p
  have gg := (Gr.refl w8).trans hg
  replace R_a := Lib.hid (R_a.out.grow gg)
  replace R_b := Lib.hid (R_b.out.grow gg)
  replace R_s := Lib.hid (R_s.out.grow gg)
  replace R_p := Lib.hid (R_p.out.grow gg)
  replace G := Lib.hid (G.out.trans gg)
  clear hg gg
  go_wp2_with fail
  refine (equal_v _ _ _ lo hi (x * y) hlo hhi HP.out _ (R_p.out.grow (Gr.refl w9))).mono ?_
  rintro e w10 ⟨rfl, hg⟩
  replace k_a := hg.cell k_a
  replace k_b := hg.cell k_b
  replace k_s := hg.cell k_s
  replace k_p := hg.cell k_p
  have gg := (Gr.refl w9).trans hg
  replace R_a := Lib.hid (R_a.out.grow gg)
  replace R_b := Lib.hid (R_b.out.grow gg)
  replace R_s := Lib.hid (R_s.out.grow gg)
  replace R_p := Lib.hid (R_p.out.grow gg)
  replace G := Lib.hid (G.out.trans gg)
  clear hg gg
  clear k_s
  clear R_s
  clear k_p
  clear R_p
  go_wp2_with fail
  refine (Div_v HD.out (R_a.out.grow (Gr.refl w10)) (R_b.out.grow (Gr.refl w10)) (small_pw HX.out) (small_pw HY.out)).mono ?_
  rintro e w11 ⟨pq, pr, nq, cq, nr, cr, rfl, hr_q, hr_r, hg⟩
  replace k_a := hg.cell k_a
  replace k_b := hg.cell k_b
  have gg := (Gr.refl w10).trans hg
  replace R_a := Lib.hid (R_a.out.grow gg)
  replace R_b := Lib.hid (R_b.out.grow gg)
  replace G := Lib.hid (G.out.trans gg)
  have R_q := Lib.hid hr_q.toNw
  clear hr_q
  have R_r := Lib.hid hr_r.toNw
  clear hr_r
  clear hg gg
  clear k_a
  clear R_a
  clear k_b
  clear R_b
  have k_q : (w11.alloc (.cells #[.slice pq nq cq] 24)).cell? ⟨w11.heap.size, 0, none⟩ = some (.slice pq nq cq) := by simp [go_sem]
  replace k_q := ((Gr.refl (w11.alloc (.cells #[.slice pq nq cq] 24))).alloc (.cells #[.slice pr nr cr] 24)).cell k_q
  have k_r : ((w11.alloc (.cells #[.slice pq nq cq] 24)).alloc (.cells #[.slice pr nr cr] 24)).cell? ⟨w11.heap.size + 1, 0, none⟩ = some (.slice pr nr cr) := by simp [go_sem]
  have GA := (((Gr.refl w11).alloc (.cells #[.slice pq nq cq] 24)).alloc (.cells #[.slice pr nr cr] 24))
  have HE1 := Lib.hid (fun W (hW : Gr w11 W) => equal_v0 pq nq cq (x / y) (by have := HX.out; have := Nat.div_le_self x y; omega) W (R_q.out.grow hW))
  have HE2 := Lib.hid (fun W (hW : Gr w11 W) => equal_v0 pr nr cr (x % y) (by have := HY.out; have := Nat.mod_lt x HD.out; omega) W (R_r.out.grow hW))
  obtain ⟨Q, hQ⟩ : ∃ Q, x / y = Q := ⟨_, rfl⟩
  obtain ⟨R, hR⟩ : ∃ R, x % y = R := ⟨_, rfl⟩
  have lQ : Q < 9223372036854775808 := by have := HX.out; have := Nat.div_le_self x y; omega
  have lR : R < 9223372036854775808 := by have := HX.out; have := Nat.mod_le x y; omega
  have tq : (x : Int).tdiv (y : Int) = (Q : Int) := by rw [Int.tdiv_eq_ediv_of_nonneg (by omega), ← Int.natCast_ediv, hQ]
  have tr : (x : Int).tmod (y : Int) = (R : Int) := by rw [Int.tmod_eq_emod_of_nonneg (by omega), ← Int.natCast_emod, hR]
  have wq : IntKind.i64.wrap (Q : Int) = (Q : Int) := IntWalk.i64_in _ (by omega)
  have wr : IntKind.i64.wrap (R : Int) = (R : Int) := IntWalk.i64_in _ (by omega)
  have uq : IntKind.u64.wrap (Q : Int) = (Q : Int) := by rw [IntKind.wrap_u64]; omega
  have ur : IntKind.u64.wrap (R : Int) = (R : Int) := by rw [IntKind.wrap_u64]; omega
  rw [hQ] at HE1
  rw [hR] at HE2
  clear hQ hR lQ lR R_q R_r hhi hlo HP
  go_wp2_with fail
  generalize ((w11.alloc (.cells #[.slice pq nq cq] 24)).alloc (.cells #[.slice pr nr cr] 24)) = WE at *
  have K1 : WE.drew.cell? ⟨w11.heap.size, 0, none⟩ = some (.slice pq nq cq) := k_q
  have K2 : WE.drew.cell? ⟨w11.heap.size + 1, 0, none⟩ = some (.slice pr nr cr) := k_r
  have GD : Gr w11 WE.drew := GA.drew
  clear k_q k_r
  go_region_held3 (fun W' => W'.cell? ⟨w11.heap.size, 0, none⟩ = some (.slice pq nq cq) ∧ W'.cell? ⟨w11.heap.size + 1, 0, none⟩ = some (.slice pr nr cr) ∧ Gr w11 W')
    (first | exact ⟨K1, K2, GD⟩ | exact ⟨z1, z2, z3⟩ | exact ⟨y1, y2, y3⟩)
    (first
    | (go_at_call_of 47 pq; refine (HE1.out _ ?_).mono ?_; exact GD; rintro e w' ⟨rfl, hg⟩; have z1 := hg.cell K1; have z2 := hg.cell K2; have z3 := GD.trans hg)
    | (go_at_call_of 47 pr; refine (HE2.out _ ?_).mono ?_; exact z3; rintro e w' ⟨rfl, hg2⟩; have y1 := hg2.cell z1; have y2 := hg2.cell z2; have y3 := z3.trans hg2))
  go_wp2
  go_ret
  exact ⟨rfl, G.out.trans y3⟩


set_option maxRecDepth 100000 in
set_option maxHeartbeats 8000000 in
theorem ok_eq (x y : Nat) (hx : x < 9223372036854775808) (hy : y < 9223372036854775808) (hy0 : 0 < y) (ho : x = y) (w : World) : Calls Try.prog 9 #[.int .i64 (x : Int), .int .i64 (y : Int)] w fun e w' => e = .returned (.bool true) ∧ Gr w w' := by
  have HX := Lib.hid hx
  have HY := Lib.hid hy
  have HO : Hid (ord x y = 0) := Lib.hid (by rw [ho]; exact ord_eq y)
  have hx0 : ¬ (x : Int) < 0 := by omega
  have ux : IntKind.u64.wrap (x : Int) = (x : Int) := by rw [IntKind.wrap_u64]; omega
  have uy : IntKind.u64.wrap (y : Int) = (y : Int) := by rw [IntKind.wrap_u64]; omega
  have us : IntKind.u64.wrap ((x : Int) + (y : Int)) = ((x + y : Nat) : Int) := by rw [IntKind.wrap_u64]; omega
  have hy1 : ¬ (y : Int) < 0 := by omega
  have ho1 : ¬ (x : Int) < (y : Int) := by omega
  have ho2 : ¬ (y : Int) < (x : Int) := by omega
  have hyz : ((y : Int) == 0) = false := by simp; omega
  have hyn : ¬ (y : Int) = 0 := by omega
  have hyn2 : ¬ y = 0 := by omega
  have HD := Lib.hid hy0
  clear hx hy ho hy0
  go_enter Try.func9, Try.ntmps9
  have G := Lib.hid (Gr.refl w)
  go_wp2_with fail
  refine (awake_any _).mono ?_
  rintro e w1 ⟨rfl, hg⟩
  have gg := (Gr.refl w).trans hg
  replace G := Lib.hid (G.out.trans gg)
  clear hg gg
  go_wp2_with fail
  refine (Of_v HX.out).mono ?_
  rintro e w2 ⟨pa, na, ca, rfl, hr_a, hg⟩
  have gg := (Gr.refl w1).trans hg
  replace G := Lib.hid (G.out.trans gg)
  have R_a := Lib.hid hr_a.toNw
  clear hr_a
  clear hg gg
  have k_a : (w2.alloc (.cells #[.slice pa na ca] 24)).cell? ⟨w2.heap.size, 0, none⟩ = some (.slice pa na ca) := by simp [go_sem]
  go_wp2_with fail
  refine (Of_v HY.out).mono ?_
  rintro e w3 ⟨pb, nb, cb, rfl, hr_b, hg⟩
  replace k_a := hg.cell k_a
  have gg := ((Gr.refl w2).alloc (.cells #[.slice pa na ca] 24)).trans hg
  replace R_a := Lib.hid (R_a.out.grow gg)
  replace G := Lib.hid (G.out.trans gg)
  have R_b := Lib.hid hr_b.toNw
  clear hr_b
  clear hg gg
  replace k_a := ((Gr.refl w3).alloc (.cells #[.slice pb nb cb] 24)).cell k_a
  have k_b : (w3.alloc (.cells #[.slice pb nb cb] 24)).cell? ⟨w3.heap.size, 0, none⟩ = some (.slice pb nb cb) := by simp [go_sem]
  go_wp2_with fail
  refine (Int_v HX.out (R_a.out.grow ((Gr.refl w3).alloc (.cells #[.slice pb nb cb] 24)))).mono ?_
  rintro e w4 ⟨rfl, hg⟩
  replace k_a := hg.cell k_a
  replace k_b := hg.cell k_b
  have gg := ((Gr.refl w3).alloc (.cells #[.slice pb nb cb] 24)).trans hg
  replace R_a := Lib.hid (R_a.out.grow gg)
  replace R_b := Lib.hid (R_b.out.grow gg)
  replace G := Lib.hid (G.out.trans gg)
  clear hg gg
  go_wp2_with fail
  refine (Add_v _ 0 (sum_fits HX.out HY.out) (R_a.out.grow (Gr.refl w4)) (R_b.out.grow (Gr.refl w4)) (small_pw HX.out) (small_pw HY.out)).mono ?_
  rintro e w5 ⟨ps, ns, cs, rfl, hr_s, hg⟩
  replace k_a := hg.cell k_a
  replace k_b := hg.cell k_b
  have gg := (Gr.refl w4).trans hg
  replace R_a := Lib.hid (R_a.out.grow gg)
  replace R_b := Lib.hid (R_b.out.grow gg)
  replace G := Lib.hid (G.out.trans gg)
  have R_s := Lib.hid hr_s.toNw
  clear hr_s
  clear hg gg
  replace k_a := ((Gr.refl w5).alloc (.cells #[.slice ps ns cs] 24)).cell k_a
  replace k_b := ((Gr.refl w5).alloc (.cells #[.slice ps ns cs] 24)).cell k_b
  have k_s : (w5.alloc (.cells #[.slice ps ns cs] 24)).cell? ⟨w5.heap.size, 0, none⟩ = some (.slice ps ns cs) := by simp [go_sem]
  go_wp2_with fail
  refine (Mul_v _ 0 (mul_fits HX.out HY.out) (R_a.out.grow ((Gr.refl w5).alloc (.cells #[.slice ps ns cs] 24))) (R_b.out.grow ((Gr.refl w5).alloc (.cells #[.slice ps ns cs] 24))) (small_pw HX.out) (small_pw HY.out)).mono ?_
  rintro e w6 ⟨pp, np, cp, rfl, hr_p, hg⟩
  replace k_a := hg.cell k_a
  replace k_b := hg.cell k_b
  replace k_s := hg.cell k_s
  have gg := ((Gr.refl w5).alloc (.cells #[.slice ps ns cs] 24)).trans hg
  replace R_a := Lib.hid (R_a.out.grow gg)
  replace R_b := Lib.hid (R_b.out.grow gg)
  replace R_s := Lib.hid (R_s.out.grow gg)
  replace G := Lib.hid (G.out.trans gg)
  have R_p := Lib.hid hr_p.toNw
  clear hr_p
  clear hg gg
  replace k_a := ((Gr.refl w6).alloc (.cells #[.slice pp np cp] 24)).cell k_a
  replace k_b := ((Gr.refl w6).alloc (.cells #[.slice pp np cp] 24)).cell k_b
  replace k_s := ((Gr.refl w6).alloc (.cells #[.slice pp np cp] 24)).cell k_s
  have k_p : (w6.alloc (.cells #[.slice pp np cp] 24)).cell? ⟨w6.heap.size, 0, none⟩ = some (.slice pp np cp) := by simp [go_sem]
  go_wp2_with fail
  refine (Compare_v (R_a.out.grow ((Gr.refl w6).alloc (.cells #[.slice pp np cp] 24))) (R_b.out.grow ((Gr.refl w6).alloc (.cells #[.slice pp np cp] 24))) (small_pw HX.out) (small_pw HY.out)).mono ?_
  rintro e w7 ⟨rfl, hg⟩
  replace k_a := hg.cell k_a
  replace k_b := hg.cell k_b
  replace k_s := hg.cell k_s
  replace k_p := hg.cell k_p
  have gg := ((Gr.refl w6).alloc (.cells #[.slice pp np cp] 24)).trans hg
  replace R_a := Lib.hid (R_a.out.grow gg)
  replace R_b := Lib.hid (R_b.out.grow gg)
  replace R_s := Lib.hid (R_s.out.grow gg)
  replace R_p := Lib.hid (R_p.out.grow gg)
  replace G := Lib.hid (G.out.trans gg)
  clear hg gg
  rw [HO.out]
  go_wp2_with fail
  refine (mul64_v x y HX.out HY.out _).mono ?_
  rintro e w8 ⟨hi, lo, rfl, hg, hhi, hlo, hp⟩
  replace k_a := hg.cell k_a
  replace k_b := hg.cell k_b
  replace k_s := hg.cell k_s
  replace k_p := hg.cell k_p
  have gg := (Gr.refl w7).trans hg
  replace R_a := Lib.hid (R_a.out.grow gg)
  replace R_b := Lib.hid (R_b.out.grow gg)
  replace R_s := Lib.hid (R_s.out.grow gg)
  replace R_p := Lib.hid (R_p.out.grow gg)
  replace G := Lib.hid (G.out.trans gg)
  clear hg gg
  have HP := Lib.hid hp
  clear hp
  go_wp2_with fail
  refine (equal_v0 _ _ _ (x + y) (by have := HX.out; have := HY.out; omega) _ (R_s.out.grow (Gr.refl w8))).mono ?_
  rintro e w9 ⟨rfl, hg⟩
  replace k_a := hg.cell k_a
  replace k_b := hg.cell k_b
  replace k_s := hg.cell k_s
  replace k_p := hg.cell k_p
  have gg := (Gr.refl w8).trans hg
  replace R_a := Lib.hid (R_a.out.grow gg)
  replace R_b := Lib.hid (R_b.out.grow gg)
  replace R_s := Lib.hid (R_s.out.grow gg)
  replace R_p := Lib.hid (R_p.out.grow gg)
  replace G := Lib.hid (G.out.trans gg)
  clear hg gg
  go_wp2_with fail
  refine (equal_v _ _ _ lo hi (x * y) hlo hhi HP.out _ (R_p.out.grow (Gr.refl w9))).mono ?_
  rintro e w10 ⟨rfl, hg⟩
  replace k_a := hg.cell k_a
  replace k_b := hg.cell k_b
  replace k_s := hg.cell k_s
  replace k_p := hg.cell k_p
  have gg := (Gr.refl w9).trans hg
  replace R_a := Lib.hid (R_a.out.grow gg)
  replace R_b := Lib.hid (R_b.out.grow gg)
  replace R_s := Lib.hid (R_s.out.grow gg)
  replace R_p := Lib.hid (R_p.out.grow gg)
  replace G := Lib.hid (G.out.trans gg)
  clear hg gg
  clear k_s
  clear R_s
  clear k_p
  clear R_p
  go_wp2_with fail
  refine (Div_v HD.out (R_a.out.grow (Gr.refl w10)) (R_b.out.grow (Gr.refl w10)) (small_pw HX.out) (small_pw HY.out)).mono ?_
  rintro e w11 ⟨pq, pr, nq, cq, nr, cr, rfl, hr_q, hr_r, hg⟩
  replace k_a := hg.cell k_a
  replace k_b := hg.cell k_b
  have gg := (Gr.refl w10).trans hg
  replace R_a := Lib.hid (R_a.out.grow gg)
  replace R_b := Lib.hid (R_b.out.grow gg)
  replace G := Lib.hid (G.out.trans gg)
  have R_q := Lib.hid hr_q.toNw
  clear hr_q
  have R_r := Lib.hid hr_r.toNw
  clear hr_r
  clear hg gg
  clear k_a
  clear R_a
  clear k_b
  clear R_b
  have k_q : (w11.alloc (.cells #[.slice pq nq cq] 24)).cell? ⟨w11.heap.size, 0, none⟩ = some (.slice pq nq cq) := by simp [go_sem]
  replace k_q := ((Gr.refl (w11.alloc (.cells #[.slice pq nq cq] 24))).alloc (.cells #[.slice pr nr cr] 24)).cell k_q
  have k_r : ((w11.alloc (.cells #[.slice pq nq cq] 24)).alloc (.cells #[.slice pr nr cr] 24)).cell? ⟨w11.heap.size + 1, 0, none⟩ = some (.slice pr nr cr) := by simp [go_sem]
  have GA := (((Gr.refl w11).alloc (.cells #[.slice pq nq cq] 24)).alloc (.cells #[.slice pr nr cr] 24))
  have HE1 := Lib.hid (fun W (hW : Gr w11 W) => equal_v0 pq nq cq (x / y) (by have := HX.out; have := Nat.div_le_self x y; omega) W (R_q.out.grow hW))
  have HE2 := Lib.hid (fun W (hW : Gr w11 W) => equal_v0 pr nr cr (x % y) (by have := HY.out; have := Nat.mod_lt x HD.out; omega) W (R_r.out.grow hW))
  obtain ⟨Q, hQ⟩ : ∃ Q, x / y = Q := ⟨_, rfl⟩
  obtain ⟨R, hR⟩ : ∃ R, x % y = R := ⟨_, rfl⟩
  have lQ : Q < 9223372036854775808 := by have := HX.out; have := Nat.div_le_self x y; omega
  have lR : R < 9223372036854775808 := by have := HX.out; have := Nat.mod_le x y; omega
  have tq : (x : Int).tdiv (y : Int) = (Q : Int) := by rw [Int.tdiv_eq_ediv_of_nonneg (by omega), ← Int.natCast_ediv, hQ]
  have tr : (x : Int).tmod (y : Int) = (R : Int) := by rw [Int.tmod_eq_emod_of_nonneg (by omega), ← Int.natCast_emod, hR]
  have wq : IntKind.i64.wrap (Q : Int) = (Q : Int) := IntWalk.i64_in _ (by omega)
  have wr : IntKind.i64.wrap (R : Int) = (R : Int) := IntWalk.i64_in _ (by omega)
  have uq : IntKind.u64.wrap (Q : Int) = (Q : Int) := by rw [IntKind.wrap_u64]; omega
  have ur : IntKind.u64.wrap (R : Int) = (R : Int) := by rw [IntKind.wrap_u64]; omega
  rw [hQ] at HE1
  rw [hR] at HE2
  clear hQ hR lQ lR R_q R_r hhi hlo HP
  go_wp2_with fail
  generalize ((w11.alloc (.cells #[.slice pq nq cq] 24)).alloc (.cells #[.slice pr nr cr] 24)) = WE at *
  have K1 : WE.drew.cell? ⟨w11.heap.size, 0, none⟩ = some (.slice pq nq cq) := k_q
  have K2 : WE.drew.cell? ⟨w11.heap.size + 1, 0, none⟩ = some (.slice pr nr cr) := k_r
  have GD : Gr w11 WE.drew := GA.drew
  clear k_q k_r
  go_region_held3 (fun W' => W'.cell? ⟨w11.heap.size, 0, none⟩ = some (.slice pq nq cq) ∧ W'.cell? ⟨w11.heap.size + 1, 0, none⟩ = some (.slice pr nr cr) ∧ Gr w11 W')
    (first | exact ⟨K1, K2, GD⟩ | exact ⟨z1, z2, z3⟩ | exact ⟨y1, y2, y3⟩)
    (first
    | (go_at_call_of 47 pq; refine (HE1.out _ ?_).mono ?_; exact GD; rintro e w' ⟨rfl, hg⟩; have z1 := hg.cell K1; have z2 := hg.cell K2; have z3 := GD.trans hg)
    | (go_at_call_of 47 pr; refine (HE2.out _ ?_).mono ?_; exact z3; rintro e w' ⟨rfl, hg2⟩; have y1 := hg2.cell z1; have y2 := hg2.cell z2; have y3 := z3.trans hg2))
  go_wp2
  go_ret
  exact ⟨rfl, G.out.trans y3⟩


set_option maxRecDepth 100000 in
set_option maxHeartbeats 8000000 in
theorem ok_gt (x y : Nat) (hx : x < 9223372036854775808) (hy : y < 9223372036854775808) (hy0 : 0 < y) (ho : y < x) (w : World) : Calls Try.prog 9 #[.int .i64 (x : Int), .int .i64 (y : Int)] w fun e w' => e = .returned (.bool true) ∧ Gr w w' := by
  have HX := Lib.hid hx
  have HY := Lib.hid hy
  have HO : Hid (ord x y = 1) := Lib.hid (ord_gt ho)
  have hx0 : ¬ (x : Int) < 0 := by omega
  have ux : IntKind.u64.wrap (x : Int) = (x : Int) := by rw [IntKind.wrap_u64]; omega
  have uy : IntKind.u64.wrap (y : Int) = (y : Int) := by rw [IntKind.wrap_u64]; omega
  have us : IntKind.u64.wrap ((x : Int) + (y : Int)) = ((x + y : Nat) : Int) := by rw [IntKind.wrap_u64]; omega
  have hy1 : ¬ (y : Int) < 0 := by omega
  have ho1 : ¬ (x : Int) < (y : Int) := by omega
  have ho2 : (y : Int) < (x : Int) := by omega
  have hyz : ((y : Int) == 0) = false := by simp; omega
  have hyn : ¬ (y : Int) = 0 := by omega
  have hyn2 : ¬ y = 0 := by omega
  have HD := Lib.hid hy0
  clear hx hy ho hy0
  go_enter Try.func9, Try.ntmps9
  have G := Lib.hid (Gr.refl w)
  go_wp2_with fail
  refine (awake_any _).mono ?_
  rintro e w1 ⟨rfl, hg⟩
  have gg := (Gr.refl w).trans hg
  replace G := Lib.hid (G.out.trans gg)
  clear hg gg
  go_wp2_with fail
  refine (Of_v HX.out).mono ?_
  rintro e w2 ⟨pa, na, ca, rfl, hr_a, hg⟩
  have gg := (Gr.refl w1).trans hg
  replace G := Lib.hid (G.out.trans gg)
  have R_a := Lib.hid hr_a.toNw
  clear hr_a
  clear hg gg
  have k_a : (w2.alloc (.cells #[.slice pa na ca] 24)).cell? ⟨w2.heap.size, 0, none⟩ = some (.slice pa na ca) := by simp [go_sem]
  go_wp2_with fail
  refine (Of_v HY.out).mono ?_
  rintro e w3 ⟨pb, nb, cb, rfl, hr_b, hg⟩
  replace k_a := hg.cell k_a
  have gg := ((Gr.refl w2).alloc (.cells #[.slice pa na ca] 24)).trans hg
  replace R_a := Lib.hid (R_a.out.grow gg)
  replace G := Lib.hid (G.out.trans gg)
  have R_b := Lib.hid hr_b.toNw
  clear hr_b
  clear hg gg
  replace k_a := ((Gr.refl w3).alloc (.cells #[.slice pb nb cb] 24)).cell k_a
  have k_b : (w3.alloc (.cells #[.slice pb nb cb] 24)).cell? ⟨w3.heap.size, 0, none⟩ = some (.slice pb nb cb) := by simp [go_sem]
  go_wp2_with fail
  refine (Int_v HX.out (R_a.out.grow ((Gr.refl w3).alloc (.cells #[.slice pb nb cb] 24)))).mono ?_
  rintro e w4 ⟨rfl, hg⟩
  replace k_a := hg.cell k_a
  replace k_b := hg.cell k_b
  have gg := ((Gr.refl w3).alloc (.cells #[.slice pb nb cb] 24)).trans hg
  replace R_a := Lib.hid (R_a.out.grow gg)
  replace R_b := Lib.hid (R_b.out.grow gg)
  replace G := Lib.hid (G.out.trans gg)
  clear hg gg
  go_wp2_with fail
  refine (Add_v _ 0 (sum_fits HX.out HY.out) (R_a.out.grow (Gr.refl w4)) (R_b.out.grow (Gr.refl w4)) (small_pw HX.out) (small_pw HY.out)).mono ?_
  rintro e w5 ⟨ps, ns, cs, rfl, hr_s, hg⟩
  replace k_a := hg.cell k_a
  replace k_b := hg.cell k_b
  have gg := (Gr.refl w4).trans hg
  replace R_a := Lib.hid (R_a.out.grow gg)
  replace R_b := Lib.hid (R_b.out.grow gg)
  replace G := Lib.hid (G.out.trans gg)
  have R_s := Lib.hid hr_s.toNw
  clear hr_s
  clear hg gg
  replace k_a := ((Gr.refl w5).alloc (.cells #[.slice ps ns cs] 24)).cell k_a
  replace k_b := ((Gr.refl w5).alloc (.cells #[.slice ps ns cs] 24)).cell k_b
  have k_s : (w5.alloc (.cells #[.slice ps ns cs] 24)).cell? ⟨w5.heap.size, 0, none⟩ = some (.slice ps ns cs) := by simp [go_sem]
  go_wp2_with fail
  refine (Mul_v _ 0 (mul_fits HX.out HY.out) (R_a.out.grow ((Gr.refl w5).alloc (.cells #[.slice ps ns cs] 24))) (R_b.out.grow ((Gr.refl w5).alloc (.cells #[.slice ps ns cs] 24))) (small_pw HX.out) (small_pw HY.out)).mono ?_
  rintro e w6 ⟨pp, np, cp, rfl, hr_p, hg⟩
  replace k_a := hg.cell k_a
  replace k_b := hg.cell k_b
  replace k_s := hg.cell k_s
  have gg := ((Gr.refl w5).alloc (.cells #[.slice ps ns cs] 24)).trans hg
  replace R_a := Lib.hid (R_a.out.grow gg)
  replace R_b := Lib.hid (R_b.out.grow gg)
  replace R_s := Lib.hid (R_s.out.grow gg)
  replace G := Lib.hid (G.out.trans gg)
  have R_p := Lib.hid hr_p.toNw
  clear hr_p
  clear hg gg
  replace k_a := ((Gr.refl w6).alloc (.cells #[.slice pp np cp] 24)).cell k_a
  replace k_b := ((Gr.refl w6).alloc (.cells #[.slice pp np cp] 24)).cell k_b
  replace k_s := ((Gr.refl w6).alloc (.cells #[.slice pp np cp] 24)).cell k_s
  have k_p : (w6.alloc (.cells #[.slice pp np cp] 24)).cell? ⟨w6.heap.size, 0, none⟩ = some (.slice pp np cp) := by simp [go_sem]
  go_wp2_with fail
  refine (Compare_v (R_a.out.grow ((Gr.refl w6).alloc (.cells #[.slice pp np cp] 24))) (R_b.out.grow ((Gr.refl w6).alloc (.cells #[.slice pp np cp] 24))) (small_pw HX.out) (small_pw HY.out)).mono ?_
  rintro e w7 ⟨rfl, hg⟩
  replace k_a := hg.cell k_a
  replace k_b := hg.cell k_b
  replace k_s := hg.cell k_s
  replace k_p := hg.cell k_p
  have gg := ((Gr.refl w6).alloc (.cells #[.slice pp np cp] 24)).trans hg
  replace R_a := Lib.hid (R_a.out.grow gg)
  replace R_b := Lib.hid (R_b.out.grow gg)
  replace R_s := Lib.hid (R_s.out.grow gg)
  replace R_p := Lib.hid (R_p.out.grow gg)
  replace G := Lib.hid (G.out.trans gg)
  clear hg gg
  rw [HO.out]
  go_wp2_with fail
  refine (mul64_v x y HX.out HY.out _).mono ?_
  rintro e w8 ⟨hi, lo, rfl, hg, hhi, hlo, hp⟩
  replace k_a := hg.cell k_a
  replace k_b := hg.cell k_b
  replace k_s := hg.cell k_s
  replace k_p := hg.cell k_p
  have gg := (Gr.refl w7).trans hg
  replace R_a := Lib.hid (R_a.out.grow gg)
  replace R_b := Lib.hid (R_b.out.grow gg)
  replace R_s := Lib.hid (R_s.out.grow gg)
  replace R_p := Lib.hid (R_p.out.grow gg)
  replace G := Lib.hid (G.out.trans gg)
  clear hg gg
  have HP := Lib.hid hp
  clear hp
  go_wp2_with fail
  refine (equal_v0 _ _ _ (x + y) (by have := HX.out; have := HY.out; omega) _ (R_s.out.grow (Gr.refl w8))).mono ?_
  rintro e w9 ⟨rfl, hg⟩
  replace k_a := hg.cell k_a
  replace k_b := hg.cell k_b
  replace k_s := hg.cell k_s
  replace k_p := hg.cell k_p
  have gg := (Gr.refl w8).trans hg
  replace R_a := Lib.hid (R_a.out.grow gg)
  replace R_b := Lib.hid (R_b.out.grow gg)
  replace R_s := Lib.hid (R_s.out.grow gg)
  replace R_p := Lib.hid (R_p.out.grow gg)
  replace G := Lib.hid (G.out.trans gg)
  clear hg gg
  go_wp2_with fail
  refine (equal_v _ _ _ lo hi (x * y) hlo hhi HP.out _ (R_p.out.grow (Gr.refl w9))).mono ?_
  rintro e w10 ⟨rfl, hg⟩
  replace k_a := hg.cell k_a
  replace k_b := hg.cell k_b
  replace k_s := hg.cell k_s
  replace k_p := hg.cell k_p
  have gg := (Gr.refl w9).trans hg
  replace R_a := Lib.hid (R_a.out.grow gg)
  replace R_b := Lib.hid (R_b.out.grow gg)
  replace R_s := Lib.hid (R_s.out.grow gg)
  replace R_p := Lib.hid (R_p.out.grow gg)
  replace G := Lib.hid (G.out.trans gg)
  clear hg gg
  clear k_s
  clear R_s
  clear k_p
  clear R_p
  go_wp2_with fail
  refine (Div_v HD.out (R_a.out.grow (Gr.refl w10)) (R_b.out.grow (Gr.refl w10)) (small_pw HX.out) (small_pw HY.out)).mono ?_
  rintro e w11 ⟨pq, pr, nq, cq, nr, cr, rfl, hr_q, hr_r, hg⟩
  replace k_a := hg.cell k_a
  replace k_b := hg.cell k_b
  have gg := (Gr.refl w10).trans hg
  replace R_a := Lib.hid (R_a.out.grow gg)
  replace R_b := Lib.hid (R_b.out.grow gg)
  replace G := Lib.hid (G.out.trans gg)
  have R_q := Lib.hid hr_q.toNw
  clear hr_q
  have R_r := Lib.hid hr_r.toNw
  clear hr_r
  clear hg gg
  clear k_a
  clear R_a
  clear k_b
  clear R_b
  have k_q : (w11.alloc (.cells #[.slice pq nq cq] 24)).cell? ⟨w11.heap.size, 0, none⟩ = some (.slice pq nq cq) := by simp [go_sem]
  replace k_q := ((Gr.refl (w11.alloc (.cells #[.slice pq nq cq] 24))).alloc (.cells #[.slice pr nr cr] 24)).cell k_q
  have k_r : ((w11.alloc (.cells #[.slice pq nq cq] 24)).alloc (.cells #[.slice pr nr cr] 24)).cell? ⟨w11.heap.size + 1, 0, none⟩ = some (.slice pr nr cr) := by simp [go_sem]
  have GA := (((Gr.refl w11).alloc (.cells #[.slice pq nq cq] 24)).alloc (.cells #[.slice pr nr cr] 24))
  have HE1 := Lib.hid (fun W (hW : Gr w11 W) => equal_v0 pq nq cq (x / y) (by have := HX.out; have := Nat.div_le_self x y; omega) W (R_q.out.grow hW))
  have HE2 := Lib.hid (fun W (hW : Gr w11 W) => equal_v0 pr nr cr (x % y) (by have := HY.out; have := Nat.mod_lt x HD.out; omega) W (R_r.out.grow hW))
  obtain ⟨Q, hQ⟩ : ∃ Q, x / y = Q := ⟨_, rfl⟩
  obtain ⟨R, hR⟩ : ∃ R, x % y = R := ⟨_, rfl⟩
  have lQ : Q < 9223372036854775808 := by have := HX.out; have := Nat.div_le_self x y; omega
  have lR : R < 9223372036854775808 := by have := HX.out; have := Nat.mod_le x y; omega
  have tq : (x : Int).tdiv (y : Int) = (Q : Int) := by rw [Int.tdiv_eq_ediv_of_nonneg (by omega), ← Int.natCast_ediv, hQ]
  have tr : (x : Int).tmod (y : Int) = (R : Int) := by rw [Int.tmod_eq_emod_of_nonneg (by omega), ← Int.natCast_emod, hR]
  have wq : IntKind.i64.wrap (Q : Int) = (Q : Int) := IntWalk.i64_in _ (by omega)
  have wr : IntKind.i64.wrap (R : Int) = (R : Int) := IntWalk.i64_in _ (by omega)
  have uq : IntKind.u64.wrap (Q : Int) = (Q : Int) := by rw [IntKind.wrap_u64]; omega
  have ur : IntKind.u64.wrap (R : Int) = (R : Int) := by rw [IntKind.wrap_u64]; omega
  rw [hQ] at HE1
  rw [hR] at HE2
  clear hQ hR lQ lR R_q R_r hhi hlo HP
  go_wp2_with fail
  generalize ((w11.alloc (.cells #[.slice pq nq cq] 24)).alloc (.cells #[.slice pr nr cr] 24)) = WE at *
  have K1 : WE.drew.cell? ⟨w11.heap.size, 0, none⟩ = some (.slice pq nq cq) := k_q
  have K2 : WE.drew.cell? ⟨w11.heap.size + 1, 0, none⟩ = some (.slice pr nr cr) := k_r
  have GD : Gr w11 WE.drew := GA.drew
  clear k_q k_r
  go_region_held3 (fun W' => W'.cell? ⟨w11.heap.size, 0, none⟩ = some (.slice pq nq cq) ∧ W'.cell? ⟨w11.heap.size + 1, 0, none⟩ = some (.slice pr nr cr) ∧ Gr w11 W')
    (first | exact ⟨K1, K2, GD⟩ | exact ⟨z1, z2, z3⟩ | exact ⟨y1, y2, y3⟩)
    (first
    | (go_at_call_of 47 pq; refine (HE1.out _ ?_).mono ?_; exact GD; rintro e w' ⟨rfl, hg⟩; have z1 := hg.cell K1; have z2 := hg.cell K2; have z3 := GD.trans hg)
    | (go_at_call_of 47 pr; refine (HE2.out _ ?_).mono ?_; exact z3; rintro e w' ⟨rfl, hg2⟩; have y1 := hg2.cell z1; have y2 := hg2.cell z2; have y3 := z3.trans hg2))
  go_wp2
  go_ret
  exact ⟨rfl, G.out.trans y3⟩


set_option maxRecDepth 100000 in
set_option maxHeartbeats 8000000 in
theorem zero_eq (x y : Nat) (hx : x < 9223372036854775808) (hy : y < 9223372036854775808) (hy0 : y = 0) (ho : x = y) (w : World) : Calls Try.prog 9 #[.int .i64 (x : Int), .int .i64 (y : Int)] w fun e w' => e = .returned (.bool true) ∧ Gr w w' := by
  have HX := Lib.hid hx
  have HY := Lib.hid hy
  have HO : Hid (ord x y = 0) := Lib.hid (by rw [ho]; exact ord_eq y)
  have hx0 : ¬ (x : Int) < 0 := by omega
  have ux : IntKind.u64.wrap (x : Int) = (x : Int) := by rw [IntKind.wrap_u64]; omega
  have uy : IntKind.u64.wrap (y : Int) = (y : Int) := by rw [IntKind.wrap_u64]; omega
  have us : IntKind.u64.wrap ((x : Int) + (y : Int)) = ((x + y : Nat) : Int) := by rw [IntKind.wrap_u64]; omega
  have hy1 : ¬ (y : Int) < 0 := by omega
  have ho1 : ¬ (x : Int) < (y : Int) := by omega
  have ho2 : ¬ (y : Int) < (x : Int) := by omega
  have hyz : ((y : Int) == 0) = true := by simp; omega
  clear hx hy ho hy0
  go_enter Try.func9, Try.ntmps9
  have G := Lib.hid (Gr.refl w)
  go_wp2_with fail
  refine (awake_any _).mono ?_
  rintro e w1 ⟨rfl, hg⟩
  have gg := (Gr.refl w).trans hg
  replace G := Lib.hid (G.out.trans gg)
  clear hg gg
  go_wp2_with fail
  refine (Of_v HX.out).mono ?_
  rintro e w2 ⟨pa, na, ca, rfl, hr_a, hg⟩
  have gg := (Gr.refl w1).trans hg
  replace G := Lib.hid (G.out.trans gg)
  have R_a := Lib.hid hr_a.toNw
  clear hr_a
  clear hg gg
  have k_a : (w2.alloc (.cells #[.slice pa na ca] 24)).cell? ⟨w2.heap.size, 0, none⟩ = some (.slice pa na ca) := by simp [go_sem]
  go_wp2_with fail
  refine (Of_v HY.out).mono ?_
  rintro e w3 ⟨pb, nb, cb, rfl, hr_b, hg⟩
  replace k_a := hg.cell k_a
  have gg := ((Gr.refl w2).alloc (.cells #[.slice pa na ca] 24)).trans hg
  replace R_a := Lib.hid (R_a.out.grow gg)
  replace G := Lib.hid (G.out.trans gg)
  have R_b := Lib.hid hr_b.toNw
  clear hr_b
  clear hg gg
  replace k_a := ((Gr.refl w3).alloc (.cells #[.slice pb nb cb] 24)).cell k_a
  have k_b : (w3.alloc (.cells #[.slice pb nb cb] 24)).cell? ⟨w3.heap.size, 0, none⟩ = some (.slice pb nb cb) := by simp [go_sem]
  go_wp2_with fail
  refine (Int_v HX.out (R_a.out.grow ((Gr.refl w3).alloc (.cells #[.slice pb nb cb] 24)))).mono ?_
  rintro e w4 ⟨rfl, hg⟩
  replace k_a := hg.cell k_a
  replace k_b := hg.cell k_b
  have gg := ((Gr.refl w3).alloc (.cells #[.slice pb nb cb] 24)).trans hg
  replace R_a := Lib.hid (R_a.out.grow gg)
  replace R_b := Lib.hid (R_b.out.grow gg)
  replace G := Lib.hid (G.out.trans gg)
  clear hg gg
  go_wp2_with fail
  refine (Add_v _ 0 (sum_fits HX.out HY.out) (R_a.out.grow (Gr.refl w4)) (R_b.out.grow (Gr.refl w4)) (small_pw HX.out) (small_pw HY.out)).mono ?_
  rintro e w5 ⟨ps, ns, cs, rfl, hr_s, hg⟩
  replace k_a := hg.cell k_a
  replace k_b := hg.cell k_b
  have gg := (Gr.refl w4).trans hg
  replace R_a := Lib.hid (R_a.out.grow gg)
  replace R_b := Lib.hid (R_b.out.grow gg)
  replace G := Lib.hid (G.out.trans gg)
  have R_s := Lib.hid hr_s.toNw
  clear hr_s
  clear hg gg
  replace k_a := ((Gr.refl w5).alloc (.cells #[.slice ps ns cs] 24)).cell k_a
  replace k_b := ((Gr.refl w5).alloc (.cells #[.slice ps ns cs] 24)).cell k_b
  have k_s : (w5.alloc (.cells #[.slice ps ns cs] 24)).cell? ⟨w5.heap.size, 0, none⟩ = some (.slice ps ns cs) := by simp [go_sem]
  go_wp2_with fail
  refine (Mul_v _ 0 (mul_fits HX.out HY.out) (R_a.out.grow ((Gr.refl w5).alloc (.cells #[.slice ps ns cs] 24))) (R_b.out.grow ((Gr.refl w5).alloc (.cells #[.slice ps ns cs] 24))) (small_pw HX.out) (small_pw HY.out)).mono ?_
  rintro e w6 ⟨pp, np, cp, rfl, hr_p, hg⟩
  replace k_a := hg.cell k_a
  replace k_b := hg.cell k_b
  replace k_s := hg.cell k_s
  have gg := ((Gr.refl w5).alloc (.cells #[.slice ps ns cs] 24)).trans hg
  replace R_a := Lib.hid (R_a.out.grow gg)
  replace R_b := Lib.hid (R_b.out.grow gg)
  replace R_s := Lib.hid (R_s.out.grow gg)
  replace G := Lib.hid (G.out.trans gg)
  have R_p := Lib.hid hr_p.toNw
  clear hr_p
  clear hg gg
  replace k_a := ((Gr.refl w6).alloc (.cells #[.slice pp np cp] 24)).cell k_a
  replace k_b := ((Gr.refl w6).alloc (.cells #[.slice pp np cp] 24)).cell k_b
  replace k_s := ((Gr.refl w6).alloc (.cells #[.slice pp np cp] 24)).cell k_s
  have k_p : (w6.alloc (.cells #[.slice pp np cp] 24)).cell? ⟨w6.heap.size, 0, none⟩ = some (.slice pp np cp) := by simp [go_sem]
  go_wp2_with fail
  refine (Compare_v (R_a.out.grow ((Gr.refl w6).alloc (.cells #[.slice pp np cp] 24))) (R_b.out.grow ((Gr.refl w6).alloc (.cells #[.slice pp np cp] 24))) (small_pw HX.out) (small_pw HY.out)).mono ?_
  rintro e w7 ⟨rfl, hg⟩
  replace k_a := hg.cell k_a
  replace k_b := hg.cell k_b
  replace k_s := hg.cell k_s
  replace k_p := hg.cell k_p
  have gg := ((Gr.refl w6).alloc (.cells #[.slice pp np cp] 24)).trans hg
  replace R_a := Lib.hid (R_a.out.grow gg)
  replace R_b := Lib.hid (R_b.out.grow gg)
  replace R_s := Lib.hid (R_s.out.grow gg)
  replace R_p := Lib.hid (R_p.out.grow gg)
  replace G := Lib.hid (G.out.trans gg)
  clear hg gg
  rw [HO.out]
  go_wp2_with fail
  refine (mul64_v x y HX.out HY.out _).mono ?_
  rintro e w8 ⟨hi, lo, rfl, hg, hhi, hlo, hp⟩
  replace k_a := hg.cell k_a
  replace k_b := hg.cell k_b
  replace k_s := hg.cell k_s
  replace k_p := hg.cell k_p
  have gg := (Gr.refl w7).trans hg
  replace R_a := Lib.hid (R_a.out.grow gg)
  replace R_b := Lib.hid (R_b.out.grow gg)
  replace R_s := Lib.hid (R_s.out.grow gg)
  replace R_p := Lib.hid (R_p.out.grow gg)
  replace G := Lib.hid (G.out.trans gg)
  clear hg gg
  have HP := Lib.hid hp
  clear hp
  go_wp2_with fail
  refine (equal_v0 _ _ _ (x + y) (by have := HX.out; have := HY.out; omega) _ (R_s.out.grow (Gr.refl w8))).mono ?_
  rintro e w9 ⟨rfl, hg⟩
  replace k_a := hg.cell k_a
  replace k_b := hg.cell k_b
  replace k_s := hg.cell k_s
  replace k_p := hg.cell k_p
  have gg := (Gr.refl w8).trans hg
  replace R_a := Lib.hid (R_a.out.grow gg)
  replace R_b := Lib.hid (R_b.out.grow gg)
  replace R_s := Lib.hid (R_s.out.grow gg)
  replace R_p := Lib.hid (R_p.out.grow gg)
  replace G := Lib.hid (G.out.trans gg)
  clear hg gg
  go_wp2_with fail
  refine (equal_v _ _ _ lo hi (x * y) hlo hhi HP.out _ (R_p.out.grow (Gr.refl w9))).mono ?_
  rintro e w10 ⟨rfl, hg⟩
  replace k_a := hg.cell k_a
  replace k_b := hg.cell k_b
  replace k_s := hg.cell k_s
  replace k_p := hg.cell k_p
  have gg := (Gr.refl w9).trans hg
  replace R_a := Lib.hid (R_a.out.grow gg)
  replace R_b := Lib.hid (R_b.out.grow gg)
  replace R_s := Lib.hid (R_s.out.grow gg)
  replace R_p := Lib.hid (R_p.out.grow gg)
  replace G := Lib.hid (G.out.trans gg)
  clear hg gg
  clear k_s
  clear R_s
  clear k_p
  clear R_p
  go_wp2
  go_ret
  exact ⟨rfl, G.out⟩


set_option maxRecDepth 100000 in
set_option maxHeartbeats 8000000 in
theorem zero_gt (x y : Nat) (hx : x < 9223372036854775808) (hy : y < 9223372036854775808) (hy0 : y = 0) (ho : y < x) (w : World) : Calls Try.prog 9 #[.int .i64 (x : Int), .int .i64 (y : Int)] w fun e w' => e = .returned (.bool true) ∧ Gr w w' := by
  have HX := Lib.hid hx
  have HY := Lib.hid hy
  have HO : Hid (ord x y = 1) := Lib.hid (ord_gt ho)
  have hx0 : ¬ (x : Int) < 0 := by omega
  have ux : IntKind.u64.wrap (x : Int) = (x : Int) := by rw [IntKind.wrap_u64]; omega
  have uy : IntKind.u64.wrap (y : Int) = (y : Int) := by rw [IntKind.wrap_u64]; omega
  have us : IntKind.u64.wrap ((x : Int) + (y : Int)) = ((x + y : Nat) : Int) := by rw [IntKind.wrap_u64]; omega
  have hy1 : ¬ (y : Int) < 0 := by omega
  have ho1 : ¬ (x : Int) < (y : Int) := by omega
  have ho2 : (y : Int) < (x : Int) := by omega
  have hyz : ((y : Int) == 0) = true := by simp; omega
  clear hx hy ho hy0
  go_enter Try.func9, Try.ntmps9
  have G := Lib.hid (Gr.refl w)
  go_wp2_with fail
  refine (awake_any _).mono ?_
  rintro e w1 ⟨rfl, hg⟩
  have gg := (Gr.refl w).trans hg
  replace G := Lib.hid (G.out.trans gg)
  clear hg gg
  go_wp2_with fail
  refine (Of_v HX.out).mono ?_
  rintro e w2 ⟨pa, na, ca, rfl, hr_a, hg⟩
  have gg := (Gr.refl w1).trans hg
  replace G := Lib.hid (G.out.trans gg)
  have R_a := Lib.hid hr_a.toNw
  clear hr_a
  clear hg gg
  have k_a : (w2.alloc (.cells #[.slice pa na ca] 24)).cell? ⟨w2.heap.size, 0, none⟩ = some (.slice pa na ca) := by simp [go_sem]
  go_wp2_with fail
  refine (Of_v HY.out).mono ?_
  rintro e w3 ⟨pb, nb, cb, rfl, hr_b, hg⟩
  replace k_a := hg.cell k_a
  have gg := ((Gr.refl w2).alloc (.cells #[.slice pa na ca] 24)).trans hg
  replace R_a := Lib.hid (R_a.out.grow gg)
  replace G := Lib.hid (G.out.trans gg)
  have R_b := Lib.hid hr_b.toNw
  clear hr_b
  clear hg gg
  replace k_a := ((Gr.refl w3).alloc (.cells #[.slice pb nb cb] 24)).cell k_a
  have k_b : (w3.alloc (.cells #[.slice pb nb cb] 24)).cell? ⟨w3.heap.size, 0, none⟩ = some (.slice pb nb cb) := by simp [go_sem]
  go_wp2_with fail
  refine (Int_v HX.out (R_a.out.grow ((Gr.refl w3).alloc (.cells #[.slice pb nb cb] 24)))).mono ?_
  rintro e w4 ⟨rfl, hg⟩
  replace k_a := hg.cell k_a
  replace k_b := hg.cell k_b
  have gg := ((Gr.refl w3).alloc (.cells #[.slice pb nb cb] 24)).trans hg
  replace R_a := Lib.hid (R_a.out.grow gg)
  replace R_b := Lib.hid (R_b.out.grow gg)
  replace G := Lib.hid (G.out.trans gg)
  clear hg gg
  go_wp2_with fail
  refine (Add_v _ 0 (sum_fits HX.out HY.out) (R_a.out.grow (Gr.refl w4)) (R_b.out.grow (Gr.refl w4)) (small_pw HX.out) (small_pw HY.out)).mono ?_
  rintro e w5 ⟨ps, ns, cs, rfl, hr_s, hg⟩
  replace k_a := hg.cell k_a
  replace k_b := hg.cell k_b
  have gg := (Gr.refl w4).trans hg
  replace R_a := Lib.hid (R_a.out.grow gg)
  replace R_b := Lib.hid (R_b.out.grow gg)
  replace G := Lib.hid (G.out.trans gg)
  have R_s := Lib.hid hr_s.toNw
  clear hr_s
  clear hg gg
  replace k_a := ((Gr.refl w5).alloc (.cells #[.slice ps ns cs] 24)).cell k_a
  replace k_b := ((Gr.refl w5).alloc (.cells #[.slice ps ns cs] 24)).cell k_b
  have k_s : (w5.alloc (.cells #[.slice ps ns cs] 24)).cell? ⟨w5.heap.size, 0, none⟩ = some (.slice ps ns cs) := by simp [go_sem]
  go_wp2_with fail
  refine (Mul_v _ 0 (mul_fits HX.out HY.out) (R_a.out.grow ((Gr.refl w5).alloc (.cells #[.slice ps ns cs] 24))) (R_b.out.grow ((Gr.refl w5).alloc (.cells #[.slice ps ns cs] 24))) (small_pw HX.out) (small_pw HY.out)).mono ?_
  rintro e w6 ⟨pp, np, cp, rfl, hr_p, hg⟩
  replace k_a := hg.cell k_a
  replace k_b := hg.cell k_b
  replace k_s := hg.cell k_s
  have gg := ((Gr.refl w5).alloc (.cells #[.slice ps ns cs] 24)).trans hg
  replace R_a := Lib.hid (R_a.out.grow gg)
  replace R_b := Lib.hid (R_b.out.grow gg)
  replace R_s := Lib.hid (R_s.out.grow gg)
  replace G := Lib.hid (G.out.trans gg)
  have R_p := Lib.hid hr_p.toNw
  clear hr_p
  clear hg gg
  replace k_a := ((Gr.refl w6).alloc (.cells #[.slice pp np cp] 24)).cell k_a
  replace k_b := ((Gr.refl w6).alloc (.cells #[.slice pp np cp] 24)).cell k_b
  replace k_s := ((Gr.refl w6).alloc (.cells #[.slice pp np cp] 24)).cell k_s
  have k_p : (w6.alloc (.cells #[.slice pp np cp] 24)).cell? ⟨w6.heap.size, 0, none⟩ = some (.slice pp np cp) := by simp [go_sem]
  go_wp2_with fail
  refine (Compare_v (R_a.out.grow ((Gr.refl w6).alloc (.cells #[.slice pp np cp] 24))) (R_b.out.grow ((Gr.refl w6).alloc (.cells #[.slice pp np cp] 24))) (small_pw HX.out) (small_pw HY.out)).mono ?_
  rintro e w7 ⟨rfl, hg⟩
  replace k_a := hg.cell k_a
  replace k_b := hg.cell k_b
  replace k_s := hg.cell k_s
  replace k_p := hg.cell k_p
  have gg := ((Gr.refl w6).alloc (.cells #[.slice pp np cp] 24)).trans hg
  replace R_a := Lib.hid (R_a.out.grow gg)
  replace R_b := Lib.hid (R_b.out.grow gg)
  replace R_s := Lib.hid (R_s.out.grow gg)
  replace R_p := Lib.hid (R_p.out.grow gg)
  replace G := Lib.hid (G.out.trans gg)
  clear hg gg
  rw [HO.out]
  go_wp2_with fail
  refine (mul64_v x y HX.out HY.out _).mono ?_
  rintro e w8 ⟨hi, lo, rfl, hg, hhi, hlo, hp⟩
  replace k_a := hg.cell k_a
  replace k_b := hg.cell k_b
  replace k_s := hg.cell k_s
  replace k_p := hg.cell k_p
  have gg := (Gr.refl w7).trans hg
  replace R_a := Lib.hid (R_a.out.grow gg)
  replace R_b := Lib.hid (R_b.out.grow gg)
  replace R_s := Lib.hid (R_s.out.grow gg)
  replace R_p := Lib.hid (R_p.out.grow gg)
  replace G := Lib.hid (G.out.trans gg)
  clear hg gg
  have HP := Lib.hid hp
  clear hp
  go_wp2_with fail
  refine (equal_v0 _ _ _ (x + y) (by have := HX.out; have := HY.out; omega) _ (R_s.out.grow (Gr.refl w8))).mono ?_
  rintro e w9 ⟨rfl, hg⟩
  replace k_a := hg.cell k_a
  replace k_b := hg.cell k_b
  replace k_s := hg.cell k_s
  replace k_p := hg.cell k_p
  have gg := (Gr.refl w8).trans hg
  replace R_a := Lib.hid (R_a.out.grow gg)
  replace R_b := Lib.hid (R_b.out.grow gg)
  replace R_s := Lib.hid (R_s.out.grow gg)
  replace R_p := Lib.hid (R_p.out.grow gg)
  replace G := Lib.hid (G.out.trans gg)
  clear hg gg
  go_wp2_with fail
  refine (equal_v _ _ _ lo hi (x * y) hlo hhi HP.out _ (R_p.out.grow (Gr.refl w9))).mono ?_
  rintro e w10 ⟨rfl, hg⟩
  replace k_a := hg.cell k_a
  replace k_b := hg.cell k_b
  replace k_s := hg.cell k_s
  replace k_p := hg.cell k_p
  have gg := (Gr.refl w9).trans hg
  replace R_a := Lib.hid (R_a.out.grow gg)
  replace R_b := Lib.hid (R_b.out.grow gg)
  replace R_s := Lib.hid (R_s.out.grow gg)
  replace R_p := Lib.hid (R_p.out.grow gg)
  replace G := Lib.hid (G.out.trans gg)
  clear hg gg
  clear k_s
  clear R_s
  clear k_p
  clear R_p
  go_wp2
  go_ret
  exact ⟨rfl, G.out⟩


theorem NaturalWords (x y : Int) (wx : (Lit.int .i64 x).wf = true) (wy : (Lit.int .i64 y).wf = true) (w : World) : Calls Try.prog 9 #[.int .i64 x, .int .i64 y] w fun e w' => e = .returned (.bool true) ∧ Gr w w' := by
  have hx := i64_lt wx
  have hy := i64_lt wy
  by_cases h1 : x < 0
  · exact neg_x x y h1 w
  by_cases h2 : y < 0
  · exact neg_y x y h1 h2 w
  obtain ⟨x, rfl⟩ := Int.eq_ofNat_of_zero_le (show 0 ≤ x by omega)
  obtain ⟨y, rfl⟩ := Int.eq_ofNat_of_zero_le (show 0 ≤ y by omega)
  rcases Nat.eq_zero_or_pos y with h0 | h0
  · rcases Nat.lt_trichotomy x y with h | h | h
    · omega
    · exact zero_eq x y (by omega) (by omega) h0 h w
    · exact zero_gt x y (by omega) (by omega) h0 h w
  · rcases Nat.lt_trichotomy x y with h | h | h
    · exact ok_lt x y (by omega) (by omega) h0 h w
    · exact ok_eq x y (by omega) (by omega) h0 h w
    · exact ok_gt x y (by omega) (by omega) h0 h w
end Go.Proofs.Ytiefnhpbniaklaa.Nlwords
