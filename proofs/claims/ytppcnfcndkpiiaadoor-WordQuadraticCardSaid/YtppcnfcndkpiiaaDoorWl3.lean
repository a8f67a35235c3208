/- The walks of WordInverses, WordSolves and WordSymbols. -/
import Derived.Test.YtppcnfcndkpiiaaDoorWl2
namespace Go.Proofs.YtppcnfcndkpiiaaDoor.Wk
open Go.RowKit Go.Proofs.YtppcnfcndkpiiaaDoor.Wb Go.Proofs.YtppcnfcndkpiiaaDoor.Ww

set_option maxHeartbeats 1000000 in
theorem inverses_bad (a m c : Int) (hc : chk a 0 m = c) (h0 : c = 1 ∨ c = 2) (w : World) (hT : Tab w) :
    Calls Tryd.prog 6 #[.int .i64 a, .int .i64 m] w fun e w' => e = .returned (.bool true) ∧ ∃ n, w' = w.drewN n := by
  have Hc := Lib.hid hc
  have HA := Lib.hid (awake w hT)
  clear hc hT
  rcases h0 with rfl | rfl
  all_goals
    go_enter Tryd.func6, Tryd.ntmps6
    go_wp2_with fail
    refine HA.out.mono ?_
    rintro e w' ⟨rfl, n, rfl⟩
    go_wp2_with fail
    refine (Inverse_bad a m _ Hc.out (by decide) _).mono ?_
    rintro e w' ⟨rfl, rfl⟩
    go_wp2_with fail
    refine (Wr.Fault_any a 0 m _).mono ?_
    rintro e w' ⟨rfl, rfl⟩
    rw [Hc.out]
    go_wp2
    go_ret
    exact ⟨rfl, _, rfl⟩

set_option maxHeartbeats 1000000 in
theorem inverses_none (a m : Nat) (ha : a < m) (hm : m < 2305843009213693952) (hg : Nat.gcd a m ≠ 1) (w : World) (hT : Tab w) :
    Calls Tryd.prog 6 #[.int .i64 a, .int .i64 m] w fun e w' => e = .returned (.bool true) ∧ ∃ n, w' = w.drewN n := by
  have Hc := Lib.hid (chk_ok (b := 0) ha (by omega) hm)
  have HI := Lib.hid (fun w => Inverse_none a m ha hm hg w)
  have HG := Lib.hid (fun w => Wr.Gcd_any a m (by omega) (by omega) (by omega) (by omega) w)
  have HA := Lib.hid (awake w hT)
  clear hT
  rw [Wr.gcd_nat a m ha hm] at HG
  generalize Nat.gcd a m = g at *
  have hb : ((g : Int) != 1) = true := by simp; omega
  clear hg
  go_enter Tryd.func6, Tryd.ntmps6
  go_wp2_with fail
  refine HA.out.mono ?_
  rintro e w' ⟨rfl, n, rfl⟩
  go_wp2_with fail
  refine (HI.out _).mono ?_
  rintro e w' ⟨rfl, n2, rfl⟩
  go_wp2_with fail
  refine (Wr.Fault_any _ _ _ _).mono ?_
  rintro e w' ⟨rfl, rfl⟩
  rw [show ((0 : Int) = ((0 : Nat) : Int)) from rfl, Hc.out]
  go_wp2_with fail
  refine (HG.out _).mono ?_
  rintro e w' ⟨rfl, n3, rfl⟩
  go_wp2
  go_ret
  exact ⟨rfl, _, rfl⟩

set_option maxHeartbeats 1000000 in
theorem inverses_ok (a m : Nat) (ha : a < m) (hm : m < 2305843009213693952) (hg : Nat.gcd a m = 1) (w : World) (hT : Tab w) :
    Calls Tryd.prog 6 #[.int .i64 a, .int .i64 m] w fun e w' => e = .returned (.bool true) ∧ ∃ n, w' = w.drewN n := by
  have Hc := Lib.hid (chk_ok (b := 0) ha (by omega) hm)
  have HI := Lib.hid (fun w => Inverse_ok a m ha hm hg w)
  have HG := Lib.hid (fun w => Wr.Gcd_any a m (by omega) (by omega) (by omega) (by omega) w)
  have HA := Lib.hid (awake w hT)
  clear hT
  rw [Wr.gcd_nat a m ha hm, hg] at HG
  clear hg
  obtain ⟨one, h1⟩ : ∃ one, one = 1 % m := ⟨_, rfl⟩
  have e1 : (1 : Int) % (m : Int) = (one : Int) := by rw [h1, Int.natCast_emod]; rfl
  have H1 := Lib.hid h1
  clear h1
  have hmi : 1 ≤ (m : Int) := by omega
  have hm0 : ((m : Int) == 0) = false := by simp; omega
  go_enter Tryd.func6, Tryd.ntmps6
  go_wp2_with fail
  refine HA.out.mono ?_
  rintro e w' ⟨rfl, n, rfl⟩
  go_wp2_with fail
  refine (HI.out _).mono ?_
  rintro e w' ⟨x, hx, hx2, rfl, n2, rfl⟩
  have H2 : Hid (a * x % m = one) := Lib.hid (by rw [H1.out]; exact hx2)
  clear hx2
  go_wp2_with fail
  refine (Wr.Fault_any _ _ _ _).mono ?_
  rintro e w' ⟨rfl, rfl⟩
  rw [show ((0 : Int) = ((0 : Nat) : Int)) from rfl, Hc.out]
  go_wp2_with fail
  refine (HG.out _).mono ?_
  rintro e w3 ⟨rfl, n3, hw⟩
  have HW := Lib.hid hw
  clear hw
  have HR := Lib.hid (fun w => Wr.Residue_yes x m (by omega) (by omega) w)
  have HMm := Lib.hid (fun w => Wr.Mul_any a x m ha hx hm w)
  rw [H2.out] at HMm
  clear H1 H2 hx
  go_wp2_with fail
  go_quiet (first
    | ((go_at_call 22; exact Calls.quiet_of_same (HR.out _)))
    | ((go_at_call 19; exact Calls.quiet_of_same (HMm.out _))))
  go_wp2
  go_ret
  exact ⟨Wr.ret_b (by first | rfl | (rw [e1]; simp)), n + n2 + n3 + nq, by rw [HW.out]; simp⟩

theorem WordInverses (a m : Int) (_ : (Lit.int .i64 a).wf = true) (_ : (Lit.int .i64 m).wf = true) (w : World) (hT : Tab w) :
    Calls Tryd.prog 6 #[.int .i64 a, .int .i64 m] w fun e w' => e = .returned (.bool true) ∧ ∃ n, w' = w.drewN n := by
  rcases chk_cases a 0 m with ⟨h, _⟩ | ⟨h, _⟩ | ⟨h, h1, h2, h3, h4, _⟩
  · exact inverses_bad a m 1 h (Or.inl rfl) w hT
  · exact inverses_bad a m 2 h (Or.inr rfl) w hT
  · obtain ⟨a, rfl⟩ := Int.eq_ofNat_of_zero_le h3
    obtain ⟨m, rfl⟩ := Int.eq_ofNat_of_zero_le (show 0 ≤ m by omega)
    by_cases hg : Nat.gcd a m = 1
    · exact inverses_ok a m (by omega) (by omega) hg w hT
    · exact inverses_none a m (by omega) (by omega) hg w hT

set_option maxHeartbeats 1000000 in
theorem solves_bad (a b m c : Int) (hc : chk a b m = c) (h0 : c = 1 ∨ c = 2) (w : World) (hT : Tab w) :
    Calls Tryd.prog 7 #[.int .i64 a, .int .i64 b, .int .i64 m] w fun e w' => e = .returned (.bool true) ∧ ∃ n, w' = w.drewN n := by
  have Hc := Lib.hid hc
  have HA := Lib.hid (awake w hT)
  clear hc hT
  rcases h0 with rfl | rfl
  all_goals
    go_enter Tryd.func7, Tryd.ntmps7
    go_wp2_with fail
    refine HA.out.mono ?_
    rintro e w' ⟨rfl, n, rfl⟩
    go_wp2_with fail
    refine (Solve_bad a b m _ Hc.out (by decide) _).mono ?_
    rintro e w' ⟨rfl, rfl⟩
    go_wp2_with fail
    refine (Wr.Fault_any a b m _).mono ?_
    rintro e w' ⟨rfl, rfl⟩
    rw [Hc.out]
    go_wp2
    go_ret
    exact ⟨rfl, _, rfl⟩

set_option maxHeartbeats 1000000 in
theorem solves_none (a b m : Nat) (ha : a < m) (hb : b < m) (hm : m < 2305843009213693952) (hg : b % Nat.gcd a m ≠ 0) (w : World) (hT : Tab w) :
    Calls Tryd.prog 7 #[.int .i64 a, .int .i64 b, .int .i64 m] w fun e w' => e = .returned (.bool true) ∧ ∃ n, w' = w.drewN n := by
  have Hc := Lib.hid (chk_ok ha hb hm)
  have HI := Lib.hid (fun w => Solve_none a b m ha hb hm hg w)
  have HJ := Lib.hid (fun w => Wr.Solve_none a b m ha hb hm hg w)
  have HA := Lib.hid (awake w hT)
  clear hT hg
  go_enter Tryd.func7, Tryd.ntmps7
  go_wp2_with fail
  refine HA.out.mono ?_
  rintro e w' ⟨rfl, n, rfl⟩
  go_wp2_with fail
  refine (HI.out _).mono ?_
  rintro e w' ⟨rfl, n2, rfl⟩
  go_wp2_with fail
  refine (Wr.Fault_any _ _ _ _).mono ?_
  rintro e w' ⟨rfl, rfl⟩
  rw [Hc.out]
  go_wp2_with fail
  refine (HJ.out _).mono ?_
  rintro e w' ⟨rfl, n3, rfl⟩
  go_wp2
  go_ret
  exact ⟨rfl, _, rfl⟩

set_option maxHeartbeats 1000000 in
theorem solves_ok (a b m : Nat) (ha : a < m) (hb : b < m) (hm : m < 2305843009213693952) (hg : b % Nat.gcd a m = 0) (w : World) (hT : Tab w) :
    Calls Tryd.prog 7 #[.int .i64 a, .int .i64 b, .int .i64 m] w fun e w' => e = .returned (.bool true) ∧ ∃ n, w' = w.drewN n := by
  have Hc := Lib.hid (chk_ok ha hb hm)
  have HI := Lib.hid (fun w => Solve_ok a b m ha hb hm hg w)
  have HJ := Lib.hid (fun w => Wr.Solve_ok a b m ha hb hm hg w)
  have HU := Lib.hid (fun x y hx hy h => Wm.sol_unique (a := a) (m := m) (x := x) (y := y) (by omega) hx hy h)
  have HA := Lib.hid (awake w hT)
  unfold SolPost at HI HJ
  clear hT hg
  generalize m / Nat.gcd a m = st at *
  go_enter Tryd.func7, Tryd.ntmps7
  go_wp2_with fail
  refine HA.out.mono ?_
  rintro e w' ⟨rfl, n, rfl⟩
  go_wp2_with fail
  refine (HI.out _).mono ?_
  rintro e w' ⟨x, hx, hx2, rfl, n2, rfl⟩
  have HX := Lib.hid (And.intro hx hx2)
  clear hx hx2
  go_wp2_with fail
  refine (Wr.Fault_any _ _ _ _).mono ?_
  rintro e w' ⟨rfl, rfl⟩
  rw [Hc.out]
  go_wp2_with fail
  refine (HJ.out _).mono ?_
  rintro e w' ⟨y, hy, hy2, rfl, n3, rfl⟩
  obtain rfl : x = y := HU.out x y HX.out.1 hy (by rw [HX.out.2, hy2])
  clear hy hy2
  go_wp2
  go_ret
  exact ⟨rfl, _, rfl⟩

theorem WordSolves (a b m : Int) (_ : (Lit.int .i64 a).wf = true) (_ : (Lit.int .i64 b).wf = true) (_ : (Lit.int .i64 m).wf = true) (w : World) (hT : Tab w) :
    Calls Tryd.prog 7 #[.int .i64 a, .int .i64 b, .int .i64 m] w fun e w' => e = .returned (.bool true) ∧ ∃ n, w' = w.drewN n := by
  rcases chk_cases a b m with ⟨h, _⟩ | ⟨h, _⟩ | ⟨h, h1, h2, h3, h4, h5, h6⟩
  · exact solves_bad a b m 1 h (Or.inl rfl) w hT
  · exact solves_bad a b m 2 h (Or.inr rfl) w hT
  · obtain ⟨a, rfl⟩ := Int.eq_ofNat_of_zero_le h3
    obtain ⟨b, rfl⟩ := Int.eq_ofNat_of_zero_le h5
    obtain ⟨m, rfl⟩ := Int.eq_ofNat_of_zero_le (show 0 ≤ m by omega)
    by_cases hg : b % Nat.gcd a m = 0
    · exact solves_ok a b m (by omega) (by omega) (by omega) hg w hT
    · exact solves_none a b m (by omega) (by omega) (by omega) hg w hT
end Go.Proofs.YtppcnfcndkpiiaaDoor.Wk
