/- The walks of WordPowers and WordReduces. -/
import Derived.Test.YtppcnfcndkpiiaaDoorWl1
namespace Go.Proofs.YtppcnfcndkpiiaaDoor.Wk
open Go.RowKit Go.Proofs.YtppcnfcndkpiiaaDoor.Wb Go.Proofs.YtppcnfcndkpiiaaDoor.Ww

set_option maxHeartbeats 1000000 in
theorem powers_arg (a e m : Int) (hc : chk a 0 m = 1) (hm : m < 1 ∨ 2305843009213693952 ≤ m) (w : World) (hT : Tab w) :
    Calls Tryd.prog 4 #[.int .i64 a, .int .i64 e, .int .i64 m] w fun e w' => e = .returned (.bool true) ∧ ∃ n, w' = w.drewN n := by
  have Hc := Lib.hid hc
  have HM := Lib.hid (fun w => Wr.Modulus_no m hm w)
  have HA := Lib.hid (awake w hT)
  clear hc hT hm
  go_enter Tryd.func4, Tryd.ntmps4
  go_wp2_with fail
  refine HA.out.mono ?_
  rintro x w' ⟨rfl, n, rfl⟩
  go_wp2_with fail
  refine (Pow_bad a e m _ Hc.out (by decide) _).mono ?_
  rintro x w' ⟨rfl, rfl⟩
  go_wp2_with fail
  refine (HM.out _).mono ?_
  rintro x w' ⟨rfl, rfl⟩
  go_wp2
  go_ret
  exact ⟨rfl, _, rfl⟩

set_option maxHeartbeats 1000000 in
theorem powers_range (a e m : Int) (hc : chk a 0 m = 2) (h1 : 1 ≤ m) (h2 : m < 2305843009213693952) (h3 : a < 0 ∨ m ≤ a) (w : World) (hT : Tab w) :
    Calls Tryd.prog 4 #[.int .i64 a, .int .i64 e, .int .i64 m] w fun e w' => e = .returned (.bool true) ∧ ∃ n, w' = w.drewN n := by
  have Hc := Lib.hid hc
  have HM := Lib.hid (fun w => Wr.Modulus_yes m h1 h2 w)
  have HR := Lib.hid (fun w => Wr.Residue_no a m h3 w)
  have HA := Lib.hid (awake w hT)
  clear hc hT h1 h2 h3
  go_enter Tryd.func4, Tryd.ntmps4
  go_wp2_with fail
  refine HA.out.mono ?_
  rintro x w' ⟨rfl, n, rfl⟩
  go_wp2_with fail
  refine (Pow_bad a e m _ Hc.out (by decide) _).mono ?_
  rintro x w' ⟨rfl, rfl⟩
  go_wp2_with fail
  refine (HM.out _).mono ?_
  rintro x w' ⟨rfl, rfl⟩
  go_wp2_with fail
  refine (HR.out _).mono ?_
  rintro x w' ⟨rfl, rfl⟩
  go_wp2
  go_ret
  exact ⟨rfl, _, rfl⟩

set_option maxHeartbeats 1000000 in
theorem powers_neg (a e m : Int) (hc : chk a 0 m = 0) (h1 : 1 ≤ m) (h2 : m < 2305843009213693952) (h3 : 0 ≤ a) (h4 : a < m) (he : e < 0) (w : World) (hT : Tab w) :
    Calls Tryd.prog 4 #[.int .i64 a, .int .i64 e, .int .i64 m] w fun e w' => e = .returned (.bool true) ∧ ∃ n, w' = w.drewN n := by
  have Hc := Lib.hid hc
  have HM := Lib.hid (fun w => Wr.Modulus_yes m h1 h2 w)
  have HR := Lib.hid (fun w => Wr.Residue_yes a m h3 h4 w)
  have HA := Lib.hid (awake w hT)
  clear hc hT h1 h2 h3 h4
  go_enter Tryd.func4, Tryd.ntmps4
  go_wp2_with fail
  refine HA.out.mono ?_
  rintro x w' ⟨rfl, n, rfl⟩
  go_wp2_with fail
  refine (Pow_neg a e m Hc.out he _).mono ?_
  rintro x w' ⟨rfl, rfl⟩
  go_wp2_with fail
  refine (HM.out _).mono ?_
  rintro x w' ⟨rfl, rfl⟩
  go_wp2_with fail
  refine (HR.out _).mono ?_
  rintro x w' ⟨rfl, rfl⟩
  go_wp2
  go_ret
  exact ⟨rfl, _, rfl⟩

set_option maxHeartbeats 1000000 in
theorem powers_ok (a e m : Nat) (ha : a < m) (hm : m < 2305843009213693952) (he : e < 9223372036854775808) (w : World) (hT : Tab w) :
    Calls Tryd.prog 4 #[.int .i64 a, .int .i64 e, .int .i64 m] w fun e w' => e = .returned (.bool true) ∧ ∃ n, w' = w.drewN n := by
  have HM := Lib.hid (fun w => Wr.Modulus_yes m (by omega) (by omega) w)
  have HR := Lib.hid (fun w => Wr.Residue_yes a m (by omega) (by omega) w)
  have HP := Lib.hid (fun w => Pow_ok a e m ha hm he w)
  have HQ := Lib.hid (fun w => Wr.Pow_any a e m ha hm he w)
  have HA := Lib.hid (awake w hT)
  have he0 : 0 ≤ (e : Int) := by omega
  clear hT ha hm he
  generalize a ^ e % m = r at *
  go_enter Tryd.func4, Tryd.ntmps4
  go_wp2_with fail
  refine HA.out.mono ?_
  rintro x w' ⟨rfl, n, rfl⟩
  go_wp2_with fail
  refine (HP.out _).mono ?_
  rintro x w' ⟨rfl, n2, rfl⟩
  go_wp2_with fail
  refine (HM.out _).mono ?_
  rintro x w' ⟨rfl, rfl⟩
  go_wp2_with fail
  refine (HR.out _).mono ?_
  rintro x w' ⟨rfl, rfl⟩
  go_wp2_with fail
  refine (HQ.out _).mono ?_
  rintro x w' ⟨rfl, rfl⟩
  go_wp2
  go_ret
  exact ⟨rfl, _, rfl⟩

theorem WordPowers (a e m : Int) (_ : (Lit.int .i64 a).wf = true) (h : (Lit.int .i64 e).wf = true) (_ : (Lit.int .i64 m).wf = true) (w : World) (hT : Tab w) :
    Calls Tryd.prog 4 #[.int .i64 a, .int .i64 e, .int .i64 m] w fun e w' => e = .returned (.bool true) ∧ ∃ n, w' = w.drewN n := by
  have he := range64 h
  rcases chk_cases a 0 m with ⟨h, h1⟩ | ⟨h, h1, h2, h3⟩ | ⟨h, h1, h2, h3, h4, _⟩
  · exact powers_arg a e m h h1 w hT
  · exact powers_range a e m h h1 h2 (by omega) w hT
  · by_cases hn : e < 0
    · exact powers_neg a e m h h1 h2 h3 h4 hn w hT
    · obtain ⟨a, rfl⟩ := Int.eq_ofNat_of_zero_le h3
      obtain ⟨e, rfl⟩ := Int.eq_ofNat_of_zero_le (show 0 ≤ e by omega)
      obtain ⟨m, rfl⟩ := Int.eq_ofNat_of_zero_le (show 0 ≤ m by omega)
      exact powers_ok a e m (by omega) (by omega) (by omega) w hT

set_option maxHeartbeats 1000000 in
theorem reduces_bad (a b : Int) (hm : b < 1 ∨ 2305843009213693952 ≤ b) (h0 : -9223372036854775808 ≤ a) (h1 : a ≤ 9223372036854775807) (h2 : -9223372036854775808 ≤ b) (h3 : b ≤ 9223372036854775807) (w : World) (hT : Tab w) :
    Calls Tryd.prog 5 #[.int .i64 a, .int .i64 b] w fun e w' => e = .returned (.bool true) ∧ ∃ n, w' = w.drewN n := by
  have Hc : Hid (chk 0 0 b = 1) := Lib.hid (by unfold chk; rw [if_pos hm])
  have HM := Lib.hid (fun w => Wr.Modulus_no b hm w)
  have HG := Lib.hid (fun w => Gcd_any a b h0 h1 h2 h3 w)
  have HR := Lib.hid (fun w => Wr.Gcd_any a b h0 h1 h2 h3 w)
  have HA := Lib.hid (awake w hT)
  clear hT hm h0 h1 h2 h3
  generalize gcdOf a b = g at *
  go_enter Tryd.func5, Tryd.ntmps5
  go_wp2_with fail
  refine HA.out.mono ?_
  rintro x w' ⟨rfl, n, rfl⟩
  go_wp2_with fail
  refine (Reduce_bad a b _ Hc.out (by decide) _).mono ?_
  rintro x w' ⟨rfl, rfl⟩
  go_wp2_with fail
  refine (HG.out _).mono ?_
  rintro x w' ⟨rfl, n2, rfl⟩
  go_wp2_with fail
  refine (HR.out _).mono ?_
  rintro x w' ⟨rfl, n3, rfl⟩
  go_wp2_with fail
  refine (HM.out _).mono ?_
  rintro x w' ⟨rfl, rfl⟩
  go_wp2
  go_ret
  exact ⟨rfl, _, rfl⟩

set_option maxHeartbeats 1000000 in
theorem reduces_ok (a b : Int) (hm : 1 ≤ b) (hm2 : b < 2305843009213693952) (h0 : -9223372036854775808 ≤ a) (h1 : a ≤ 9223372036854775807) (w : World) (hT : Tab w) :
    Calls Tryd.prog 5 #[.int .i64 a, .int .i64 b] w fun e w' => e = .returned (.bool true) ∧ ∃ n, w' = w.drewN n := by
  have HM := Lib.hid (fun w => Wr.Modulus_yes b hm hm2 w)
  have HG := Lib.hid (fun w => Gcd_any a b h0 h1 (by omega) (by omega) w)
  have HR := Lib.hid (fun w => Wr.Gcd_any a b h0 h1 (by omega) (by omega) w)
  have HD := Lib.hid (fun w => Reduce_ok a b hm hm2 w)
  have HE := Lib.hid (fun w => Wr.Reduce_any a b hm hm2 w)
  have HA := Lib.hid (awake w hT)
  clear hT hm h0 h1 hm2
  generalize gcdOf a b = g at *
  generalize a % b = r at *
  go_enter Tryd.func5, Tryd.ntmps5
  go_wp2_with fail
  refine HA.out.mono ?_
  rintro x w' ⟨rfl, n, rfl⟩
  go_wp2_with fail
  refine (HD.out _).mono ?_
  rintro x w' ⟨rfl, rfl⟩
  go_wp2_with fail
  refine (HG.out _).mono ?_
  rintro x w' ⟨rfl, n2, rfl⟩
  go_wp2_with fail
  refine (HR.out _).mono ?_
  rintro x w' ⟨rfl, n3, rfl⟩
  go_wp2_with fail
  refine (HM.out _).mono ?_
  rintro x w' ⟨rfl, rfl⟩
  go_wp2_with fail
  refine (HE.out _).mono ?_
  rintro x w' ⟨rfl, rfl⟩
  go_wp2
  go_ret
  exact ⟨rfl, _, rfl⟩

theorem WordReduces (a b : Int) (ha : (Lit.int .i64 a).wf = true) (hb : (Lit.int .i64 b).wf = true) (w : World) (hT : Tab w) :
    Calls Tryd.prog 5 #[.int .i64 a, .int .i64 b] w fun e w' => e = .returned (.bool true) ∧ ∃ n, w' = w.drewN n := by
  have h1 := range64 ha
  have h2 := range64 hb
  by_cases hm : b < 1 ∨ 2305843009213693952 ≤ b
  · exact reduces_bad a b hm h1.1 h1.2 h2.1 h2.2 w hT
  · exact reduces_ok a b (by omega) (by omega) h1.1 h1.2 w hT
end Go.Proofs.YtppcnfcndkpiiaaDoor.Wk
