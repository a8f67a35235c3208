/- The walk of WordSymbols. -/
import Derived.Test.YtppcnfcndkpiiaaDoorWl3
namespace Go.Proofs.YtppcnfcndkpiiaaDoor.Wk
open Go.RowKit Go.Proofs.YtppcnfcndkpiiaaDoor.Wb Go.Proofs.YtppcnfcndkpiiaaDoor.Ww

/-- Jacobi's error for what is no odd modulus. -/
theorem jacobi_arg (a n : Int) (h : n < 1 ∨ 2305843009213693952 ≤ n ∨ n % 2 = 0) (w : World) :
    Calls Tryd.prog 30 #[.int .i64 a, .int .i64 n] w fun x w' => x = .returned (.tuple #[.int .i64 0, .int .i64 1]) ∧ w' = w := by
  by_cases h2 : n % 2 = 0
  · exact Jacobi_even a n h2 w
  · exact Jacobi_bad a n 1 h2 (by unfold chk; rw [if_pos (by omega)]) (Or.inl rfl) w

set_option maxHeartbeats 1000000 in
theorem symbols_mod (a n : Int) (h : n < 1 ∨ 2305843009213693952 ≤ n) (w : World) (hT : Tab w) :
    Calls Tryd.prog 8 #[.int .i64 a, .int .i64 n] w fun e w' => e = .returned (.bool true) ∧ ∃ n, w' = w.drewN n := by
  have HA := Lib.hid (awake w hT)
  have HJ := Lib.hid (fun w => jacobi_arg a n (by omega) w)
  have HM := Lib.hid (fun w => Wr.Modulus_no n h w)
  clear hT h
  go_enter Tryd.func8, Tryd.ntmps8
  go_wp2_with fail
  refine HA.out.mono ?_
  rintro e w' ⟨rfl, q, rfl⟩
  go_wp2_with fail
  refine (HJ.out _).mono ?_
  rintro e w' ⟨rfl, rfl⟩
  go_wp2_with fail
  refine (HM.out _).mono ?_
  rintro e w' ⟨rfl, rfl⟩
  go_wp2
  go_ret
  exact ⟨rfl, _, rfl⟩

set_option maxHeartbeats 1000000 in
theorem symbols_even (a n : Int) (h1 : 1 ≤ n) (h2 : n < 2305843009213693952) (h : n % 2 = 0) (w : World) (hT : Tab w) :
    Calls Tryd.prog 8 #[.int .i64 a, .int .i64 n] w fun e w' => e = .returned (.bool true) ∧ ∃ n, w' = w.drewN n := by
  have HA := Lib.hid (awake w hT)
  have HJ := Lib.hid (fun w => jacobi_arg a n (by omega) w)
  have HM := Lib.hid (fun w => Wr.Modulus_yes n h1 h2 w)
  have hb : (n % 2 == 0) = true := by simp; omega
  clear hT h
  go_enter Tryd.func8, Tryd.ntmps8
  go_wp2_with fail
  refine HA.out.mono ?_
  rintro e w' ⟨rfl, q, rfl⟩
  go_wp2_with fail
  refine (HJ.out _).mono ?_
  rintro e w' ⟨rfl, rfl⟩
  go_wp2_with fail
  refine (HM.out _).mono ?_
  rintro e w' ⟨rfl, rfl⟩
  go_wp2
  go_ret
  exact ⟨rfl, _, rfl⟩

set_option maxHeartbeats 1000000 in
theorem symbols_range (a n : Int) (h1 : 1 ≤ n) (h2 : n < 2305843009213693952) (h : n % 2 ≠ 0) (h3 : a < 0 ∨ n ≤ a) (w : World) (hT : Tab w) :
    Calls Tryd.prog 8 #[.int .i64 a, .int .i64 n] w fun e w' => e = .returned (.bool true) ∧ ∃ n, w' = w.drewN n := by
  have HA := Lib.hid (awake w hT)
  have HJ := Lib.hid (fun w => Jacobi_bad a n 2 h (by unfold chk; rw [if_neg (by omega), if_pos (by omega)]) (Or.inr rfl) w)
  have HM := Lib.hid (fun w => Wr.Modulus_yes n h1 h2 w)
  have HR := Lib.hid (fun w => Wr.Residue_no a n h3 w)
  have hb : (n % 2 == 0) = false := by simp; omega
  clear hT h h3
  go_enter Tryd.func8, Tryd.ntmps8
  go_wp2_with fail
  refine HA.out.mono ?_
  rintro e w' ⟨rfl, q, rfl⟩
  go_wp2_with fail
  refine (HJ.out _).mono ?_
  rintro e w' ⟨rfl, rfl⟩
  go_wp2_with fail
  refine (HM.out _).mono ?_
  rintro e w' ⟨rfl, rfl⟩
  go_wp2_with fail
  refine (HR.out _).mono ?_
  rintro e w' ⟨rfl, rfl⟩
  go_wp2
  go_ret
  exact ⟨rfl, _, rfl⟩

set_option maxHeartbeats 1000000 in
theorem symbols_ok (a n : Nat) (ha : a < n) (hn : n < 2305843009213693952) (h : n % 2 = 1) (w : World) (hT : Tab w) :
    Calls Tryd.prog 8 #[.int .i64 a, .int .i64 n] w fun e w' => e = .returned (.bool true) ∧ ∃ n, w' = w.drewN n := by
  have HA := Lib.hid (awake w hT)
  have HJ := Lib.hid (fun q => Jacobi_ok a n ha hn h (w.drewN q) (hT.drewN q))
  have HM := Lib.hid (fun w => Wr.Modulus_yes n (by omega) (by omega) w)
  have HR := Lib.hid (fun w => Wr.Residue_yes a n (by omega) (by omega) w)
  have HK := Lib.hid (fun w => Wr.Jacobi_any a n (by omega) hn (by omega) w)
  have hb : ((n : Int) % 2 == 0) = false := by simp; omega
  have hn0 : 0 ≤ (n : Int) := by omega
  clear hT h ha hn
  generalize Wm.jac a n = j at *
  go_enter Tryd.func8, Tryd.ntmps8
  go_wp2_with fail
  refine HA.out.mono ?_
  rintro e w' ⟨rfl, q, rfl⟩
  go_wp2_with fail
  refine (HJ.out q).mono ?_
  rintro e w' ⟨rfl, q2, rfl⟩
  go_wp2_with fail
  refine (HM.out _).mono ?_
  rintro e w' ⟨rfl, rfl⟩
  go_wp2_with fail
  refine (HR.out _).mono ?_
  rintro e w' ⟨rfl, rfl⟩
  go_wp2_with fail
  refine (HK.out _).mono ?_
  rintro e w' ⟨rfl, rfl⟩
  go_wp2
  go_ret
  exact ⟨rfl, _, rfl⟩

theorem WordSymbols (a n : Int) (_ : (Lit.int .i64 a).wf = true) (_ : (Lit.int .i64 n).wf = true) (w : World) (hT : Tab w) :
    Calls Tryd.prog 8 #[.int .i64 a, .int .i64 n] w fun e w' => e = .returned (.bool true) ∧ ∃ n, w' = w.drewN n := by
  by_cases h1 : n < 1 ∨ 2305843009213693952 ≤ n
  · exact symbols_mod a n h1 w hT
  by_cases h2 : n % 2 = 0
  · exact symbols_even a n (by omega) (by omega) h2 w hT
  by_cases h3 : a < 0 ∨ n ≤ a
  · exact symbols_range a n (by omega) (by omega) h2 h3 w hT
  · obtain ⟨a, rfl⟩ := Int.eq_ofNat_of_zero_le (show 0 ≤ a by omega)
    obtain ⟨n, rfl⟩ := Int.eq_ofNat_of_zero_le (show 0 ≤ n by omega)
    exact symbols_ok a n (by omega) (by omega) (by omega) w hT
end Go.Proofs.YtppcnfcndkpiiaaDoor.Wk
