/- The walk of WordSums: sums, differences and products are the specified residues, or the specified errors. -/
import Derived.Test.YtppcnfcndkpiiaaDoorWawake
namespace Go.Proofs.YtppcnfcndkpiiaaDoor.Wk
open Go.RowKit Go.Proofs.YtppcnfcndkpiiaaDoor.Wb Go.Proofs.YtppcnfcndkpiiaaDoor.Ww

theorem range64 {a : Int} (h : (Lit.int .i64 a).wf = true) : -9223372036854775808 ≤ a ∧ a ≤ 9223372036854775807 := by
  simp [Lit.wf, IntKind.min, IntKind.max, IntKind.signed, IntKind.bits] at h
  omega

set_option maxHeartbeats 1000000 in
theorem sums_bad (a b m c : Int) (hc : chk a b m = c) (h0 : c = 1 ∨ c = 2) (w : World) (hT : Tab w) :
    Calls Tryd.prog 3 #[.int .i64 a, .int .i64 b, .int .i64 m] w fun e w' => e = .returned (.bool true) ∧ ∃ n, w' = w.drewN n := by
  have Hc := Lib.hid hc
  have HA := Lib.hid (awake w hT)
  clear hc hT
  rcases h0 with rfl | rfl
  all_goals
    go_enter Tryd.func3, Tryd.ntmps3
    go_wp2_with fail
    refine HA.out.mono ?_
    rintro e w' ⟨rfl, n, rfl⟩
    go_wp2_with fail
    refine (Add_bad a b m _ Hc.out (by decide) _).mono ?_
    rintro e w' ⟨rfl, rfl⟩
    go_wp2_with fail
    refine (Sub_bad a b m _ Hc.out (by decide) _).mono ?_
    rintro e w' ⟨rfl, rfl⟩
    go_wp2_with fail
    refine (Mul_bad a b m _ Hc.out (by decide) _).mono ?_
    rintro e w' ⟨rfl, rfl⟩
    go_wp2_with fail
    refine (Wr.Fault_any a b m _).mono ?_
    rintro e w' ⟨rfl, rfl⟩
    rw [Hc.out]
    go_wp2
    go_ret
    exact ⟨rfl, _, rfl⟩

theorem emod_sub (a b m : Nat) (hb : b < m) : ((a : Int) - (b : Int)) % (m : Int) = ((((a + m - b) % m : Nat)) : Int) := by
  rw [← Int.add_emod_right, Int.natCast_emod]
  congr 1
  omega

set_option maxHeartbeats 1000000 in
theorem sums_ok (a b m : Nat) (ha : a < m) (hb : b < m) (hm : m < 2305843009213693952) (w : World) (hT : Tab w) :
    Calls Tryd.prog 3 #[.int .i64 a, .int .i64 b, .int .i64 m] w fun e w' => e = .returned (.bool true) ∧ ∃ n, w' = w.drewN n := by
  have Hc := Lib.hid (chk_ok ha hb hm)
  have HA := Lib.hid (awake w hT)
  have HX := Lib.hid (fun w => Add_ok a b m ha hb hm w)
  have HY := Lib.hid (fun w => Sub_ok a b m ha hb hm w)
  have HZ := Lib.hid (fun w => Mul_ok a b m ha hb hm w)
  have HR := Lib.hid (fun w => Wr.Mul_any a b m ha hb hm w)
  have E1 : Hid (((a : Int) + (b : Int)) % (m : Int) = (((a + b) % m : Nat) : Int)) := Lib.hid (by rw [Int.natCast_emod]; rfl)
  have E2 := Lib.hid (emod_sub a b m hb)
  clear hT
  generalize (a + b) % m = x at *
  generalize (a + m - b) % m = y at *
  generalize a * b % m = z at *
  go_enter Tryd.func3, Tryd.ntmps3
  go_wp2_with fail
  refine HA.out.mono ?_
  rintro e w' ⟨rfl, n, rfl⟩
  go_wp2_with fail
  refine (HX.out _).mono ?_
  rintro e w' ⟨rfl, rfl⟩
  go_wp2_with fail
  refine (HY.out _).mono ?_
  rintro e w' ⟨rfl, rfl⟩
  go_wp2_with fail
  refine (HZ.out _).mono ?_
  rintro e w' ⟨rfl, n2, rfl⟩
  go_wp2_with fail
  refine (Wr.Fault_any _ _ _ _).mono ?_
  rintro e w' ⟨rfl, rfl⟩
  rw [Hc.out]
  go_wp2_with fail
  refine (Wr.Reduce_any _ m (by omega) (by omega) _).mono ?_
  rintro e w' ⟨rfl, rfl⟩
  rw [E1.out]
  go_wp2_with fail
  refine (Wr.Reduce_any _ m (by omega) (by omega) _).mono ?_
  rintro e w' ⟨rfl, rfl⟩
  rw [E2.out]
  go_wp2_with fail
  refine (HR.out _).mono ?_
  rintro e w' ⟨rfl, rfl⟩
  go_wp2
  go_ret
  exact ⟨rfl, _, rfl⟩

theorem WordSums (a b m : Int) (_ : (Lit.int .i64 a).wf = true) (_ : (Lit.int .i64 b).wf = true) (_ : (Lit.int .i64 m).wf = true) (w : World) (hT : Tab w) :
    Calls Tryd.prog 3 #[.int .i64 a, .int .i64 b, .int .i64 m] w fun e w' => e = .returned (.bool true) ∧ ∃ n, w' = w.drewN n := by
  rcases chk_cases a b m with ⟨h, _⟩ | ⟨h, _⟩ | ⟨_, h1, h2, h3, h4, h5, h6⟩
  · exact sums_bad a b m 1 h (Or.inl rfl) w hT
  · exact sums_bad a b m 2 h (Or.inr rfl) w hT
  · obtain ⟨a, rfl⟩ := Int.eq_ofNat_of_zero_le h3
    obtain ⟨b, rfl⟩ := Int.eq_ofNat_of_zero_le h5
    obtain ⟨m, rfl⟩ := Int.eq_ofNat_of_zero_le (show 0 ≤ m by omega)
    exact sums_ok a b m (by omega) (by omega) (by omega) w hT
end Go.Proofs.YtppcnfcndkpiiaaDoor.Wk
