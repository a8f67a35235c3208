/- The examples that each law checks first: they hold. -/
import Derived.Test.YtppcnfcndkpiiaaDoorWref2
namespace Go.Proofs.YtppcnfcndkpiiaaDoor.Wk
open Go.RowKit Go.Proofs.YtppcnfcndkpiiaaDoor.Wb Go.Proofs.YtppcnfcndkpiiaaDoor.Ww

theorem jac_ex : Wm.jac 2 15 = 1 := by
  rw [Wm.jac_even (by omega) (by omega), Wm.jac_odd (by omega), Wm.jac_zero]
  decide
theorem inv_ex : ∀ x : Nat, x < 11 → 7 * x % 11 = 1 % 11 → x = 8 := by decide
theorem sol_ex : ∀ x : Nat, x < 5 → 6 * x % 10 = 4 → x = 4 := by decide

theorem awake (w : World) (hT : Tab w) : Calls Tryd.prog 13 #[] w fun e w' => e = .returned (.bool true) ∧ ∃ n, w' = w.drewN n := by
  have HT := Lib.hid (fun q => hT.drewN q)
  clear hT
  have HJ := Lib.hid (fun w hT => Jacobi_ok 2 15 (by decide) (by decide) (by decide) w hT)
  simp only [jac_ex] at HJ
  go_enter Tryd.func13, Tryd.ntmps13
  go_wp2_with fail
  refine (Mul_ok 7 8 11 (by decide) (by decide) (by decide) _).mono ?_
  rintro e w' ⟨rfl, n1, rfl⟩
  go_wp2_with fail
  refine (Inverse_ok 7 11 (by decide) (by decide) (by decide) _).mono ?_
  rintro e w' ⟨x, hx, hx2, rfl, n2, rfl⟩
  obtain rfl := inv_ex x hx hx2
  go_wp2_with fail
  refine (Solve_ok 6 4 10 (by decide) (by decide) (by decide) (by decide) _).mono ?_
  rintro e w' ⟨y, hy, hy2, rfl, n3, rfl⟩
  obtain rfl := sol_ex y hy hy2
  go_wp2_with fail
  refine (HJ.out _ (HT.out _)).mono ?_
  rintro e w' ⟨rfl, n4, rfl⟩
  go_wp2
  go_ret
  exact ⟨rfl, _, rfl⟩
end Go.Proofs.YtppcnfcndkpiiaaDoor.Wk
