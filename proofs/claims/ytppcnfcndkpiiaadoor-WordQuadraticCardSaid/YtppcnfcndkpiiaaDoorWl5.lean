/- The walks of WordRing and WordExponents. -/
import Derived.Test.YtppcnfcndkpiiaaDoorWl4
namespace Go.Proofs.YtppcnfcndkpiiaaDoor.Wk
open Go.RowKit Go.Proofs.YtppcnfcndkpiiaaDoor.Wb Go.Proofs.YtppcnfcndkpiiaaDoor.Ww

set_option maxRecDepth 100000 in
theorem ring_none (a b c m : Int) (h : m < 1 ∨ 2305843009213693952 ≤ m) (w : World) (hT : Tab w) :
    Calls Tryd.prog 9 #[.int .i64 a, .int .i64 b, .int .i64 c, .int .i64 m] w fun e w' => e = .returned (.bool true) ∧ ∃ n, w' = w.drewN n := by
  have HA := Lib.hid (awake w hT)
  clear hT
  by_cases h1 : m < 1
  · clear h
    go_enter Tryd.func9, Tryd.ntmps9
    go_wp2_with fail
    refine HA.out.mono ?_
    rintro e w' ⟨rfl, q, rfl⟩
    go_wp2
    go_ret
    exact ⟨rfl, _, rfl⟩
  · have h2 : 2305843009213693952 ≤ m := by omega
    clear h
    go_enter Tryd.func9, Tryd.ntmps9
    go_wp2_with fail
    refine HA.out.mono ?_
    rintro e w' ⟨rfl, q, rfl⟩
    go_wp2
    go_ret
    exact ⟨rfl, _, rfl⟩

/-- The ring's laws, as the law asks them. -/
theorem ring_math (x y z m : Nat) (hx : x < m) (hy : y < m) (hz : z < m) :
    y * x % m = x * y % m ∧ (x * y % m + x * z % m) % m = x * ((y + z) % m) % m ∧ ((y + z) % m + m - z) % m = y ∧
    (x * z % m) * y % m = (x * y % m) * z % m ∧ x * (1 % m) % m = x ∧ (x + 0) % m = x := by
  refine ⟨by rw [Nat.mul_comm], ?_, ?_, ?_, ?_, ?_⟩
  · rw [← Nat.add_mod, Nat.mul_mod_mod, Nat.mul_add]
  · by_cases h : y + z < m
    · rw [Nat.mod_eq_of_lt h, show y + z + m - z = y + m by omega, Nat.add_mod_right, Nat.mod_eq_of_lt hy]
    · have e : (y + z) % m = y + z - m := by rw [Nat.mod_eq_sub_mod (by omega), Nat.mod_eq_of_lt (by omega)]
      rw [e, show y + z - m + m - z = y by omega, Nat.mod_eq_of_lt hy]
  · rw [Nat.mod_mul_mod, Nat.mod_mul_mod, Nat.mul_assoc, Nat.mul_comm z y, ← Nat.mul_assoc]
  · rw [Nat.mul_mod_mod, Nat.mul_one, Nat.mod_eq_of_lt hx]
  · rw [Nat.add_zero, Nat.mod_eq_of_lt hx]

set_option maxHeartbeats 2000000 in
set_option maxRecDepth 100000 in
theorem ring_ok (a b c : Int) (m x y z : Nat) (hm0 : 1 ≤ m) (hm : m < 2305843009213693952) (ex : a % (m : Int) = x) (ey : b % (m : Int) = y) (ez : c % (m : Int) = z)
    (hx : x < m) (hy : y < m) (hz : z < m) (w : World) (hT : Tab w) :
    Calls Tryd.prog 9 #[.int .i64 a, .int .i64 b, .int .i64 c, .int .i64 m] w fun e w' => e = .returned (.bool true) ∧ ∃ n, w' = w.drewN n := by
  have HA := Lib.hid (awake w hT)
  have R1 := Lib.hid (fun w => Reduce_ok a m (by omega) (by omega) w)
  have R2 := Lib.hid (fun w => Reduce_ok b m (by omega) (by omega) w)
  have R3 := Lib.hid (fun w => Reduce_ok c m (by omega) (by omega) w)
  rw [ex] at R1
  rw [ey] at R2
  rw [ez] at R3
  obtain ⟨m1, m2, m3, m4, m5, m6⟩ := ring_math x y z m hx hy hz
  have lt : ∀ k, k % m < m := fun k => Nat.mod_lt _ (by omega)
  have M1 := Lib.hid (fun w => Mul_ok x y m hx hy hm w)
  have M2 := Lib.hid (fun w => Mul_ok y x m hy hx hm w)
  have M3 := Lib.hid (fun w => Mul_ok x z m hx hz hm w)
  have A1 := Lib.hid (fun w => Add_ok y z m hy hz hm w)
  have M4 := Lib.hid (fun w => Mul_ok x ((y + z) % m) m hx (lt _) hm w)
  have A2 := Lib.hid (fun w => Add_ok (x * y % m) (x * z % m) m (lt _) (lt _) hm w)
  have S1 := Lib.hid (fun w => Sub_ok ((y + z) % m) z m (lt _) hz hm w)
  have M5 := Lib.hid (fun w => Mul_ok (x * y % m) z m (lt _) hz hm w)
  have M6 := Lib.hid (fun w => Mul_ok (x * z % m) y m (lt _) hy hm w)
  have M7 := Lib.hid (fun w => Mul_ok x (1 % m) m hx (lt _) hm w)
  have A3 := Lib.hid (fun w => Add_ok x 0 m hx (by omega) hm w)
  rw [m1] at M2
  rw [m2] at A2
  rw [m3] at S1
  rw [m4] at M6
  rw [m5] at M7
  rw [m6] at A3
  obtain ⟨one, h1⟩ : ∃ one, one = 1 % m := ⟨_, rfl⟩
  have E1 : Hid ((1 : Int) % (m : Int) = (one : Int)) := Lib.hid (by rw [h1, Int.natCast_emod]; rfl)
  rw [← h1] at M7
  clear hT ex ey ez m1 m2 m3 m4 m5 m6 lt hx hy hz h1
  generalize (x * y % m) * z % m = p at *
  generalize x * ((y + z) % m) % m = l at *
  generalize (y + z) % m = yz at *
  generalize x * y % m = xy at *
  generalize x * z % m = xz at *
  go_enter Tryd.func9, Tryd.ntmps9
  go_wp2_with fail
  refine HA.out.mono ?_
  rintro e w' ⟨rfl, q, rfl⟩
  go_wp2_with fail
  refine (R1.out _).mono ?_
  rintro e w' ⟨rfl, rfl⟩
  go_wp2_with fail
  refine (R2.out _).mono ?_
  rintro e w' ⟨rfl, rfl⟩
  go_wp2_with fail
  refine (R3.out _).mono ?_
  rintro e w' ⟨rfl, rfl⟩
  go_wp2_with fail
  refine (M1.out _).mono ?_
  rintro e w' ⟨rfl, q1, rfl⟩
  go_wp2_with fail
  refine (M2.out _).mono ?_
  rintro e w' ⟨rfl, q2, rfl⟩
  go_wp2_with fail
  refine (M3.out _).mono ?_
  rintro e w' ⟨rfl, q3, rfl⟩
  go_wp2_with fail
  refine (A1.out _).mono ?_
  rintro e w' ⟨rfl, rfl⟩
  go_wp2_with fail
  refine (M4.out _).mono ?_
  rintro e w' ⟨rfl, q4, rfl⟩
  go_wp2_with fail
  refine (A2.out _).mono ?_
  rintro e w' ⟨rfl, rfl⟩
  go_wp2_with fail
  refine (S1.out _).mono ?_
  rintro e w' ⟨rfl, rfl⟩
  go_wp2_with fail
  refine (M5.out _).mono ?_
  rintro e w' ⟨rfl, q5, rfl⟩
  go_wp2_with fail
  refine (M6.out _).mono ?_
  rintro e w' ⟨rfl, q6, rfl⟩
  go_wp2_with fail
  rw [E1.out]
  refine (M7.out _).mono ?_
  rintro e w' ⟨rfl, q7, rfl⟩
  go_wp2_with fail
  refine (A3.out _).mono ?_
  rintro e w' ⟨rfl, rfl⟩
  go_wp2
  go_ret
  exact ⟨rfl, _, rfl⟩

theorem emod_nat (a : Int) (m : Nat) (hm : 1 ≤ m) : ∃ x : Nat, a % (m : Int) = x ∧ x < m := by
  have h1 := Int.emod_nonneg a (by omega : (m : Int) ≠ 0)
  have h2 := Int.emod_lt_of_pos a (by omega : 0 < (m : Int))
  exact ⟨(a % (m : Int)).toNat, by omega, by omega⟩

theorem WordRing (a b c m : Int) (_ : (Lit.int .i64 a).wf = true) (_ : (Lit.int .i64 b).wf = true) (_ : (Lit.int .i64 c).wf = true) (_ : (Lit.int .i64 m).wf = true) (w : World) (hT : Tab w) :
    Calls Tryd.prog 9 #[.int .i64 a, .int .i64 b, .int .i64 c, .int .i64 m] w fun e w' => e = .returned (.bool true) ∧ ∃ n, w' = w.drewN n := by
  by_cases h : m < 1 ∨ 2305843009213693952 ≤ m
  · exact ring_none a b c m h w hT
  · obtain ⟨m, rfl⟩ := Int.eq_ofNat_of_zero_le (show 0 ≤ m by omega)
    obtain ⟨x, ex, hx⟩ := emod_nat a m (by omega)
    obtain ⟨y, ey, hy⟩ := emod_nat b m (by omega)
    obtain ⟨z, ez, hz⟩ := emod_nat c m (by omega)
    exact ring_ok a b c m x y z (by omega) (by omega) ex ey ez hx hy hz w hT
end Go.Proofs.YtppcnfcndkpiiaaDoor.Wk
