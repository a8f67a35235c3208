/- The contracts of the reference of layer 1 over this seat's translation. -/
import Derived.Test.YtppcnfcndkpiiaaDoorWjac
namespace Go.Proofs.YtppcnfcndkpiiaaDoor.Wr
open Go.RowKit Go.Proofs.YtppcnfcndkpiiaaDoor.Wb Go.Proofs.YtppcnfcndkpiiaaDoor.Ww

theorem ret_b {a c : Bool} (h : a = c) : Ending.returned (.bool a) = .returned (.bool c) := by rw [h]

theorem Modulus_yes (m : Int) (h1 : 1 ≤ m) (h2 : m < 2305843009213693952) (w : World) : Calls Tryd.prog 21 #[.int .i64 m] w fun e w' => e = .returned (.bool true) ∧ w' = w := by
  go_enter Tryd.func21, Tryd.ntmps21
  go_wp2
  go_ret
  exact ⟨rfl, rfl⟩
theorem Modulus_no (m : Int) (h1 : m < 1 ∨ 2305843009213693952 ≤ m) (w : World) : Calls Tryd.prog 21 #[.int .i64 m] w fun e w' => e = .returned (.bool false) ∧ w' = w := by
  by_cases h : m < 1
  · clear h1
    go_enter Tryd.func21, Tryd.ntmps21
    go_wp2
    go_ret
    exact ⟨rfl, rfl⟩
  · have h2 : 2305843009213693952 ≤ m := by omega
    clear h1
    go_enter Tryd.func21, Tryd.ntmps21
    go_wp2
    go_ret
    exact ⟨ret_b (decide_eq_false (by omega)), rfl⟩
theorem Residue_yes (a m : Int) (h1 : 0 ≤ a) (h2 : a < m) (w : World) : Calls Tryd.prog 22 #[.int .i64 a, .int .i64 m] w fun e w' => e = .returned (.bool true) ∧ w' = w := by
  go_enter Tryd.func22, Tryd.ntmps22
  go_wp2
  go_ret
  exact ⟨rfl, rfl⟩
theorem Residue_no (a m : Int) (h1 : a < 0 ∨ m ≤ a) (w : World) : Calls Tryd.prog 22 #[.int .i64 a, .int .i64 m] w fun e w' => e = .returned (.bool false) ∧ w' = w := by
  by_cases h : a < 0
  · clear h1
    go_enter Tryd.func22, Tryd.ntmps22
    go_wp2
    go_ret
    exact ⟨rfl, rfl⟩
  · have h2 : m ≤ a := by omega
    clear h1
    go_enter Tryd.func22, Tryd.ntmps22
    go_wp2
    go_ret
    exact ⟨ret_b (decide_eq_false (by omega)), rfl⟩

theorem Fault_any (a b m : Int) (w : World) : Calls Tryd.prog 17 #[.int .i64 a, .int .i64 b, .int .i64 m] w fun e w' => e = .returned (.int .i64 (chk a b m)) ∧ w' = w := by
  unfold chk
  by_cases h1 : m < 1 ∨ 2305843009213693952 ≤ m
  · rw [if_pos h1]
    have H := Lib.hid h1
    clear h1
    go_enter Tryd.func17, Tryd.ntmps17
    go_wp2_with fail
    refine (Modulus_no m H.out _).mono ?_
    rintro e w' ⟨rfl, rfl⟩
    go_wp2
    go_ret
    exact ⟨rfl, rfl⟩
  rw [if_neg h1]
  have g1 : 1 ≤ m := by omega
  have g2 : m < 2305843009213693952 := by omega
  clear h1
  by_cases h2 : a < 0 ∨ m ≤ a
  · rw [if_pos (by omega)]
    have H := Lib.hid h2
    clear h2
    go_enter Tryd.func17, Tryd.ntmps17
    go_wp2_with fail
    refine (Modulus_yes m g1 g2 _).mono ?_
    rintro e w' ⟨rfl, rfl⟩
    go_wp2_with fail
    refine (Residue_no a m H.out _).mono ?_
    rintro e w' ⟨rfl, rfl⟩
    go_wp2
    go_ret
    exact ⟨rfl, rfl⟩
  have g3 : 0 ≤ a := by omega
  have g4 : a < m := by omega
  clear h2
  by_cases h3 : b < 0 ∨ m ≤ b
  · rw [if_pos (by omega)]
    have H := Lib.hid h3
    clear h3
    go_enter Tryd.func17, Tryd.ntmps17
    go_wp2_with fail
    refine (Modulus_yes m g1 g2 _).mono ?_
    rintro e w' ⟨rfl, rfl⟩
    go_wp2_with fail
    refine (Residue_yes a m g3 g4 _).mono ?_
    rintro e w' ⟨rfl, rfl⟩
    go_wp2_with fail
    refine (Residue_no b m H.out _).mono ?_
    rintro e w' ⟨rfl, rfl⟩
    go_wp2
    go_ret
    exact ⟨rfl, rfl⟩
  have g5 : 0 ≤ b := by omega
  have g6 : b < m := by omega
  clear h3
  rw [if_neg (by omega)]
  go_enter Tryd.func17, Tryd.ntmps17
  go_wp2_with fail
  refine (Modulus_yes m g1 g2 _).mono ?_
  rintro e w' ⟨rfl, rfl⟩
  go_wp2_with fail
  refine (Residue_yes a m g3 g4 _).mono ?_
  rintro e w' ⟨rfl, rfl⟩
  go_wp2_with fail
  refine (Residue_yes b m g5 g6 _).mono ?_
  rintro e w' ⟨rfl, rfl⟩
  go_wp2
  go_ret
  exact ⟨rfl, rfl⟩

theorem Reduce_any (a m : Int) (hm : 1 ≤ m) (hm2 : m < 2305843009213693952) (w : World) :
    Calls Tryd.prog 18 #[.int .i64 a, .int .i64 m] w fun x w' => x = .returned (.int .i64 (a % m)) ∧ w' = w := by
  by_cases ha : 0 ≤ a
  · have h1 := Int.emod_nonneg a (by omega : m ≠ 0)
    have h2 := Int.emod_lt_of_pos a (by omega : 0 < m)
    go_enter Tryd.func18, Tryd.ntmps18
    go_wp2
    go_ret
    exact ⟨rfl, rfl⟩
  · rcases tmod_cases a m (by omega) with ⟨h1, h2, h3⟩ | ⟨h1, h2, h3⟩
    all_goals
      have HR := Lib.hid h3
      clear h3
      go_enter Tryd.func18, Tryd.ntmps18
      go_wp2
      go_ret
      exact ⟨ret_i HR.out.symm, rfl⟩

theorem mul_half (a b m o : Nat) (hb : b % 2 = 0) : (o + (a + a) % m * (b / 2)) % m = (o + a * b) % m := by
  rw [← Nat.add_mod_mod, Nat.mod_mul_mod, Nat.add_mod_mod]
  have : (a + a) * (b / 2) = a * b := by
    have e : b = 2 * (b / 2) := by omega
    conv => rhs; rw [e]
    rw [← Nat.two_mul, Nat.mul_assoc, Nat.mul_left_comm]
  rw [this]
theorem mul_half_odd (a b m o : Nat) (hb : b % 2 = 1) : ((o + a) % m + (a + a) % m * (b / 2)) % m = (o + a * b) % m := by
  rw [Nat.mod_add_mod, ← Nat.add_mod_mod, Nat.mod_mul_mod, Nat.add_mod_mod]
  have : (a + a) * (b / 2) = a * (b - 1) := by
    have e : b - 1 = 2 * (b / 2) := by omega
    rw [e, ← Nat.two_mul, Nat.mul_assoc, Nat.mul_left_comm]
  have e2 : a * b = a * (b - 1) + a := by
    have e : b = (b - 1) + 1 := by omega
    conv => lhs; rw [e]
    rw [Nat.mul_add, Nat.mul_one]
  rw [this, e2, Nat.add_assoc, Nat.add_comm a]

set_option maxHeartbeats 1000000 in
theorem Mul_any (a b m : Nat) (ha : a < m) (hb : b < m) (hm : m < 2305843009213693952) (w : World) :
    Calls Tryd.prog 19 #[.int .i64 a, .int .i64 b, .int .i64 m] w fun x w' => x = .returned (.int .i64 ((a * b % m : Nat) : Int)) ∧ w' = w := by
  by_cases hs : a < 2147483648 ∧ b < 2147483648
  · obtain ⟨h1, h2⟩ := hs
    have hp : a * b < 4611686018427387904 := by
      have : a * b ≤ a * 2147483648 := Nat.mul_le_mul_left _ (by omega)
      omega
    have e : wrap64 ((a : Int) * (b : Int)) % (m : Int) = ((a * b % m : Nat) : Int) := by
      rw [← Int.natCast_mul, IntWalk.wrap64_in _ ⟨by omega, by omega⟩, Int.natCast_emod]
    have e2 : (wrap64 ((a : Int) * (b : Int))).tmod (m : Int) = ((a * b % m : Nat) : Int) := by
      rw [← e, Int.tmod_eq_emod_of_nonneg]
      rw [← Int.natCast_mul, IntWalk.wrap64_in _ ⟨by omega, by omega⟩]; omega
    have E := Lib.hid e2
    have d1 : decide ((a : Int) < 2147483648) = true := by simp; omega
    have d2 : decide ((b : Int) < 2147483648) = true := by simp; omega
    clear e e2 hp h1 h2
    go_enter Tryd.func19, Tryd.ntmps19
    go_wp2
    go_ret
    exact ⟨ret_i E.out, rfl⟩
  · obtain ⟨A, HA⟩ : ∃ A, Hid (a * b % m = A) := ⟨_, Lib.hid rfl⟩
    have hst : (0 + a * b) % m = A := by rw [Nat.zero_add]; exact HA.out
    have Hst := Lib.hid hst
    rw [HA.out]
    clear hst HA
    have hT : (decide ((a : Int) < 2147483648) = false) ∨ (decide ((a : Int) < 2147483648) = true ∧ decide ((b : Int) < 2147483648) = false) := by
      by_cases h1 : a < 2147483648
      · exact Or.inr ⟨decide_eq_true (by omega), decide_eq_false (by omega)⟩
      · exact Or.inl (decide_eq_false (by omega))
    clear hs
    have hbb : b < 2305843009213693952 := by omega
    rcases hT with d1 | ⟨d1, d2⟩
    all_goals
      go_enter Tryd.func19, Tryd.ntmps19
      go_wp2_with fail
      go_loop [0, 1, 7] (fun s0 s1 s7 => ∃ a b o : Nat, s0 = .int .i64 a ∧ s1 = .int .i64 b ∧ s7 = .int .i64 o ∧ a < m ∧ o < m ∧ b < 2305843009213693952 ∧ Hid ((o + a * b) % m = A)) (fun _ s1 _ => (intOf s1).toNat)
      case atStart => exact ⟨a, b, 0, rfl, rfl, rfl, ha, by omega, hbb, Hst⟩
      case round =>
        clear Hst hbb ha hb d1
        try clear d2
        obtain ⟨a, b, o, rfl, rfl, rfl, ha, ho, hb, HI⟩ := hrel
        by_cases h0 : b = 0
        · have HR : Hid ((o : Int) = (A : Int)) := Lib.hid (by rw [← HI.out, h0, Nat.mul_zero, Nat.add_zero, Nat.mod_eq_of_lt ho])
          have hb0 : ¬ 0 < (b : Int) := by omega
          clear h0
          go_wp2
          go_ret
          exact ⟨ret_i HR.out, rfl⟩
        · have hb0 : 0 < (b : Int) := by omega
          have hM : (a + a) % m < m := Nat.mod_lt _ (by omega)
          have E1 : Hid (((a : Int) + (a : Int)) % (m : Int) = (((a + a) % m : Nat) : Int)) := Lib.hid (by rw [Int.natCast_emod]; rfl)
          have hO : (o + a) % m < m := Nat.mod_lt _ (by omega)
          have E2 : Hid (((o : Int) + (a : Int)) % (m : Int) = (((o + a) % m : Nat) : Int)) := Lib.hid (by rw [Int.natCast_emod]; rfl)
          have E3 : Hid ((b : Int) / 2 = ((b / 2 : Nat) : Int)) := Lib.hid (by omega)
          by_cases h2 : b % 2 = 1
          · have HI2 : Hid (((o + a) % m + (a + a) % m * (b / 2)) % m = A) := Lib.hid (by rw [mul_half_odd a b m o h2]; exact HI.out)
            have hp : ((b : Int) % 2 == 1) = true := by simp; omega
            generalize (a + a) % m = M at *
            generalize (o + a) % m = O at *
            clear h2 h0 HI
            go_wp2
            go_round
            case rel => exact ⟨M, b / 2, O, by rw [E1.out], by rw [E3.out], by rw [E2.out], hM, hO, by omega, HI2⟩
            case measure => rw [E3.out]; simp [intOf]; omega
          · have HI2 : Hid ((o + (a + a) % m * (b / 2)) % m = A) := Lib.hid (by rw [mul_half a b m o (by omega)]; exact HI.out)
            have hp : ((b : Int) % 2 == 1) = false := by simp; omega
            generalize (a + a) % m = M at *
            clear h2 h0 HI
            go_wp2
            go_round
            case rel => exact ⟨M, b / 2, o, by rw [E1.out], by rw [E3.out], rfl, hM, ho, by omega, HI2⟩
            case measure => rw [E3.out]; simp [intOf]; omega

set_option maxHeartbeats 1000000 in
theorem Pow_any (a e m : Nat) (ha : a < m) (hm : m < 2305843009213693952) (he : e < 9223372036854775808) (w : World) :
    Calls Tryd.prog 23 #[.int .i64 a, .int .i64 e, .int .i64 m] w fun x w' => x = .returned (.int .i64 ((a ^ e % m : Nat) : Int)) ∧ w' = w := by
  obtain ⟨one, h1⟩ : ∃ one, one = 1 % m := ⟨_, rfl⟩
  have e1 : (1 : Int) % (m : Int) = (one : Int) := by rw [h1, Int.natCast_emod]; rfl
  have h1m : one < m := by rw [h1]; exact Nat.mod_lt _ (by omega)
  have hst : one * a ^ e % m = a ^ e % m := by rw [h1, Nat.mod_mul_mod, Nat.one_mul]
  obtain ⟨A, HA⟩ : ∃ A, Hid (a ^ e % m = A) := ⟨_, Lib.hid rfl⟩
  rw [HA.out] at hst
  have Hst := Lib.hid hst
  rw [HA.out]
  clear h1 hst HA
  go_enter Tryd.func23, Tryd.ntmps23
  go_wp2_with fail
  go_loop [0, 1, 7] (fun s0 s1 s7 => ∃ a e p : Nat, s0 = .int .i64 a ∧ s1 = .int .i64 e ∧ s7 = .int .i64 p ∧ a < m ∧ p < m ∧ e < 9223372036854775808 ∧ Hid (p * a ^ e % m = A)) (fun _ s1 _ => (intOf s1).toNat)
  case atStart => exact ⟨a, e, one, rfl, rfl, by rw [e1], ha, h1m, he, Hst⟩
  case round =>
    clear Hst e1 h1m he ha
    obtain ⟨a, e, p, rfl, rfl, rfl, ha, hp, he, HI⟩ := hrel
    by_cases h0 : e = 0
    · have HR : Hid ((p : Int) = (A : Int)) := Lib.hid (by rw [← HI.out, h0, Nat.pow_zero, Nat.mul_one, Nat.mod_eq_of_lt hp])
      have hb0 : ¬ 0 < (e : Int) := by omega
      clear h0
      go_wp2
      go_ret
      exact ⟨ret_i HR.out, rfl⟩
    · have hb0 : 0 < (e : Int) := by omega
      have HM := Lib.hid (fun w => Mul_any a a m ha ha hm w)
      have hM : a * a % m < m := Nat.mod_lt _ (by omega)
      have HP := Lib.hid (fun w => Mul_any p a m hp ha hm w)
      have hP : p * a % m < m := Nat.mod_lt _ (by omega)
      have E3 : Hid ((e : Int) / 2 = ((e / 2 : Nat) : Int)) := Lib.hid (by omega)
      by_cases h2 : e % 2 = 1
      · have HI2 : Hid ((p * a % m) * (a * a % m) ^ (e / 2) % m = A) := Lib.hid (by rw [pow_odd, show 2 * (e / 2) + 1 = e by omega]; exact HI.out)
        have hpar : ((e : Int) % 2 == 1) = true := by simp; omega
        generalize a * a % m = M at *
        generalize p * a % m = P at *
        clear h2 h0 HI
        go_wp2_with fail
        refine (HP.out _).mono ?_
        rintro x w' ⟨rfl, rfl⟩
        go_wp2_with fail
        refine (HM.out _).mono ?_
        rintro x w' ⟨rfl, rfl⟩
        go_wp2
        go_round
        case rel => exact ⟨M, e / 2, P, rfl, by rw [E3.out], rfl, hM, hP, by omega, HI2⟩
        case measure => rw [E3.out]; simp [intOf]; omega
      · have HI2 : Hid (p * (a * a % m) ^ (e / 2) % m = A) := Lib.hid (by rw [pow_even, show 2 * (e / 2) = e by omega]; exact HI.out)
        have hpar : ((e : Int) % 2 == 1) = false := by simp; omega
        generalize a * a % m = M at *
        clear h2 h0 HI
        go_wp2_with fail
        refine (HM.out _).mono ?_
        rintro x w' ⟨rfl, rfl⟩
        go_wp2
        go_round
        case rel => exact ⟨M, e / 2, p, rfl, by rw [E3.out], rfl, hM, hp, by omega, HI2⟩
        case measure => rw [E3.out]; simp [intOf]; omega
end Go.Proofs.YtppcnfcndkpiiaaDoor.Wr
