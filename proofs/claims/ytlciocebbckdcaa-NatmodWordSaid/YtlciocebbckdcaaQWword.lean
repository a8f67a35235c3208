/- The contracts of package word over this seat's translation. -/
import Derived.Test.YtlciocebbckdcaaQWdiv
namespace Go.Proofs.Ytlciocebbckdcaa.Ww
open Go.RowKit Go.Proofs.Ytlciocebbckdcaa.Wb

theorem ret_i {a c : Int} (h : a = c) : Ending.returned (.int .i64 a) = .returned (.int .i64 c) := by rw [h]
theorem ret_ii {a b c d : Int} (h1 : a = c) (h2 : b = d) : Ending.returned (.tuple #[.int .i64 a, .int .i64 b]) = .returned (.tuple #[.int .i64 c, .int .i64 d]) := by rw [h1, h2]
theorem ret_iii {a b c d e f : Int} (h1 : a = c) (h2 : b = d) (h3 : e = f) : Ending.returned (.tuple #[.int .i64 a, .int .i64 b, .int .i64 e]) = .returned (.tuple #[.int .i64 c, .int .i64 d, .int .i64 f]) := by rw [h1, h2, h3]

/-- The error of two residues and their modulus. -/
def chk (a b m : Int) : Int := if m < 1 ∨ 2305843009213693952 ≤ m then 1 else if a < 0 ∨ m ≤ a ∨ b < 0 ∨ m ≤ b then 2 else 0

theorem chk_ok {a b m : Nat} (ha : a < m) (hb : b < m) (hm : m < 2305843009213693952) : chk (a : Int) (b : Int) (m : Int) = 0 := by
  unfold chk; rw [if_neg (by omega), if_neg (by omega)]
theorem chk_cases (a b m : Int) : (chk a b m = 1 ∧ (m < 1 ∨ 2305843009213693952 ≤ m)) ∨ (chk a b m = 2 ∧ 1 ≤ m ∧ m < 2305843009213693952 ∧ (a < 0 ∨ m ≤ a ∨ b < 0 ∨ m ≤ b)) ∨
    (chk a b m = 0 ∧ 1 ≤ m ∧ m < 2305843009213693952 ∧ 0 ≤ a ∧ a < m ∧ 0 ≤ b ∧ b < m) := by
  unfold chk
  by_cases h1 : m < 1 ∨ 2305843009213693952 ≤ m
  · rw [if_pos h1]; exact Or.inl ⟨rfl, h1⟩
  · rw [if_neg h1]
    by_cases h2 : a < 0 ∨ m ≤ a ∨ b < 0 ∨ m ≤ b
    · rw [if_pos h2]; exact Or.inr (Or.inl ⟨rfl, by omega, by omega, h2⟩)
    · rw [if_neg h2]; exact Or.inr (Or.inr ⟨rfl, by omega⟩)

theorem check_any (a b m : Int) (w : World) : Calls Try.prog 98 #[.int .i64 a, .int .i64 b, .int .i64 m] w fun e w' => e = .returned (.int .i64 (chk a b m)) ∧ w' = w := by
  unfold chk
  by_cases h1 : m < 1
  · rw [if_pos (Or.inl h1)]
    go_enter Try.func98, Try.ntmps98
    go_wp2
    go_ret
    exact ⟨rfl, rfl⟩
  by_cases h2 : 2305843009213693952 ≤ m
  · rw [if_pos (Or.inr h2)]
    go_enter Try.func98, Try.ntmps98
    go_wp2
    go_ret
    exact ⟨rfl, rfl⟩
  rw [if_neg (by omega)]
  by_cases h3 : a < 0
  · rw [if_pos (Or.inl h3)]
    go_enter Try.func98, Try.ntmps98
    go_wp2
    go_ret
    exact ⟨rfl, rfl⟩
  by_cases h4 : m ≤ a
  · rw [if_pos (by omega)]
    go_enter Try.func98, Try.ntmps98
    go_wp2
    go_ret
    exact ⟨rfl, rfl⟩
  by_cases h5 : b < 0
  · rw [if_pos (by omega)]
    go_enter Try.func98, Try.ntmps98
    go_wp2
    go_ret
    exact ⟨rfl, rfl⟩
  by_cases h6 : m ≤ b
  · rw [if_pos (by omega)]
    go_enter Try.func98, Try.ntmps98
    go_wp2
    go_ret
    exact ⟨rfl, rfl⟩
  rw [if_neg (by omega)]
  go_enter Try.func98, Try.ntmps98
  go_wp2
  go_ret
  exact ⟨rfl, rfl⟩

theorem mul_lt (a b m : Nat) (ha : a < m) (hb : b < m) (hm : m < 2305843009213693952) : a * b / 18446744073709551616 < m ∧ a * b % m < m := by
  refine ⟨?_, Nat.mod_lt _ (by omega)⟩
  apply Nat.div_lt_of_lt_mul
  have h1 : a * b ≤ a * 18446744073709551616 := Nat.mul_le_mul_left _ (by omega)
  have h2 : (a + 1) * 18446744073709551616 ≤ m * 18446744073709551616 := Nat.mul_le_mul_right _ ha
  omega

theorem mul_any (a b m : Nat) (ha : a < m) (hb : b < m) (hm : m < 2305843009213693952) (w : World) :
    Calls Try.prog 99 #[.int .i64 a, .int .i64 b, .int .i64 m] w fun e w' => e = .returned (.int .i64 ((a * b % m : Nat) : Int)) ∧ ∃ n, w' = w.drewN n := by
  obtain ⟨h1, h2⟩ := mul_lt a b m ha hb hm
  have h3 : a * b / 18446744073709551616 * 18446744073709551616 + a * b % 18446744073709551616 = a * b := Nat.div_add_mod' _ _
  have d := fun w => div64 (a * b / 18446744073709551616) (a * b % 18446744073709551616) m (by omega) h1 (Nat.mod_lt _ (by decide)) w
  rw [h3] at d
  have D := Lib.hid d
  clear d h3
  have hr : a * b % m < 2305843009213693952 := by omega
  generalize a * b % m = r at *
  go_enter Try.func99, Try.ntmps99
  go_wp2_with fail
  refine (mul64 a b (by omega) (by omega) _).mono ?_
  rintro e w' ⟨rfl, rfl⟩
  go_wp2_with fail
  refine (D.out _).mono ?_
  rintro e w' ⟨rfl, n, rfl⟩
  go_wp2
  go_ret
  exact ⟨rfl, n, rfl⟩

theorem Add_bad (a b m c : Int) (hc : chk a b m = c) (h0 : c = 1 ∨ c = 2) (w : World) :
    Calls Try.prog 50 #[.int .i64 a, .int .i64 b, .int .i64 m] w fun e w' => e = .returned (.tuple #[.int .i64 0, .int .i64 c]) ∧ w' = w := by
  have Hc := Lib.hid hc
  clear hc
  rcases h0 with rfl | rfl
  all_goals
    go_enter Try.func50, Try.ntmps50
    go_wp2_with fail
    refine (check_any _ _ _ _).mono ?_
    rintro e w' ⟨rfl, rfl⟩
    rw [Hc.out]
    go_wp2
    go_ret2
    exact ⟨rfl, rfl⟩

theorem Mul_bad (a b m c : Int) (hc : chk a b m = c) (h0 : c = 1 ∨ c = 2) (w : World) :
    Calls Try.prog 51 #[.int .i64 a, .int .i64 b, .int .i64 m] w fun e w' => e = .returned (.tuple #[.int .i64 0, .int .i64 c]) ∧ w' = w := by
  have Hc := Lib.hid hc
  clear hc
  rcases h0 with rfl | rfl
  all_goals
    go_enter Try.func51, Try.ntmps51
    go_wp2_with fail
    refine (check_any _ _ _ _).mono ?_
    rintro e w' ⟨rfl, rfl⟩
    rw [Hc.out]
    go_wp2
    go_ret2
    exact ⟨rfl, rfl⟩

theorem Add_ok (a b m : Nat) (ha : a < m) (hb : b < m) (hm : m < 2305843009213693952) (w : World) :
    Calls Try.prog 50 #[.int .i64 a, .int .i64 b, .int .i64 m] w fun e w' => e = .returned (.tuple #[.int .i64 (((a + b) % m : Nat) : Int), .int .i64 0]) ∧ w' = w := by
  have Hc := Lib.hid (chk_ok ha hb hm)
  have Hr : ((a : Int) + (b : Int)) % (m : Int) = (((a + b) % m : Nat) : Int) := by rw [Int.natCast_emod]; rfl
  go_enter Try.func50, Try.ntmps50
  go_wp2_with fail
  refine (check_any _ _ _ _).mono ?_
  rintro e w' ⟨rfl, rfl⟩
  rw [Hc.out]
  go_wp2
  go_ret2
  exact ⟨rfl, rfl⟩

theorem Mul_ok (a b m : Nat) (ha : a < m) (hb : b < m) (hm : m < 2305843009213693952) (w : World) :
    Calls Try.prog 51 #[.int .i64 a, .int .i64 b, .int .i64 m] w fun e w' => e = .returned (.tuple #[.int .i64 ((a * b % m : Nat) : Int), .int .i64 0]) ∧ ∃ n, w' = w.drewN n := by
  have Hc := Lib.hid (chk_ok ha hb hm)
  have d := fun w => mul_any a b m ha hb hm w
  have D := Lib.hid d
  clear d
  generalize a * b % m = r at *
  go_enter Try.func51, Try.ntmps51
  go_wp2_with fail
  refine (check_any _ _ _ _).mono ?_
  rintro e w' ⟨rfl, rfl⟩
  rw [Hc.out]
  go_wp2_with fail
  refine (D.out _).mono ?_
  rintro e w' ⟨rfl, n, rfl⟩
  go_wp2
  go_ret2
  exact ⟨rfl, n, rfl⟩

theorem pow_odd (p a m k : Nat) : (p * a % m) * (a * a % m) ^ k % m = p * a ^ (2 * k + 1) % m := by
  rw [Nat.mul_mod, Nat.pow_mod, Nat.mod_mod, Nat.mod_mod, ← Nat.pow_mod, ← Nat.mul_mod, Nat.pow_succ, Nat.pow_mul, Nat.pow_two]
  congr 1
  rw [Nat.mul_assoc, Nat.mul_comm (_ ^ k) a]
theorem pow_even (p a m k : Nat) : p * (a * a % m) ^ k % m = p * a ^ (2 * k) % m := by
  rw [Nat.mul_mod, Nat.pow_mod, Nat.mod_mod, ← Nat.pow_mod, ← Nat.mul_mod, Nat.pow_mul, Nat.pow_two]
theorem and_one (e : Nat) (he : e < 9223372036854775808) : bits .and .i64 (e : Int) 1 = ((e % 2 : Nat) : Int) := by
  have hx : e &&& 1 < 2 ^ 1 := Nat.and_lt_two_pow _ (by omega)
  have h1 : (BitVec.ofInt 64 (e : Int)).toNat = e := by
    rw [BitVec.ofInt_natCast, BitVec.toNat_ofNat]; exact Nat.mod_eq_of_lt (by omega)
  have h2 : (BitVec.ofInt 64 (1 : Int)).toNat = 1 := by decide
  show IntKind.i64.wrap ((BitVec.ofInt 64 (e : Int) &&& BitVec.ofInt 64 (1 : Int)).toNat : Int) = _
  rw [BitVec.toNat_and, h1, h2, IntKind.wrap_i64, Nat.and_one_is_mod]
  omega

end Go.Proofs.Ytlciocebbckdcaa.Ww
