/- Plain numbers for layer 1: the division of two words by one (Knuth's step with half words), and what it asks. No walk. -/
import Derived.WalkKit
namespace Go.Proofs.Ytlciocebbckdcaa.Wm

/-! ### One step of the division: u < y, y = n1 B + n0, B = 2^32. -/
theorem split_mul (q n1 n0 r d u : Nat) (hu : q * n1 + r = u) :
    (q * n0 ≤ 4294967296 * r + d → q * (n1 * 4294967296 + n0) ≤ u * 4294967296 + d) ∧
    (4294967296 * r + d < q * n0 → u * 4294967296 + d < q * (n1 * 4294967296 + n0)) := by
  have e : q * (n1 * 4294967296 + n0) = q * n1 * 4294967296 + q * n0 := by rw [Nat.mul_add, ← Nat.mul_assoc]
  subst hu
  constructor <;> intro h <;> omega

/-- A guess that is too big by the test is bigger than the quotient. -/
theorem guess_big (q n1 n0 r d u : Nat) (hy : 0 < n1 * 4294967296 + n0) (hu : q * n1 + r = u) (h : 4294967296 * r + d < q * n0) :
    (u * 4294967296 + d) / (n1 * 4294967296 + n0) < q := by
  exact (Nat.div_lt_iff_lt_mul hy).2 ((split_mul q n1 n0 r d u hu).2 h)

/-- The quotient is one digit. -/
theorem quot_digit (d u y : Nat) (huy : u < y) (hd : d < 4294967296) : (u * 4294967296 + d) / y < 4294967296 := by
  apply Nat.div_lt_of_lt_mul
  have : (u + 1) * 4294967296 ≤ y * 4294967296 := Nat.mul_le_mul_right _ huy
  omega

/-- A guess that the test lets by, and that is no less than the quotient, is the quotient. -/
theorem guess_right (q n1 n0 r d u : Nat) (hy : 0 < n1 * 4294967296 + n0) (hu : q * n1 + r = u) (h : q * n0 ≤ 4294967296 * r + d)
    (hq : (u * 4294967296 + d) / (n1 * 4294967296 + n0) ≤ q) : q = (u * 4294967296 + d) / (n1 * 4294967296 + n0) := by
  have h1 := (split_mul q n1 n0 r d u hu).1 h
  exact Nat.le_antisymm ((Nat.le_div_iff_mul_le hy).2 h1) hq

/-- A remainder of two words or more ends the search. -/
theorem guess_end (q n1 n0 r d u : Nat) (hu : q * n1 + r = u) (huy : u < n1 * 4294967296 + n0) (hn0 : n0 < 4294967296) (hr : 4294967296 ≤ r) :
    q * n0 ≤ 4294967296 * r + d := by
  have hq : q < 4294967296 := by
    rcases Nat.lt_or_ge q 4294967296 with h | h
    · exact h
    · have : 4294967296 * n1 ≤ q * n1 := Nat.mul_le_mul_right _ h
      omega
  have : q * n0 ≤ 4294967296 * n0 := Nat.mul_le_mul_right _ (by omega)
  have : 4294967296 * n0 ≤ 4294967296 * r := Nat.mul_le_mul_left _ (by omega)
  omega

/-- The first guess is no less than the quotient. -/
theorem guess_first (n1 n0 d u : Nat) (hn1 : 0 < n1) (hd : d < 4294967296) :
    (u * 4294967296 + d) / (n1 * 4294967296 + n0) ≤ u / n1 := by
  rw [Nat.le_div_iff_mul_le hn1]
  have h := Nat.div_mul_le_self (u * 4294967296 + d) (n1 * 4294967296 + n0)
  generalize (u * 4294967296 + d) / (n1 * 4294967296 + n0) = q at *
  have e : q * (n1 * 4294967296 + n0) = q * n1 * 4294967296 + q * n0 := by rw [Nat.mul_add, ← Nat.mul_assoc]
  omega

/-! ### The whole division: x = hi 2^64 + lo; both shifted by s, so that y is at least 2^63. -/
/-- Dividing two digits one after the other. -/
theorem two_digits_of (B a d0 y : Nat) (hy : 0 < y) :
    (a / y) * B + ((a % y) * B + d0) / y = (a * B + d0) / y ∧ ((a % y) * B + d0) % y = (a * B + d0) % y := by
  have e : a * B + d0 = y * (a / y * B) + (a % y * B + d0) := by
    have h : a * B = (y * (a / y) + a % y) * B := by rw [Nat.div_add_mod]
    rw [h, Nat.add_mul, Nat.mul_assoc, Nat.add_assoc]
  rw [e, Nat.mul_add_div hy, Nat.mul_add_mod]
  exact ⟨rfl, rfl⟩
theorem two_digits (u d1 d0 y : Nat) (hy : 0 < y) :
    ((u * 4294967296 + d1) / y) * 4294967296 + (((u * 4294967296 + d1) % y) * 4294967296 + d0) / y = (u * 18446744073709551616 + d1 * 4294967296 + d0) / y ∧
    (((u * 4294967296 + d1) % y) * 4294967296 + d0) % y = (u * 18446744073709551616 + d1 * 4294967296 + d0) % y := by
  have e : u * 18446744073709551616 + d1 * 4294967296 + d0 = (u * 4294967296 + d1) * 4294967296 + d0 := by omega
  rw [e]
  exact two_digits_of _ _ _ _ hy

theorem shifted (x y s : Nat) : (x * 2 ^ s) / (y * 2 ^ s) = x / y ∧ (x * 2 ^ s) % (y * 2 ^ s) / 2 ^ s = x % y := by
  have hp : 0 < 2 ^ s := Nat.two_pow_pos s
  exact ⟨Nat.mul_div_mul_right _ _ hp, by rw [Nat.mul_mod_mul_right, Nat.mul_div_cancel _ hp]⟩

/-- The parts of the shifted number. -/
theorem parts (hi lo s : Nat) (hs : s ≤ 64) :
    (hi * 2 ^ s + lo / 2 ^ (64 - s)) * 18446744073709551616 + (lo * 2 ^ s % 18446744073709551616) / 4294967296 * 4294967296 + (lo * 2 ^ s % 18446744073709551616) % 4294967296 = (hi * 18446744073709551616 + lo) * 2 ^ s := by
  have e : 2 ^ (64 - s) * 2 ^ s = 18446744073709551616 := by
    rw [← Nat.pow_add, Nat.sub_add_cancel hs]
  have h1 : lo * 2 ^ s / 18446744073709551616 = lo / 2 ^ (64 - s) := by
    rw [← e, Nat.mul_div_mul_right _ _ (Nat.two_pow_pos s)]
  have h2 := Nat.div_add_mod (lo * 2 ^ s) 18446744073709551616
  rw [h1] at h2
  rw [Nat.add_mul, Nat.add_mul (hi * 18446744073709551616)]
  have e3 : hi * 18446744073709551616 * 2 ^ s = hi * 2 ^ s * 18446744073709551616 := by rw [Nat.mul_assoc, Nat.mul_comm 18446744073709551616, ← Nat.mul_assoc]
  generalize lo * 2 ^ s = z at *
  generalize hi * 2 ^ s = t at *
  omega

/-- 'Or' of parts that share no bit. -/
theorem or_add (a b s : Nat) (hb : b < 2 ^ s) : a * 2 ^ s ||| b = a * 2 ^ s + b := by
  rw [Nat.mul_comm, Nat.two_pow_add_eq_or_of_lt hb]

end Go.Proofs.Ytlciocebbckdcaa.Wm
