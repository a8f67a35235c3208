/- Plain numbers for layer 1: the recursion behind the Jacobi symbol. No walk. -/
import Derived.WalkKit
namespace Go.Proofs.YtppcnfcndkpiiaaDoor.Wm

/-- The sign of 2, and that of an exchange. -/
def s2 (n : Nat) : Int := if n % 8 = 3 ∨ n % 8 = 5 then -1 else 1
def s4 (a n : Nat) : Int := if a % 4 = 3 ∧ n % 4 = 3 then -1 else 1

/-- The symbol, factor of 2 by factor of 2. -/
def jac (a n : Nat) : Int :=
  if _h : a = 0 then if n = 1 then 1 else 0
  else if a % 2 = 0 then s2 n * jac (a / 2) n
  else s4 a n * jac (n % a) a
termination_by a
decreasing_by
  · omega
  · exact Nat.mod_lt _ (by omega)

theorem jac_zero (n : Nat) : jac 0 n = if n = 1 then 1 else 0 := by rw [jac]; simp
theorem jac_even {a n : Nat} (h : a ≠ 0) (h2 : a % 2 = 0) : jac a n = s2 n * jac (a / 2) n := by rw [jac, dif_neg h, if_pos h2]
theorem jac_odd {a n : Nat} (h2 : a % 2 = 1) : jac a n = s4 a n * jac (n % a) a := by rw [jac, dif_neg (by omega), if_neg (by omega)]

theorem s2_or (n : Nat) : s2 n = 1 ∨ s2 n = -1 := by unfold s2; split <;> simp
theorem s4_or (a n : Nat) : s4 a n = 1 ∨ s4 a n = -1 := by unfold s4; split <;> simp

/-- All factors of 2 at once. -/
theorem jac_twos (t b n : Nat) (hb : b % 2 = 1) : jac (2 ^ t * b) n = (if t % 2 = 1 then s2 n else 1) * jac b n := by
  induction t with
  | zero => simp
  | succ t ih =>
    have hp : 0 < 2 ^ t := Nat.two_pow_pos t
    have h0 : 0 < 2 ^ t * b := Nat.mul_pos hp (by omega)
    have e : 2 ^ (t + 1) * b = 2 * (2 ^ t * b) := by rw [Nat.pow_succ, Nat.mul_comm _ 2, Nat.mul_assoc]
    rw [e, jac_even (by omega) (by omega), Nat.mul_div_cancel_left _ (by omega : 0 < 2), ih]
    rcases s2_or n with h | h <;> rw [h] <;> by_cases ht : t % 2 = 1
    · rw [if_pos ht, if_neg (by omega)]; simp
    · rw [if_neg ht, if_pos (by omega)]; simp
    · rw [if_pos ht, if_neg (by omega)]; simp
    · rw [if_neg ht, if_pos (by omega)]; simp

/-- One round of the program's loop. -/
theorem jac_round (t b n : Nat) (hb : b % 2 = 1) :
    jac (2 ^ t * b) n = (if t % 2 = 1 ∧ (n % 8 = 3 ∨ n % 8 = 5) then -1 else 1) * ((if b % 4 = 3 ∧ n % 4 = 3 then -1 else 1) * jac (n % b) b) := by
  rw [jac_twos t b n hb, jac_odd hb]
  unfold s2 s4
  by_cases h1 : t % 2 = 1 <;> by_cases h2 : n % 8 = 3 ∨ n % 8 = 5 <;> simp [h1, h2]
end Go.Proofs.YtppcnfcndkpiiaaDoor.Wm
