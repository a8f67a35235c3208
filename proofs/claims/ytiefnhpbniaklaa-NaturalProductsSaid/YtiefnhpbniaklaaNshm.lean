/- The walk of NaturalShifts: shifts are powers of 2. -/
import Derived.Test.YtiefnhpbniaklaaNpre
namespace Go.Proofs.Ytiefnhpbniaklaa.Nlshifts
open Go.RowKit Go.Shelf Go.Proofs.Ytiefnhpbniaklaa.Nm Go.Proofs.Ytiefnhpbniaklaa.Ne Go.Proofs.Ytiefnhpbniaklaa.Nf Go.Proofs.Ytiefnhpbniaklaa.Nk Go.Proofs.Ytiefnhpbniaklaa.Nv Go.Proofs.Ytiefnhpbniaklaa.Nl

theorem pw64 {N : Nat} (h : N = 2048) : pw 64 = 2 ^ N := by
  have e : 32 * 64 = N := by omega
  rw [← e]
  exact pw_eq 64
theorem nb_bound {x : Nat} (h : x < pw 64) : nb x ≤ 2048 := by
  obtain ⟨N, hN⟩ : ∃ N, N = 2048 := ⟨_, rfl⟩
  rw [← hN]
  exact (nb_le x N).2 (by rw [← pw64 hN]; exact h)
theorem nb_shift {x : Nat} (K : Nat) (h : 0 < x) : nb (x * 2 ^ K) = nb x + K := by
  have h1 := (nb_le x (nb x)).1 (Nat.le_refl _)
  have h0 : 0 < nb x := Nat.pos_of_ne_zero (fun e => by
    have := (nb_le x 0).1 (by omega)
    omega)
  have h2 : ¬ x < 2 ^ (nb x - 1) := fun hh => by
    have := (nb_le x (nb x - 1)).2 hh
    omega
  apply Nat.le_antisymm
  · rw [nb_le, Nat.pow_add]
    exact Nat.mul_lt_mul_of_pos_right h1 (Nat.pow_pos (by decide))
  · apply Nat.le_of_not_lt
    intro hh
    have h3 := (nb_le (x * 2 ^ K) (nb x - 1 + K)).1 (by omega)
    rw [Nat.pow_add] at h3
    exact h2 (Nat.lt_of_mul_lt_mul_right h3)
theorem nb_down (x K : Nat) : nb (x / 2 ^ K) = nb x - K := by
  have e : ∀ j, nb (x / 2 ^ K) ≤ j ↔ nb x ≤ j + K := by
    intro j
    rw [nb_le, nb_le, Nat.pow_add, Nat.div_lt_iff_lt_mul (Nat.pow_pos (by decide))]
  have h1 := (e (nb (x / 2 ^ K))).1 (Nat.le_refl _)
  have h2 := (e (nb x - K)).2 (by omega)
  omega
theorem nb_big {x K : Nat} (h : pw 64 ≤ x * 2 ^ K) : 2048 < nb x + K := by
  obtain ⟨N, hN⟩ : ∃ N, N = 2048 := ⟨_, rfl⟩
  rw [← hN]
  apply Nat.lt_of_not_le
  intro hh
  rcases Nat.eq_zero_or_pos x with h0 | h0
  · subst h0
    have := pw_pos 64
    omega
  · have h1 := (nb_le (x * 2 ^ K) (nb x + K)).1 (by rw [nb_shift K h0]; exact Nat.le_refl _)
    have h2 : 2 ^ (nb x + K) ≤ 2 ^ N := Nat.pow_le_pow_right (by decide) hh
    rw [pw64 hN] at h
    omega
theorem down_zero {x K : Nat} (h : x < pw 64) (hK : 2048 ≤ K) : x / 2 ^ K = 0 := by
  obtain ⟨N, hN⟩ : ∃ N, N = 2048 := ⟨_, rfl⟩
  apply Nat.div_eq_of_lt
  have : 2 ^ N ≤ 2 ^ K := Nat.pow_le_pow_right (by decide) (by omega)
  rw [pw64 hN] at h
  omega
theorem power_fits {K : Nat} (h : K < 2048) : 2 ^ K < pw 64 := by
  obtain ⟨N, hN⟩ : ∃ N, N = 2048 := ⟨_, rfl⟩
  rw [pw64 hN]
  exact Nat.pow_lt_pow_right (by decide) (by omega)
theorem power_big {K : Nat} (h : 2048 ≤ K) : pw 64 ≤ 2 ^ K := by
  obtain ⟨N, hN⟩ : ∃ N, N = 2048 := ⟨_, rfl⟩
  rw [pw64 hN]
  exact Nat.pow_le_pow_right (by decide) (by omega)
theorem bit_down (x K i : Nat) : (x / 2 ^ K).testBit i = x.testBit (i + K) := by rw [Nat.testBit_div_two_pow]
theorem u16_lt {a : Int} (h : (Lit.int .u16 a).wf = true) : 0 ≤ a ∧ a < 65536 := by
  simp [Lit.wf, IntKind.min, IntKind.max, IntKind.signed, IntKind.bits] at h
  omega
end Go.Proofs.Ytiefnhpbniaklaa.Nlshifts
