/- Plain numbers for layer 1: Euclid's algorithm with one factor, and what follows from it for inverses and linear congruences. No walk. -/
import Derived.WalkKit
namespace Go.Proofs.Ytlciocebbckdcaa.Wm

/-- What the loop of euclid keeps. -/
structure Eu (a m : Nat) (x next : Int) (d rest : Nat) : Prop where
  gcd : Nat.gcd d rest = Nat.gcd a m
  cx : (m : Int) ∣ (a : Int) * x - d
  cn : (m : Int) ∣ (a : Int) * next - rest
  lt : rest < d
  half : -(m : Int) ≤ 2 * x ∧ 2 * x ≤ m
  bal : ∃ X Y : Nat, ((x = X ∧ next = -(Y : Int)) ∨ (x = -(X : Int) ∧ next = Y)) ∧ Y * d + X * rest = m

theorem Eu.start {a m : Nat} (h : a < m) : Eu a m 0 1 m a where
  gcd := Nat.gcd_comm _ _
  cx := ⟨-1, by omega⟩
  cn := ⟨0, by omega⟩
  lt := h
  half := by omega
  bal := ⟨0, 1, Or.inr ⟨rfl, rfl⟩, by omega⟩

theorem Eu.stop {a m : Nat} {x next : Int} {d : Nat} (h : Eu a m x next d 0) : d = Nat.gcd a m := by
  have := h.gcd
  rw [Nat.gcd_zero_right] at this
  exact this

theorem Eu.step {a m : Nat} {x next : Int} {d rest : Nat} (h : Eu a m x next d rest) (h0 : 0 < rest) :
    Eu a m next (x - ((d / rest : Nat) : Int) * next) rest (d % rest) ∧ -(m : Int) ≤ ((d / rest : Nat) : Int) * next ∧ ((d / rest : Nat) : Int) * next ≤ m ∧
    -(m : Int) ≤ x - ((d / rest : Nat) : Int) * next ∧ x - ((d / rest : Nat) : Int) * next ≤ m := by
  obtain ⟨hg, hcx, hcn, hlt, hh, X, Y, hs, hb⟩ := h
  have hd := Nat.div_add_mod d rest
  have hr := Nat.mod_lt d h0
  generalize hq : d / rest = q at *
  generalize hrr : d % rest = r at *
  -- the new balance
  have hb2 : (X + q * Y) * rest + Y * r = m := by
    rw [← hb, ← hd, Nat.add_mul, Nat.mul_add, Nat.mul_comm rest q, Nat.mul_assoc, Nat.mul_left_comm Y q rest]
    omega
  have hY2 : X + q * Y ≤ m := by
    have : (X + q * Y) * 1 ≤ (X + q * Y) * rest := Nat.mul_le_mul_left _ h0
    omega
  have hYh : 2 * Y ≤ m := by
    have : Y * 2 ≤ Y * d := Nat.mul_le_mul_left _ (by omega)
    omega
  have eqY : ((q * Y : Nat) : Int) = (q : Int) * (Y : Int) := Int.natCast_mul q Y
  refine ⟨⟨?_, hcn, ?_, hr, ?_, ⟨Y, X + q * Y, ?_, ?_⟩⟩, ?_⟩
  · rw [← hg, ← hrr, Nat.gcd_comm rest, ← Nat.gcd_rec, Nat.gcd_comm]
  · have e : (a : Int) * (x - q * next) - (r : Int) = ((a : Int) * x - d) - q * ((a : Int) * next - rest) := by
      have e1 : (d : Int) = (rest : Int) * q + r := by rw [← Int.natCast_mul, ← Int.natCast_add, hd]
      rw [e1, Int.mul_sub, Int.mul_sub, Int.mul_left_comm (a : Int) q next, Int.mul_comm (rest : Int) q]
      omega
    rw [e]
    exact Int.dvd_sub hcx (Int.dvd_trans hcn (Int.dvd_mul_left _ _))
  · rcases hs with ⟨_, e⟩ | ⟨_, e⟩ <;> omega
  · rcases hs with ⟨e1, e2⟩ | ⟨e1, e2⟩
    · refine Or.inr ⟨e2, ?_⟩
      rw [e1, e2, Int.mul_neg, ← eqY]; omega
    · refine Or.inl ⟨e2, ?_⟩
      rw [e1, e2, ← eqY]; omega
  · exact hb2
  · rcases hs with ⟨e1, e2⟩ | ⟨e1, e2⟩
    · rw [e1, e2, Int.mul_neg, ← eqY]; omega
    · rw [e1, e2, ← eqY]; omega

/-- The factor of euclid. -/
def EuOut (a m x : Nat) : Prop := x < m ∧ (m : Int) ∣ (a : Int) * x - Nat.gcd a m

theorem Eu.out {a m : Nat} {x next : Int} {d : Nat} (h : Eu a m x next d 0) (hm : 0 < m) (h0 : 0 ≤ x) : EuOut a m x.toNat ∧ ((x.toNat : Nat) : Int) = x := by
  have hd := h.stop
  have hh := h.half
  refine ⟨⟨by omega, ?_⟩, by omega⟩
  rw [Int.toNat_of_nonneg h0, ← hd]
  exact h.cx
theorem Eu.outNeg {a m : Nat} {x next : Int} {d : Nat} (h : Eu a m x next d 0) (h0 : x < 0) : EuOut a m (x + m).toNat ∧ (((x + m).toNat : Nat) : Int) = x + m := by
  have hd := h.stop
  have hh := h.half
  refine ⟨⟨by omega, ?_⟩, by omega⟩
  rw [Int.toNat_of_nonneg (by omega), ← hd, Int.mul_add]
  have e : (a : Int) * x + (a : Int) * m - d = (a * x - d) + a * m := by omega
  rw [e]
  exact Int.dvd_add h.cx (Int.dvd_mul_left _ _)

/-! ### Congruences in natural numbers. -/
theorem mod_of_dvd {m a b : Nat} (h : (m : Int) ∣ (a : Int) - b) : a % m = b % m := by
  have e : (a : Int) % m = (b : Int) % m := Int.emod_eq_emod_iff_emod_sub_eq_zero.2 (Int.emod_eq_zero_of_dvd h)
  omega
theorem dvd_of_mod {m a b : Nat} (h : a % m = b % m) : (m : Int) ∣ (a : Int) - b := by
  apply Int.dvd_of_emod_eq_zero
  apply Int.emod_eq_emod_iff_emod_sub_eq_zero.1
  omega
end Go.Proofs.Ytlciocebbckdcaa.Wm
