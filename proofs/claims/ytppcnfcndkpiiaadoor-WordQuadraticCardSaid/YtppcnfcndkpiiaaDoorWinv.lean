/- Plain numbers for layer 1: the reference's inverse, and that solutions are unique. No walk. -/
import Derived.Test.YtppcnfcndkpiiaaDoorWeu
namespace Go.Proofs.YtppcnfcndkpiiaaDoor.Wm

structure Iv (a m u v x y : Nat) : Prop where
  gcd : Nat.gcd u v = Nat.gcd a m
  cu : (m : Int) ∣ (x : Int) * a - u
  cv : (m : Int) ∣ (y : Int) * a - v
  xl : x < m
  yl : y < m
  ul : u ≤ m
  vl : v ≤ m

theorem Iv.start {a m : Nat} (h : a < m) : Iv a m a m (1 % m) 0 where
  gcd := rfl
  cu := by
    have e : ((1 % m : Nat) : Int) * a - a = -((m : Int) * (((1 / m : Nat) : Int) * a)) := by
      have h1 := Nat.div_add_mod 1 m
      have h2 : (1 : Int) = (m : Int) * ((1 / m : Nat) : Int) + ((1 % m : Nat) : Int) := by rw [← Int.natCast_mul, ← Int.natCast_add, h1]; rfl
      have h3 : (a : Int) = ((m : Int) * ((1 / m : Nat) : Int) + ((1 % m : Nat) : Int)) * a := by rw [← h2, Int.one_mul]
      rw [Int.add_mul, Int.mul_assoc] at h3
      omega
    rw [e]
    exact Int.dvd_neg.2 (Int.dvd_mul_right _ _)
  cv := ⟨-1, by omega⟩
  xl := Nat.mod_lt _ (by omega)
  yl := by omega
  ul := by omega
  vl := Nat.le_refl _

theorem Iv.step {a m u v x y : Nat} (h : Iv a m u v x y) (hv : v ≠ 0) : ∃ y' : Nat, ((x : Int) - ((((u / v) % m) * y % m : Nat) : Int)) % m = (y' : Int) ∧ Iv a m v (u % v) y y' := by
  have hm : 0 < m := by have := h.xl; omega
  have hd := Nat.div_add_mod u v
  have hr := Nat.mod_lt u (Nat.pos_of_ne_zero hv)
  obtain ⟨y', hy'⟩ : ∃ y' : Nat, ((x : Int) - ((((u / v) % m) * y % m : Nat) : Int)) % m = (y' : Int) :=
    ⟨_, (Int.toNat_of_nonneg (Int.emod_nonneg _ (by omega))).symm⟩
  have hyl := Int.emod_lt_of_pos ((x : Int) - ((((u / v) % m) * y % m : Nat) : Int)) (by omega : (0 : Int) < m)
  refine ⟨y', hy', ⟨?_, h.cv, ?_, h.yl, by omega, h.vl, by have := h.vl; omega⟩⟩
  · rw [← h.gcd, Nat.gcd_comm v, ← Nat.gcd_rec, Nat.gcd_comm]
  · -- y' is congruent to x - q y
    have c1 : (m : Int) ∣ ((x : Int) - ((((u / v) % m) * y % m : Nat) : Int)) - y' := by
      rw [← hy']; exact Int.dvd_self_sub_emod
    have c2 : (m : Int) ∣ ((u / v * y : Nat) : Int) - ((((u / v) % m) * y % m : Nat) : Int) := dvd_of_mod (by rw [Nat.mod_mod, Nat.mod_mul_mod])
    have c3 : (m : Int) ∣ ((x : Int) - ((u / v * y : Nat) : Int)) - y' := by
      have e : ((x : Int) - ((u / v * y : Nat) : Int)) - y' = (((x : Int) - ((((u / v) % m) * y % m : Nat) : Int)) - y') - (((u / v * y : Nat) : Int) - ((((u / v) % m) * y % m : Nat) : Int)) := by omega
      rw [e]; exact Int.dvd_sub c1 c2
    clear c1 c2 hy' hyl
    generalize hq : u / v = q at *
    generalize u % v = r at *
    have e : (y' : Int) * a - r = ((x : Int) * a - u) - (q : Int) * ((y : Int) * a - v) - (((x : Int) - ((q * y : Nat) : Int)) - y') * a := by
      have e1 : (u : Int) = (v : Int) * q + r := by rw [← Int.natCast_mul, ← Int.natCast_add, hd]
      rw [e1, Int.sub_mul, Int.sub_mul, Int.mul_sub, Int.natCast_mul, Int.mul_comm (v : Int) q, ← Int.mul_assoc]
      omega
    rw [e]
    exact Int.dvd_sub (Int.dvd_sub h.cu (Int.dvd_trans h.cv (Int.dvd_mul_left _ _))) (Int.dvd_trans c3 (Int.dvd_mul_right _ _))

theorem Iv.stop {a m u x y : Nat} (h : Iv a m u 0 x y) (hg : Nat.gcd a m = 1) : x < m ∧ a * x % m = 1 % m := by
  have := h.gcd
  rw [Nat.gcd_zero_right, hg] at this
  subst this
  refine ⟨h.xl, mod_of_dvd ?_⟩
  have := h.cu
  rw [Int.mul_comm, ← Int.natCast_mul] at this
  exact this

/-! ### Solutions are unique below the step. -/
theorem sol_unique {a m x y : Nat} (hm : 0 < m) (hx : x < m / Nat.gcd a m) (hy : y < m / Nat.gcd a m) (h : a * x % m = a * y % m) : x = y := by
  have hg : 0 < Nat.gcd a m := Nat.gcd_pos_of_pos_right _ hm
  have key : ∀ x y : Nat, x ≤ y → y < m / Nat.gcd a m → a * x % m = a * y % m → x = y := by
    intro x y hxy hy h
    have h1 : m ∣ a * y - a * x := Nat.dvd_of_mod_eq_zero (Nat.sub_mod_eq_zero_of_mod_eq h.symm)
    rw [← Nat.mul_sub] at h1
    have h2 : m / Nat.gcd a m ∣ a / Nat.gcd a m * (y - x) := by
      obtain ⟨k, hk⟩ := h1
      obtain ⟨u, hu⟩ := Nat.gcd_dvd_left a m
      obtain ⟨v, hv⟩ := Nat.gcd_dvd_right a m
      have e1 : m / Nat.gcd a m = v := Nat.div_eq_of_eq_mul_right hg hv
      have e2 : a / Nat.gcd a m = u := Nat.div_eq_of_eq_mul_right hg hu
      rw [e1, e2]
      refine ⟨k, Nat.eq_of_mul_eq_mul_left hg ?_⟩
      rw [← Nat.mul_assoc, ← Nat.mul_assoc, ← hu, ← hv, hk]
    have h3 : Nat.Coprime (m / Nat.gcd a m) (a / Nat.gcd a m) := (Nat.coprime_div_gcd_div_gcd hg).symm
    have h4 := h3.dvd_of_dvd_mul_left h2
    rcases Nat.eq_zero_or_pos (y - x) with h5 | h5
    · omega
    · have := Nat.le_of_dvd h5 h4
      omega
  rcases Nat.le_total x y with hxy | hxy
  · exact key x y hxy hy h
  · exact (key y x hxy hx h.symm).symm

/-- The reference's solution. -/
theorem ref_sol {a b m x : Nat} (hb : b < m) (hg : b % Nat.gcd a m = 0) (hx : a / Nat.gcd a m % (m / Nat.gcd a m) * x % (m / Nat.gcd a m) = 1 % (m / Nat.gcd a m)) :
    x * (b / Nat.gcd a m % (m / Nat.gcd a m)) % (m / Nat.gcd a m) < m / Nat.gcd a m ∧ a * (x * (b / Nat.gcd a m % (m / Nat.gcd a m)) % (m / Nat.gcd a m)) % m = b := by
  have hgp : 0 < Nat.gcd a m := Nat.gcd_pos_of_pos_right _ (by omega)
  have hgm : Nat.gcd a m ≤ m := Nat.gcd_le_right _ (by omega)
  have hs : 0 < m / Nat.gcd a m := Nat.div_pos hgm hgp
  refine ⟨Nat.mod_lt _ hs, ?_⟩
  obtain ⟨u, hu⟩ := Nat.gcd_dvd_left a m
  obtain ⟨v, hv⟩ := Nat.gcd_dvd_right a m
  obtain ⟨k, hk⟩ : ∃ k, b = Nat.gcd a m * k := ⟨b / Nat.gcd a m, by have := Nat.div_add_mod b (Nat.gcd a m); omega⟩
  generalize Nat.gcd a m = g at *
  have e1 : m / g = v := by rw [hv]; exact Nat.mul_div_cancel_left _ hgp
  have e2 : b / g = k := by rw [hk]; exact Nat.mul_div_cancel_left _ hgp
  have e3 : a / g = u := by rw [hu]; exact Nat.mul_div_cancel_left _ hgp
  rw [e1, e3, Nat.mod_mul_mod] at hx
  rw [e1, e2]
  have h1 : u * (x * (k % v) % v) % v = k % v := by
    rw [Nat.mul_mod_mod, ← Nat.mul_assoc, ← Nat.mod_mul_mod, hx, Nat.mod_mul_mod, Nat.one_mul, Nat.mod_mod]
  have hkv : k < v := by
    have : g * k < g * v := by rw [← hk, ← hv]; exact hb
    exact Nat.lt_of_mul_lt_mul_left this
  rw [hu, hv, Nat.mul_assoc, Nat.mul_mod_mul_left, h1, Nat.mod_eq_of_lt hkv, hk]
end Go.Proofs.YtppcnfcndkpiiaaDoor.Wm
