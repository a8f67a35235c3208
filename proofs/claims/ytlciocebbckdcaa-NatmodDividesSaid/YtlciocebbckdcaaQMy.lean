/- Plain numbers for the laws on remainders; slices.Equal by value. -/
import Derived.Test.YtlciocebbckdcaaQMx
namespace Go.Proofs.Ytlciocebbckdcaa.Mr
open Go.RowKit Go.Shelf Go.Proofs.Ytlciocebbckdcaa.Nm Go.Proofs.Ytlciocebbckdcaa.Ne Go.Proofs.Ytlciocebbckdcaa.Nf Go.Proofs.Ytlciocebbckdcaa.Nk Go.Proofs.Ytlciocebbckdcaa.Nv Go.Proofs.Ytlciocebbckdcaa.Nr2 Go.Proofs.Ytlciocebbckdcaa.Mo Go.Proofs.Ytlciocebbckdcaa.Kr

theorem equal_d {p q : Option Addr} {n m c d x y : Nat} {w : World} (hl : Nw w p n c (digs x)) (hk : Nw w q m d (digs y)) :
    Calls Try.prog 46 #[.slice p n c, .slice q m d] w fun e w' => e = .returned (.bool (decide (x = y))) ∧ Gr w w' := by
  by_cases h : n = m
  · subst h
    refine (equal_any p q (digs x) (digs y) n c d hl.len hk.len hl.small w hl.rd hk.rd).mono ?_
    rintro e w' h
    rw [show decide (x = y) = decide (digs x = digs y) from decide_eq_decide.2 digs_inj.symm]
    obtain ⟨h1, j, rfl⟩ := h
    exact ⟨h1, (Gr.refl w).drewN j⟩
  · rw [decide_eq_false (fun e => h (by rw [← hl.len, ← hk.len, e]))]
    refine (equal_len p q n m c d h w).mono ?_
    rintro e w' ⟨h1, j, rfl⟩
    exact ⟨h1, (Gr.refl w).drewN j⟩
theorem sub_dvd {u v m : Nat} (h : v ≤ u) (e : u % m = v % m) : m ∣ u - v := by
  have h1 := Nat.div_add_mod u m
  have h2 := Nat.div_add_mod v m
  refine ⟨u / m - v / m, ?_⟩
  have h3 : v / m ≤ u / m := Nat.div_le_div_right h
  rw [Nat.mul_sub]
  have := Nat.mul_le_mul_left m h3
  omega
theorem crt_mod {p q a b z : Nat} (hq : 0 < q) (hb : b < q) (hz : IsInv (p % q) q z) : (a + p * ((b + q - a % q) % q * z % q)) % q = b := by
  obtain ⟨_, h⟩ := hz
  obtain ⟨t, ht⟩ : ∃ t, b + q - a % q = t := ⟨_, rfl⟩
  have h0 : p * z % q = 1 % q := by rw [← h, Nat.mod_mul_mod]
  have h1 : (p * (t % q * z % q)) % q = t % q := by
    rw [Nat.mul_mod_mod, Nat.mul_left_comm, Nat.mod_mul_mod, Nat.mul_mod, h0, Nat.mul_mod_mod, Nat.mod_mul_mod, Nat.mul_one]
  rw [ht, Nat.add_mod, h1, ← Nat.mod_add_mod, Nat.mod_mod, Nat.add_mod_mod, ← ht, show a % q + (b + q - a % q) = b + q by have := Nat.mod_lt a hq; omega, Nat.add_mod_right, Nat.mod_eq_of_lt hb]
theorem crt_eq {p q n z : Nat} (hp : 0 < p) (hq : 0 < q) (hg : Nat.gcd p q = 1) (hz : IsInv (p % q) q z) : n % p + p * ((n % q + q - n % p % q) % q * z % q) = n % (p * q) := by
  obtain ⟨X, hX⟩ : ∃ X, n % p + p * ((n % q + q - n % p % q) % q * z % q) = X := ⟨_, rfl⟩
  have x1 : X % p = n % p := by rw [← hX, Nat.add_mul_mod_self_left, Nat.mod_mod]
  have x2 : X % q = n % q := by rw [← hX]; exact crt_mod hq (Nat.mod_lt _ hq) hz
  have xl : X < p * q := by rw [← hX]; exact crt_lt (Nat.mod_lt _ hp) (Nat.mod_lt _ hq)
  have y1 : n % (p * q) % p = n % p := Nat.mod_mul_right_mod n p q
  have y2 : n % (p * q) % q = n % q := Nat.mod_mul_left_mod n p q
  have yl : n % (p * q) < p * q := Nat.mod_lt _ (Nat.mul_pos hp hq)
  rw [hX]
  obtain ⟨Y, hY⟩ : ∃ Y, n % (p * q) = Y := ⟨_, rfl⟩
  rw [hY] at y1 y2 yl ⊢
  have key : ∀ {u v : Nat}, u < p * q → v ≤ u → u % p = v % p → u % q = v % q → u = v := by
    intro u v hu hvu h1 h2
    have d1 : p ∣ u - v := sub_dvd hvu h1
    have d2 : q ∣ u - v := sub_dvd hvu h2
    have d3 : p * q ∣ u - v := Nat.Coprime.mul_dvd_of_dvd_of_dvd hg d1 d2
    have := Nat.eq_zero_of_dvd_of_lt d3 (by omega)
    omega
  rcases Nat.le_total X Y with h | h
  · exact (key yl h (by rw [x1, y1]) (by rw [x2, y2])).symm
  · exact key xl h (by rw [x1, y1]) (by rw [x2, y2])
end Go.Proofs.Ytlciocebbckdcaa.Mr
