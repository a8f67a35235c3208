/- Primes: Fermat's theorem, and that the strong test accepts each of them. Numbers alone, no walk. -/
import Derived.Test.YtfompolklkehpaaDoorPp4
import Derived.Test.YtfompolklkehpaaDoorQWqr2
namespace Go.Proofs.YtfompolklkehpaaDoor.Pr
open Go Go.Proofs.YtfompolklkehpaaDoor.Nm

/-- A prime. -/
def Pri (p : Nat) : Prop := 2 ≤ p ∧ ∀ d, d ∣ p → d = 1 ∨ d = p
theorem Pri.gcd {p : Nat} (h : Pri p) {a : Nat} (ha : ¬ p ∣ a) : Nat.gcd a p = 1 := by
  rcases h.2 _ (Nat.gcd_dvd_right a p) with h1 | h1
  · exact h1
  · exact absurd (h1 ▸ Nat.gcd_dvd_left a p) ha
theorem Pri.euclid {p : Nat} (h : Pri p) {a b : Nat} (hd : p ∣ a * b) : p ∣ a ∨ p ∣ b := by
  by_cases ha : p ∣ a
  · exact .inl ha
  · have h1 : Nat.Coprime p a := by rw [Nat.coprime_comm]; exact h.gcd ha
    exact .inr (h1.dvd_of_dvd_mul_left hd)
theorem Pri.below {p : Nat} (h : Pri p) : ∀ k, 1 ≤ k → k < p → Nat.gcd k p = 1 := fun k h1 h2 => h.gcd fun hd => by
  have := Nat.le_of_dvd (by omega) hd
  omega
theorem Pri.odd {p : Nat} (h : Pri p) (h3 : p ≠ 2) : p % 2 = 1 := by
  rcases Nat.mod_two_eq_zero_or_one p with h0 | h0
  · rcases h.2 2 (Nat.dvd_of_mod_eq_zero h0) with h1 | h1
    · omega
    · omega
  · exact h0
/-- Fermat. -/
theorem fermat {p a : Nat} (h : Pri p) (ha : ¬ p ∣ a) : a ^ (p - 1) % p = 1 := by
  have h2 := h.1
  by_cases h3 : p = 2
  · subst h3
    have : a % 2 = 1 := by
      rcases Nat.mod_two_eq_zero_or_one a with h0 | h0
      · exact absurd (Nat.dvd_of_mod_eq_zero h0) ha
      · exact h0
    simpa using this
  · have ho := h.odd h3
    have he := Qr.euler ho h.below (h.gcd ha)
    have hg := Qr.gs_sq a p
    have hs : (p : Int) ∣ (a : Int) ^ (p / 2) * (a : Int) ^ (p / 2) - 1 := by
      obtain ⟨c, hc⟩ := he
      obtain ⟨x, hx⟩ : ∃ x, (a : Int) ^ (p / 2) = x := ⟨_, rfl⟩
      obtain ⟨g, hgg⟩ : ∃ g, Qr.gs a p = g := ⟨_, rfl⟩
      rw [hx, hgg] at hc
      rw [hgg] at hg
      rw [hx]
      refine ⟨c * (x + g), ?_⟩
      rw [← Int.mul_assoc, ← hc, Int.sub_mul, Int.mul_add, Int.mul_add, hg, Int.mul_comm g x]
      omega
    have e1 : (a : Int) ^ (p / 2) * (a : Int) ^ (p / 2) = ((a ^ (p - 1) : Nat) : Int) := by
      rw [← Int.pow_add, show p / 2 + p / 2 = p - 1 by omega, Int.natCast_pow]
    rw [e1] at hs
    have h4 : ((a ^ (p - 1) : Nat) : Int) % (p : Int) = 1 % (p : Int) := Int.emod_eq_emod_iff_emod_sub_eq_zero.2 (Int.emod_eq_zero_of_dvd hs)
    have h5 : (1 : Int) % (p : Int) = 1 := Int.emod_eq_of_lt (by decide) (by omega)
    rw [h5] at h4
    exact_mod_cast h4
theorem sq_one {p y : Nat} (h : Pri p) (hy : y < p) (h1 : y * y % p = 1) : y = 1 ∨ y = p - 1 := by
  have h2 := h.1
  have hy0 : 0 < y := by
    rcases Nat.eq_zero_or_pos y with h0 | h0
    · subst h0; simp at h1
    · exact h0
  obtain ⟨x, rfl⟩ : ∃ x, y = x + 1 := ⟨y - 1, by omega⟩
  have hd : p ∣ x * (x + 2) := by
    have e : (x + 1) * (x + 1) = x * (x + 2) + 1 := by
      simp only [Nat.mul_add, Nat.add_mul]; omega
    rw [e] at h1
    have := Nat.div_add_mod (x * (x + 2) + 1) p
    rw [h1] at this
    exact ⟨_, (Nat.add_right_cancel this).symm⟩
  rcases h.euclid hd with h3 | h3
  · left
    rcases Nat.eq_zero_or_pos x with h0 | h0
    · omega
    · have := Nat.le_of_dvd h0 h3
      omega
  · right
    have h4 := Nat.le_of_dvd (by omega) h3
    omega
theorem pasFrom_mono {n : Nat} : ∀ (k x : Nat), pasFrom n x k = true → pasFrom n x (k + 1) = true
  | 0, _, h => by cases h
  | k + 1, x, h => by
    unfold pasFrom at h ⊢
    rcases Bool.or_eq_true _ _ ▸ h with h | h
    · rw [h]; rfl
    · rw [pasFrom_mono k _ h, Bool.or_true]
theorem pasFrom_hit {n : Nat} : ∀ (k x : Nat), x < n → x ^ 2 ^ k % n = n - 1 → pasFrom n x (k + 1) = true
  | 0, x, hx, h => by
    rw [Nat.pow_zero, Nat.pow_one, Nat.mod_eq_of_lt hx] at h
    unfold pasFrom
    rw [h]; simp
  | k + 1, x, hx, h => by
    unfold pasFrom
    rw [pasFrom_hit k (x * x % n) (Nat.mod_lt _ (by omega)) (by rw [← Nat.pow_mod, ← Nat.pow_two, ← Nat.pow_mul, ← Nat.pow_succ']; exact h), Bool.or_true]
theorem strong_of {p x : Nat} (h : Pri p) (hx : x < p) : ∀ k, x ^ 2 ^ k % p = 1 → x = 1 ∨ pasFrom p x k = true
  | 0, h1 => by rw [Nat.pow_zero, Nat.pow_one, Nat.mod_eq_of_lt hx] at h1; exact .inl h1
  | k + 1, h1 => by
    have e : (x ^ 2 ^ k % p) * (x ^ 2 ^ k % p) % p = 1 := by rw [← Nat.mul_mod, ← Nat.pow_add, ← Nat.two_mul, ← Nat.pow_succ']; exact h1
    rcases sq_one h (Nat.mod_lt _ (by omega)) e with h2 | h2
    · rcases strong_of h hx k h2 with h3 | h3
      · exact .inl h3
      · exact .inr (pasFrom_mono _ _ h3)
    · exact .inr (pasFrom_hit k x hx h2)
/-- The strong test accepts a prime. -/
theorem pas_pri {p b : Nat} (h : Pri p) (h64 : p < 18446744073709551616) (hb : ¬ p ∣ b) : pas p b = true := by
  have h2 := h.1
  obtain ⟨t, d, e1, _, e2, hd, e3, _, _⟩ := tz_math (a := p - 1) (by omega) (by omega)
  rw [pas_eq hd e3 h64]
  have hf := fermat h hb
  have hx : b ^ d % p < p := Nat.mod_lt _ (by omega)
  have h1 : (b ^ d % p) ^ 2 ^ t % p = 1 := by rw [← Nat.pow_mod, ← Nat.pow_mul, Nat.mul_comm, e3]; exact hf
  rcases strong_of h hx t h1 with h3 | h3
  · rw [h3]; rfl
  · rw [h3, Bool.or_true]
theorem bases_ge : ∀ b ∈ bases, 2 ≤ b ∧ b ≤ 37 := by decide
theorem tryL_pri {p : Nat} (h : Pri p) (h64 : p < 18446744073709551616) : ∀ l, (∀ b ∈ l, 2 ≤ b ∧ b ≤ 37) → (37 < p ∨ ∃ b ∈ l, p % b = 0) → tryL p l = true
  | [], _, hh => by
    have h37 : 37 < p := by
      rcases hh with h | ⟨b, hb, _⟩
      · exact h
      · cases hb
    unfold tryL
    rw [List.all_eq_true]
    intro b hb
    refine pas_pri h h64 fun hd => ?_
    have := bases_ge b hb
    have := Nat.le_of_dvd (by omega) hd
    omega
  | b :: r, hl, hh => by
    unfold tryL
    have hb := hl b (List.mem_cons_self ..)
    by_cases h0 : p % b = 0
    · rw [if_pos h0]
      rcases h.2 b (Nat.dvd_of_mod_eq_zero h0) with h1 | h1
      · omega
      · exact decide_eq_true h1.symm
    · rw [if_neg h0]
      refine tryL_pri h h64 r (fun c hc => hl c (List.mem_cons_of_mem _ hc)) ?_
      rcases hh with h1 | ⟨c, hc, h1⟩
      · exact .inl h1
      · rcases List.mem_cons.1 hc with rfl | hc
        · exact absurd h1 h0
        · exact .inr ⟨c, hc, h1⟩
/-- Each prime passes. -/
theorem isP_pri {p : Nat} (h : Pri p) (h64 : p < 18446744073709551616) : isP p = true := by
  have h2 := h.1
  unfold isP
  rw [if_neg (by omega)]
  refine tryL_pri h h64 bases bases_ge ?_
  rcases Nat.lt_or_ge 37 p with h1 | h1
  · exact .inl h1
  · obtain ⟨j, hj, h3⟩ := bases_small p (by omega) h2
    refine .inr ⟨bases.getD j 0, ?_, h3⟩
    rw [List.getD_eq_getElem?_getD, List.getElem?_eq_getElem (show j < bases.length from hj)]
    exact List.getElem_mem _
/-- What passes has no proper divisor among the bases, and passes Fermat's test for 2. -/
theorem tryL_yes {n : Nat} : ∀ {l : List Nat}, tryL n l = true → (∃ b ∈ l, n = b) ∨ ((∀ b ∈ l, n % b ≠ 0) ∧ bases.all (pas n) = true)
  | [], h => .inr ⟨fun b hb => (by cases hb), h⟩
  | b :: r, h => by
    unfold tryL at h
    by_cases h0 : n % b = 0
    · rw [if_pos h0] at h
      exact .inl ⟨b, List.mem_cons_self .., of_decide_eq_true h⟩
    · rw [if_neg h0] at h
      rcases tryL_yes h with ⟨c, hc, h1⟩ | ⟨h1, h2⟩
      · exact .inl ⟨c, List.mem_cons_of_mem _ hc, h1⟩
      · refine .inr ⟨fun c hc => ?_, h2⟩
        rcases List.mem_cons.1 hc with rfl | hc
        · exact h0
        · exact h1 c hc
theorem pasFrom_yes {n : Nat} (hn : 2 ≤ n) : ∀ (k x : Nat), pasFrom n x k = true → x ^ 2 ^ k % n = 1
  | 0, _, h => by cases h
  | k + 1, x, h => by
    unfold pasFrom at h
    rcases Bool.or_eq_true _ _ ▸ h with h | h
    · have hx : x = n - 1 := of_decide_eq_true h
      subst hx
      have h1 : (n - 1) * (n - 1) % n = 1 := by
        obtain ⟨m, rfl⟩ : ∃ m, n = m + 2 := ⟨n - 2, by omega⟩
        have e : (m + 2 - 1) * (m + 2 - 1) = (m + 2) * m + 1 := by
          rw [show m + 2 - 1 = m + 1 by omega]
          simp only [Nat.mul_add, Nat.add_mul]; omega
        rw [e, Nat.mul_add_mod, Nat.mod_eq_of_lt (by omega)]
      rw [Nat.pow_succ', Nat.pow_mul, Nat.pow_two, Nat.pow_mod, h1, Nat.one_pow, Nat.mod_eq_of_lt (by omega)]
    · have h1 := pasFrom_yes hn k _ h
      rw [← Nat.pow_mod, ← Nat.pow_two, ← Nat.pow_mul, ← Nat.pow_succ'] at h1
      exact h1
theorem pas_fermat {n b : Nat} (hn : 2 ≤ n) (h64 : n < 18446744073709551616) (h : pas n b = true) : b ^ (n - 1) % n = 1 := by
  obtain ⟨t, d, e1, _, e2, hd, e3, _, _⟩ := tz_math (a := n - 1) (by omega) (by omega)
  rw [pas_eq hd e3 h64] at h
  rw [← e3, Nat.mul_comm, Nat.pow_mul]
  rcases Bool.or_eq_true _ _ ▸ h with h | h
  · have h1 : b ^ d % n = 1 := of_decide_eq_true h
    rw [Nat.pow_mod, h1, Nat.one_pow, Nat.mod_eq_of_lt (by omega)]
  · have h1 := pasFrom_yes hn _ _ h
    rw [← Nat.pow_mod] at h1
    exact h1
theorem isP_yes {n : Nat} (h : isP n = true) : 2 ≤ n ∧ (n ∈ bases ∨ ((∀ b ∈ bases, n % b ≠ 0) ∧ bases.all (pas n) = true)) := by
  refine ⟨?_, ?_⟩
  · rcases Nat.lt_or_ge n 2 with h1 | h1
    · unfold isP at h; rw [if_pos h1] at h; cases h
    · exact h1
  · unfold isP at h
    by_cases h1 : n < 2
    · rw [if_pos h1] at h; cases h
    · rw [if_neg h1] at h
      rcases tryL_yes h with ⟨b, hb, rfl⟩ | h2
      · exact .inl hb
      · exact .inr h2
end Go.Proofs.YtfompolklkehpaaDoor.Pr
