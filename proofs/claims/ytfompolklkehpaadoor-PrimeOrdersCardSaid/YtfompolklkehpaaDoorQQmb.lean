/- Below 2^20 nothing but a prime passes. Numbers alone, no walk. -/
import Derived.Test.YtfompolklkehpaaDoorQQma
namespace Go.Proofs.YtfompolklkehpaaDoor.Pr
open Go Go.Proofs.YtfompolklkehpaaDoor.Nm

theorem has_prime : ∀ n, 2 ≤ n → ∃ p, Pri p ∧ p ∣ n := by
  intro n
  induction n using Nat.strongRecOn with
  | ind n ih =>
    intro h
    by_cases hp : ∀ d, d ∣ n → d = 1 ∨ d = n
    · exact ⟨n, ⟨h, hp⟩, Nat.dvd_refl n⟩
    · obtain ⟨d, hd⟩ := Classical.not_forall.1 hp
      have hdn : d ∣ n := Classical.byContradiction fun h1 => hd fun h2 => absurd h2 h1
      have h1 : d ≠ 1 := fun e => hd fun _ => .inl e
      have h2 : d ≠ n := fun e => hd fun _ => .inr e
      have h3 := Nat.le_of_dvd (by omega) hdn
      have h4 : 0 < d := Nat.pos_of_dvd_of_pos hdn (by omega)
      obtain ⟨p, hp1, hp2⟩ := ih d (by omega) (by omega)
      exact ⟨p, hp1, Nat.dvd_trans hp2 hdn⟩
/-- What is no prime has a prime factor up to its root. -/
theorem has_small {n : Nat} (h : 2 ≤ n) (hn : ¬ Pri n) : ∃ p, Pri p ∧ p ∣ n ∧ p * p ≤ n := by
  have hx : ¬ ∀ d, d ∣ n → d = 1 ∨ d = n := fun k => hn ⟨h, k⟩
  obtain ⟨d, hd⟩ := Classical.not_forall.1 hx
  have hdn : d ∣ n := Classical.byContradiction fun h1 => hd fun h2 => absurd h2 h1
  have h1 : d ≠ 1 := fun e => hd fun _ => .inl e
  have h2 : d ≠ n := fun e => hd fun _ => .inr e
  obtain ⟨c, hc⟩ := hdn
  have hc0 : c ≠ 0 := by rintro rfl; omega
  have hd0 : d ≠ 0 := by rintro rfl; omega
  have hc1 : c ≠ 1 := by rintro rfl; omega
  rcases Nat.le_total d c with hle | hle
  · obtain ⟨p, hp, hpd⟩ := has_prime d (by omega)
    have := Nat.le_of_dvd (by omega) hpd
    refine ⟨p, hp, Nat.dvd_trans hpd ⟨c, hc⟩, ?_⟩
    rw [hc]; exact Nat.mul_le_mul this (by omega)
  · obtain ⟨p, hp, hpd⟩ := has_prime c (by omega)
    have := Nat.le_of_dvd (by omega) hpd
    refine ⟨p, hp, Nat.dvd_trans hpd ⟨d, by rw [Nat.mul_comm]; exact hc⟩, ?_⟩
    rw [hc]; exact Nat.mul_le_mul (by omega) this
/-- The order of 2, by trial. -/
def ordG (p : Nat) : Nat → Nat → Nat → Nat
  | 0, _, k => k
  | f + 1, x, k => bif x == 1 then k else ordG p f (x * 2 % p) (k + 1)
theorem ordG_least {p : Nat} : ∀ (f k : Nat), 1 ≤ k → (∀ i, 1 ≤ i → i < k → 2 ^ i % p ≠ 1) → ∀ i, 1 ≤ i → i < ordG p f (2 ^ k % p) k → 2 ^ i % p ≠ 1
  | 0, _, _, h => h
  | f + 1, k, hk, h => by
    unfold ordG
    cases hx : (2 ^ k % p == 1) with
    | true => rw [cond_true]; exact h
    | false =>
      rw [cond_false, show 2 ^ k % p * 2 % p = 2 ^ (k + 1) % p by rw [Nat.mod_mul_mod, Nat.pow_succ]]
      refine ordG_least f (k + 1) (by omega) fun i h1 h2 => ?_
      rcases Nat.lt_succ_iff_lt_or_eq.1 h2 with h3 | h3
      · exact h i h1 h3
      · subst h3; simpa using hx
/-- It does not pass. -/
def bad (n : Nat) : Bool := n % 2 == 0 || n % 3 == 0 || n % 5 == 0 || n % 7 == 0 || !(pas n 2) || !(pas n 3)
def chkL (st : Nat) : Nat → Nat → Bool
  | 0, _ => true
  | k + 1, n => bad n && chkL st k (n + st)
theorem chkL_at {st : Nat} : ∀ {k n i : Nat}, chkL st k n = true → i < k → bad (n + i * st) = true
  | 0, _, _, _, h => absurd h (Nat.not_lt_zero _)
  | k + 1, n, 0, h, _ => by
    unfold chkL at h
    rw [Nat.zero_mul, Nat.add_zero]
    exact (Bool.and_eq_true _ _ ▸ h).1
  | k + 1, n, i + 1, h, hi => by
    unfold chkL at h
    have h1 := chkL_at (k := k) (n := n + st) (i := i) (Bool.and_eq_true _ _ ▸ h).2 (by omega)
    rw [Nat.succ_mul, Nat.add_comm (i * st) st, ← Nat.add_assoc]
    exact h1
def ordP (p : Nat) : Nat := ordG p p (2 ^ 1 % p) 1
def chkP (p : Nat) : Bool := (2 ^ ordP p % p == 1) && ((p - 1) % ordP p == 0) && (Nat.blt 0 (ordP p)) && chkL (p * ordP p) (1048576 / (p * ordP p)) (p * (1 + ordP p))
def trial31 (p : Nat) : Bool := p % 2 == 0 || p % 3 == 0 || p % 5 == 0 || p % 7 == 0 || p % 11 == 0 || p % 13 == 0 || p % 17 == 0 || p % 19 == 0 || p % 23 == 0 || p % 29 == 0 || p % 31 == 0
def chkAll : Bool := (List.range 984).all fun i => trial31 (i + 40) || chkP (i + 40)
set_option maxRecDepth 1000000 in
theorem chk_all : chkAll = true := by decide +kernel
theorem mod_of_dvd {p n x : Nat} (h : p ∣ n) (h1 : x % n = 1) (h2 : 2 ≤ p) : x % p = 1 := by
  rw [← Nat.mod_mod_of_dvd x h, h1, Nat.mod_eq_of_lt (by omega)]
theorem pow_period {p o : Nat} (h2 : 2 ≤ p) (h : 2 ^ o % p = 1) (q r : Nat) : 2 ^ (o * q + r) % p = 2 ^ r % p := by
  rw [Nat.pow_add, Nat.pow_mul, Nat.mul_mod, Nat.pow_mod, h, Nat.one_pow, Nat.mod_eq_of_lt (show 1 < p by omega), Nat.one_mul, Nat.mod_mod]
theorem bases_pri : ∀ b ∈ bases, Pri b := by
  have h : ∀ b ∈ bases, 2 ≤ b ∧ ∀ d, d ≤ b → d ∣ b → d = 1 ∨ d = b := by decide
  exact fun b hb => ⟨(h b hb).1, fun d hd => (h b hb).2 d (Nat.le_of_dvd (by have := (h b hb).1; omega) hd) hd⟩
theorem Pri.no_mod {p c : Nat} (h : Pri p) (hc : 2 ≤ c) (hcp : c ≠ p) : (p % c == 0) = false := by
  rw [beq_eq_false_iff_ne]
  intro h0
  rcases h.2 c (Nat.dvd_of_mod_eq_zero h0) with h1 | h1
  · omega
  · exact hcp h1
/-- Below 2^20 the test is right. -/
theorem pri_of_isP {n : Nat} (hn : n < 1048576) (h : isP n = true) : Pri n := by
  obtain ⟨h2, hb | ⟨hb, ha⟩⟩ := isP_yes h
  · exact bases_pri n hb
  · refine Classical.byContradiction fun hp => ?_
    obtain ⟨p, pp, hpn, hpp⟩ := has_small h2 hp
    have p2 := pp.1
    have hp1024 : p < 1024 := by
      rcases Nat.lt_or_ge p 1024 with h1 | h1
      · exact h1
      · have := Nat.mul_le_mul h1 h1
        omega
    have hp37 : 37 < p := by
      rcases Nat.lt_or_ge 37 p with h1 | h1
      · exact h1
      · obtain ⟨j, hj, h3⟩ := bases_small p (by omega) p2
        have hm : bases.getD j 0 ∈ bases := by
          rw [List.getD_eq_getElem?_getD, List.getElem?_eq_getElem (show j < bases.length from hj)]
          exact List.getElem_mem _
        have h4 := bases_ge _ hm
        rcases pp.2 _ (Nat.dvd_of_mod_eq_zero h3) with h5 | h5
        · omega
        · exact absurd (Nat.mod_eq_zero_of_dvd (h5 ▸ hpn)) (hb _ hm)
    have hp40 : 40 ≤ p := by
      have h2 := pp.no_mod (c := 2) (by decide) (by omega)
      have h3 := pp.no_mod (c := 3) (by decide) (by omega)
      rw [beq_eq_false_iff_ne] at h2 h3
      omega
    have hc := chk_all
    unfold chkAll at hc
    have h1 := List.all_eq_true.1 hc (p - 40) (List.mem_range.2 (by omega))
    rw [show p - 40 + 40 = p by omega] at h1
    have ht : trial31 p = false := by
      unfold trial31
      rw [pp.no_mod (c := 2) (by decide) (by omega), pp.no_mod (c := 3) (by decide) (by omega), pp.no_mod (c := 5) (by decide) (by omega), pp.no_mod (c := 7) (by decide) (by omega), pp.no_mod (c := 11) (by decide) (by omega), pp.no_mod (c := 13) (by decide) (by omega), pp.no_mod (c := 17) (by decide) (by omega), pp.no_mod (c := 19) (by decide) (by omega), pp.no_mod (c := 23) (by decide) (by omega), pp.no_mod (c := 29) (by decide) (by omega), pp.no_mod (c := 31) (by decide) (by omega)]
      rfl
    rw [ht, Bool.false_or] at h1
    unfold chkP at h1
    simp only [Bool.and_eq_true, beq_iff_eq, Nat.blt_eq] at h1
    obtain ⟨⟨⟨ho1, ho2⟩, ho0⟩, hl⟩ := h1
    have hleast := ordG_least (p := p) p 1 (by omega) (fun i h1 h2 => absurd h1 (by omega))
    change ∀ i, 1 ≤ i → i < ordP p → 2 ^ i % p ≠ 1 at hleast
    obtain ⟨o, ho⟩ : ∃ o, ordP p = o := ⟨_, rfl⟩
    rw [ho] at ho1 ho2 ho0 hl hleast
    have hpas := List.all_eq_true.1 ha
    have hf := mod_of_dvd hpn (pas_fermat h2 (by omega) (hpas 2 (by decide))) p2
    -- o divides n - 1
    have hr : (n - 1) % o = 0 := by
      refine Classical.byContradiction fun h0 => ?_
      refine hleast ((n - 1) % o) (by omega) (Nat.mod_lt _ ho0) ?_
      rw [← pow_period p2 ho1 ((n - 1) / o), Nat.div_add_mod]
      exact hf
    obtain ⟨m, hm⟩ := hpn
    have hm0 : 0 < m := Nat.pos_of_ne_zero (by rintro rfl; omega)
    have hmp : p ≤ m := by
      rcases Nat.lt_or_ge m p with h1 | h1
      · have := Nat.mul_lt_mul_of_pos_left h1 (show 0 < p by omega)
        omega
      · exact h1
    have hm1 : o ∣ m - 1 := by
      have d1 : o ∣ n - 1 := Nat.dvd_of_mod_eq_zero hr
      have d2 : o ∣ (p - 1) * m := Nat.dvd_trans (Nat.dvd_of_mod_eq_zero ho2) (Nat.dvd_mul_right _ _)
      have e : n - 1 = (p - 1) * m + (m - 1) := by
        rw [hm, Nat.sub_mul, Nat.one_mul]
        have : m ≤ p * m := Nat.le_mul_of_pos_left _ (by omega)
        omega
      rw [e] at d1
      exact (Nat.dvd_add_right d2).1 d1
    obtain ⟨t, ht2⟩ := hm1
    have ht0 : 0 < t := Nat.pos_of_ne_zero (by rintro rfl; omega)
    obtain ⟨i, rfl⟩ : ∃ i, t = i + 1 := ⟨t - 1, by omega⟩
    have en : n = p * (1 + o) + i * (p * o) := by
      rw [hm, show m = 1 + o * (i + 1) by omega, Nat.mul_add, Nat.mul_add, Nat.mul_add, Nat.mul_one, Nat.mul_one, Nat.mul_add, ← Nat.mul_assoc p o i, Nat.mul_comm i (p * o)]
      omega
    have hi : i < 1048576 / (p * o) := by
      have hpo : 0 < p * o := Nat.mul_pos (by omega) ho0
      rw [Nat.lt_div_iff_mul_lt hpo]
      have e2 : n = p + p * o + i * (p * o) := by rw [en, Nat.mul_add, Nat.mul_one]
      omega
    have hbad := chkL_at hl hi
    rw [← en] at hbad
    unfold bad at hbad
    rw [beq_eq_false_iff_ne.2 (hb 2 (by decide)), beq_eq_false_iff_ne.2 (hb 3 (by decide)), beq_eq_false_iff_ne.2 (hb 5 (by decide)), beq_eq_false_iff_ne.2 (hb 7 (by decide)), hpas 2 (by decide), hpas 3 (by decide)] at hbad
    cases hbad
/-- The chain of primes: above each number below 2^20 there is one that is at most twice as large, and 2. -/
def chain : List Nat := [2, 3, 5, 7, 13, 23, 43, 83, 163, 317, 631, 1259, 2503, 4993, 9973, 19937, 39869, 79699, 159389, 318751, 637499, 1274989]
theorem chain_isP : ∀ q ∈ chain, isP q = true := by decide +kernel
theorem chain_step : (List.range 21).all (fun i => decide (chain.getD (i + 1) 0 ≤ 2 * chain.getD i 0 + 2)) = true := by decide
theorem chain_get {k : Nat} (hk : k < 1048576) : ∃ q ∈ chain, k < q ∧ q ≤ 2 * k + 2 := by
  have hm : ∀ i, i < 22 → chain.getD i 0 ∈ chain := fun i hi => by
    rw [List.getD_eq_getElem?_getD, List.getElem?_eq_getElem (show i < chain.length from hi)]
    exact List.getElem_mem _
  have step : ∀ i, i < 22 → k < chain.getD i 0 → ∃ q ∈ chain, k < q ∧ q ≤ 2 * k + 2 := by
    intro i
    induction i with
    | zero => intro _ h; exact ⟨2, by decide, h, by omega⟩
    | succ i ih =>
      intro hi h
      by_cases h1 : k < chain.getD i 0
      · exact ih (by omega) h1
      · have h2 := List.all_eq_true.1 chain_step i (List.mem_range.2 (by omega))
        have h3 := of_decide_eq_true h2
        exact ⟨_, hm _ hi, h, by omega⟩
  refine step 21 (by decide) ?_
  show k < 1274989
  omega
end Go.Proofs.YtfompolklkehpaaDoor.Pr
