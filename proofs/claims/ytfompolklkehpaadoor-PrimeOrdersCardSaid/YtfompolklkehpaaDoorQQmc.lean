/- The factors that trial division finds are primes; orders modulo a prime. Numbers alone, no walk. -/
import Derived.Test.YtfompolklkehpaaDoorQQmb
import Derived.Test.YtfompolklkehpaaDoorPp4
namespace Go.Proofs.YtfompolklkehpaaDoor.Pr
open Go Go.Proofs.YtfompolklkehpaaDoor.Nm

/-- Nothing from 2 to below d divides z. -/
def Clear (d z : Nat) : Prop := ∀ e, 2 ≤ e → e < d → ¬ e ∣ z
theorem strip_clear {d : Nat} (hd : 2 ≤ d) : ∀ z, 0 < z → Clear d z → Clear (d + 1) (strip d z).2 ∧ ((strip d z).1 ≠ [] → d ∣ z) := by
  intro z
  induction z using Nat.strongRecOn with
  | ind z ih =>
    intro hz hc
    by_cases h : z % d = 0
    · rw [strip_yes hd hz h]
      have h0 : 0 < z / d := Nat.div_pos (Nat.le_of_dvd hz (Nat.dvd_of_mod_eq_zero h)) (by omega)
      have hdv : z / d ∣ z := ⟨d, by rw [Nat.mul_comm]; exact (Nat.mul_div_cancel' (Nat.dvd_of_mod_eq_zero h)).symm⟩
      exact ⟨(ih (z / d) (Nat.div_lt_self hz (by omega)) h0 (fun e h1 h2 h3 => hc e h1 h2 (Nat.dvd_trans h3 hdv))).1, fun _ => Nat.dvd_of_mod_eq_zero h⟩
    · rw [strip_no h]
      refine ⟨fun e h1 h2 h3 => ?_, fun h1 => absurd rfl h1⟩
      rcases Nat.lt_succ_iff_lt_or_eq.1 h2 with h4 | h4
      · exact hc e h1 h4 h3
      · subst h4; exact h (Nat.mod_eq_zero_of_dvd h3)
theorem clear_pri {d z : Nat} (hd : 2 ≤ d) (hc : Clear d z) (h : d ∣ z) : Pri d := by
  refine ⟨hd, fun e he => ?_⟩
  rcases Nat.eq_zero_or_pos e with h0 | h0
  · subst h0; have := Nat.eq_zero_of_zero_dvd he; omega
  · have h1 := Nat.le_of_dvd (by omega) he
    by_cases h2 : e = 1
    · exact .inl h2
    · by_cases h3 : e = d
      · exact .inr h3
      · exact absurd (Nat.dvd_trans he h) (hc e (by omega) (by omega))
theorem fac_pri : ∀ (k d z : Nat), 1048577 - d ≤ k → 2 ≤ d → 0 < z → Clear d z → (∀ q ∈ (fac d z).1, Pri q) ∧ ∃ D, Clear D (fac d z).2 ∧ (1048576 < D ∨ (fac d z).2 < D * D) := by
  intro k
  induction k with
  | zero =>
    intro d z hk hd _ hc
    rw [fac_no (by omega)]
    exact ⟨(fun q hq => by cases hq), d, hc, .inl (by omega)⟩
  | succ k ih =>
    intro d z hk hd hz hc
    by_cases h : d ≤ 1048576 ∧ d * d ≤ z
    · rw [fac_yes h.1 h.2]
      have hs := strip_clear hd z hz hc
      have h3 := (strip_math hd z hz)
      obtain ⟨i1, i2⟩ := ih (d + 1) (strip d z).2 (by omega) (by omega) h3.2.2 hs.1
      refine ⟨fun q hq => ?_, i2⟩
      rcases List.mem_append.1 hq with e | e
      · obtain rfl := h3.2.1 q e
        exact clear_pri hd hc (hs.2 (fun e2 => by rw [e2] at e; cases e))
      · exact i1 q e
    · rw [fac_no h]
      refine ⟨(fun q hq => by cases hq), d, hc, ?_⟩
      rcases Nat.lt_or_ge 1048576 d with h1 | h1
      · exact .inl h1
      · exact .inr (Nat.lt_of_not_le fun h2 => h ⟨h1, h2⟩)
theorem clear_two (z : Nat) : Clear 2 z := fun e h1 h2 => absurd h1 (by omega)
/-- Of a small number all factors are primes. -/
theorem facs_pri {n : Nat} {l : List Nat} (hn : 0 < n) (hs : n < 1048576) (h : facs n = some l) : ∀ q ∈ l, Pri q := by
  obtain ⟨h1, D, h2, h3⟩ := fac_pri 1048575 2 n (by decide) (Nat.le_refl _) hn (clear_two n)
  have hm := fac_math 1048575 2 n (by decide) (Nat.le_refl _) hn
  unfold facs at h
  by_cases e : (fac 2 n).2 = 1
  · rw [if_pos e] at h; cases h; exact h1
  · rw [if_neg e] at h
    by_cases e2 : isP (fac 2 n).2 = true
    · rw [if_pos e2] at h
      cases h
      intro q hq
      rcases List.mem_append.1 hq with hq | hq
      · exact h1 q hq
      · rw [List.mem_singleton.1 hq]
        refine pri_of_isP (Nat.lt_of_le_of_lt (Nat.le_of_dvd hn ⟨lp (fac 2 n).1, ?_⟩) hs) e2
        rw [Nat.mul_comm]; exact hm.1.symm
    · rw [if_neg e2] at h; cases h
/-- All factors that are found pass the test. -/
theorem facs_isP {n : Nat} {l : List Nat} (hn : 0 < n) (h64 : n < 18446744073709551616) (h : facs n = some l) : ∀ q ∈ l, isP q = true := by
  obtain ⟨h1, _⟩ := fac_pri 1048575 2 n (by decide) (Nat.le_refl _) hn (clear_two n)
  have hle := facs_le hn h
  unfold facs at h
  by_cases e : (fac 2 n).2 = 1
  · rw [if_pos e] at h; cases h; exact fun q hq => isP_pri (h1 q hq) (by have := (hle q hq).2; omega)
  · rw [if_neg e] at h
    by_cases e2 : isP (fac 2 n).2 = true
    · rw [if_pos e2] at h
      cases h
      intro q hq
      rcases List.mem_append.1 hq with hq2 | hq2
      · exact isP_pri (h1 q hq2) (by have := (hle q hq).2; omega)
      · rw [List.mem_singleton.1 hq2]; exact e2
    · rw [if_neg e2] at h; cases h
theorem pri_lp {p : Nat} (h : Pri p) : ∀ {l : List Nat}, (∀ q ∈ l, Pri q) → p ∣ lp l → p ∈ l
  | [], _, hd => by
    have := Nat.le_of_dvd (by decide) (show p ∣ 1 from hd)
    have := h.1
    omega
  | x :: r, hl, hd => by
    rcases h.euclid (show p ∣ x * lp r from hd) with h1 | h1
    · rcases (hl x (List.mem_cons_self ..)).2 p h1 with h2 | h2
      · have := h.1; omega
      · rw [h2]; exact List.mem_cons_self ..
    · exact List.mem_cons_of_mem _ (pri_lp h (fun q hq => hl q (List.mem_cons_of_mem _ hq)) h1)
/-- The law's loop: what it has seen up to i. -/
def NoOne (p s i : Nat) : Prop := ∀ j, 1 ≤ j → j < i → s ^ j % p ≠ 1
/-- Of a period, the least exponent divides it. -/
theorem least_dvd {p s o k : Nat} (hp : 2 ≤ p) (h1 : s ^ o % p = 1) (ho : 0 < o) (hn : NoOne p s o) (hk : s ^ k % p = 1) : o ∣ k := by
  refine Nat.dvd_of_mod_eq_zero (Classical.byContradiction fun h0 => ?_)
  refine hn (k % o) (by omega) (Nat.mod_lt _ ho) ?_
  have e : s ^ k % p = s ^ (k % o) % p := by
    conv => lhs; rw [← Nat.div_add_mod k o]
    rw [Nat.pow_add, Nat.pow_mul, Nat.mul_mod, Nat.pow_mod, h1, Nat.one_pow, Nat.mod_eq_of_lt (show 1 < p by omega), Nat.one_mul, Nat.mod_mod]
  rw [← e]; exact hk
theorem not_dvd {p s : Nat} (h1 : 1 ≤ s) (h2 : s < p) : ¬ p ∣ s := fun h => by
  have := Nat.le_of_dvd h1 h
  omega
/-- The order of s is p - 1 exactly if no power by a factor is 1. -/
theorem order_iff {p s o : Nat} {l : List Nat} (pp : Pri p) (hs1 : 1 ≤ s) (hsp : s < p) (hf : facs (p - 1) = some l) (hl : ∀ q ∈ l, Pri q) (h1 : s ^ o % p = 1) (ho : 0 < o) (hn : NoOne p s o) : o = p - 1 ↔ l.any (rootBad p s) = false := by
  have p2 := pp.1
  have hm := facs_math (n := p - 1) (by omega) hf
  constructor
  · rintro rfl
    rw [List.any_eq_false]
    intro q hq hb
    have hq2 := (hl q hq).1
    have hd : q ∣ p - 1 := hm.1 ▸ lp_dvd hq
    have hle := Nat.le_of_dvd (by omega) hd
    refine hn ((p - 1) / q) (Nat.div_pos hle (by omega)) (Nat.div_lt_self (by omega) hq2) ?_
    exact of_decide_eq_true hb
  · intro hb
    obtain ⟨c, hc⟩ := least_dvd p2 h1 ho hn (fermat pp (not_dvd hs1 hsp))
    by_cases hc1 : c = 1
    · rw [hc, hc1, Nat.mul_one]
    · exfalso
      have hc0 : c ≠ 0 := by rintro rfl; omega
      obtain ⟨q, qp, hqc⟩ := has_prime c (by omega)
      have hq : q ∈ l := pri_lp qp hl (hm.1 ▸ Nat.dvd_trans hqc ⟨o, by rw [hc, Nat.mul_comm]⟩)
      rw [List.any_eq_false] at hb
      refine hb q hq (decide_eq_true ?_)
      obtain ⟨a, ha⟩ := hqc
      have e : (p - 1) / q = o * a := by
        rw [hc, ha, show o * (q * a) = q * (o * a) by rw [← Nat.mul_assoc, Nat.mul_comm o q, Nat.mul_assoc], Nat.mul_div_cancel_left _ (by have := qp.1; omega)]
      rw [e, Nat.pow_mul, Nat.pow_mod, h1, Nat.one_pow, Nat.mod_eq_of_lt (by omega)]
/-- A primitive root below p, for the primes that the law asks for. -/
def hasRoot (p : Nat) : Bool := (List.range 40).any fun r => Nat.blt r p && Nat.blt 0 r && (List.range p).all fun q => Nat.ble q 1 || !((p - 1) % q == 0) || !(r ^ ((p - 1) / q) % p == 1)
def rootsAll : Bool := (List.range 2002).all fun i => !(isP (i + 2)) || hasRoot (i + 2)
set_option maxRecDepth 1000000 in
theorem roots_all : rootsAll = true := by decide +kernel
theorem isP_2003 : isP 2003 = true := by decide +kernel
theorem root_below {p r : Nat} {l : List Nat} (hp : isP p = true) (hs : p ≤ 2003) (hf : facs (p - 1) = some l) (h : IsRoot p l r) : r < p := by
  have p2 := isP_two hp
  have h1 := List.all_eq_true.1 (show (List.range 2002).all (fun i => !(isP (i + 2)) || hasRoot (i + 2)) = true from roots_all) (p - 2) (List.mem_range.2 (by omega))
  rw [show p - 2 + 2 = p by omega, hp, Bool.not_true, Bool.false_or] at h1
  obtain ⟨g, _, hg⟩ := List.any_eq_true.1 h1
  simp only [Bool.and_eq_true, Nat.blt_eq] at hg
  obtain ⟨⟨hgp, hg0⟩, hg⟩ := hg
  rcases Nat.lt_or_ge r p with h2 | h2
  · exact h2
  · exfalso
    have h3 := h.2.2 g (by omega) (by omega)
    obtain ⟨q, hq, hb⟩ := List.any_eq_true.1 h3
    have hm := facs_math (n := p - 1) (by omega) hf
    have hq2 := hm.2 q hq
    have hd : q ∣ p - 1 := hm.1 ▸ lp_dvd hq
    have hle := Nat.le_of_dvd (by omega) hd
    have h4 := List.all_eq_true.1 hg q (List.mem_range.2 (by omega))
    have e1 : Nat.ble q 1 = false := by
      cases e : Nat.ble q 1 with
      | false => rfl
      | true => have := Nat.le_of_ble_eq_true e; omega
    have e2 : ((p - 1) % q == 0) = true := by rw [beq_iff_eq]; exact Nat.mod_eq_zero_of_dvd hd
    have e3 : (g ^ ((p - 1) / q) % p == 1) = true := by rw [beq_iff_eq]; exact of_decide_eq_true hb
    rw [e1, e2, e3] at h4
    cases h4
end Go.Proofs.YtfompolklkehpaaDoor.Pr
