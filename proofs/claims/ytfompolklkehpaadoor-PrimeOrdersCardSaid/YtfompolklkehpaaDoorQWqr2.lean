/- Plain numbers for layer 1: reciprocity, the sign of 2, and that the program's recursion is the symbol; Euler's criterion. No walk. -/
import Derived.Test.YtfompolklkehpaaDoorQWqr
namespace Go.Proofs.YtfompolklkehpaaDoor.Qr

/-! ### Reciprocity. -/
theorem mul_odd_mod {m : Nat} (hm : m % 2 = 1) (k : Nat) : m * k % 2 = k % 2 := by
  rw [Nat.mul_mod, hm, Nat.one_mul, Nat.mod_mod]

theorem sg_split {n m k : Nat} (hn : n % 2 = 1) (hm : m % 2 = 1) : sg k = sg (m * k / n) * (ep n m k * sg (pl n m k)) := by
  have h1 := Nat.div_add_mod (m * k) n
  have h2 := mul_odd_mod hm k
  have h3 := mul_odd_mod hn (m * k / n)
  have h4 : m * k % n < n := Nat.mod_lt _ (by omega)
  unfold ep pl
  generalize m * k / n = q at *
  generalize m * k % n = r at *
  generalize m * k = x at *
  generalize n * q = y at *
  by_cases h : n / 2 < r
  · rw [if_pos h, if_pos h]
    have e1 : sg k = sg (q + r) := sg_parity (by omega)
    have e2 : sg (n - r) = sg (1 + r) := sg_parity (by omega)
    have e3 : sg 1 = -1 := rfl
    rw [e1, e2, sg_add, sg_add, e3]
    rw [← Int.mul_assoc (-1) (-1)]
    have : (-1 : Int) * -1 = 1 := rfl
    rw [this, Int.one_mul]
  · rw [if_neg h, if_neg h, Int.one_mul, ← sg_add]
    exact sg_parity (by omega)

theorem gs_floor {n m : Nat} (hn : n % 2 = 1) (hm : m % 2 = 1) (hg : Nat.gcd m n = 1) : gs m n = sg (lsm (fun k => m * k / n) (upto (n / 2))) := by
  have h1 : lpr sg (upto (n / 2)) = lpr (fun k => sg (m * k / n) * (ep n m k * sg (pl n m k))) (upto (n / 2)) := lpr_congr fun k _ => sg_split hn hm
  have e1 := lpr_mul (fun k => sg (m * k / n)) (fun k => ep n m k * sg (pl n m k)) (upto (n / 2))
  have e2 := sg_lsm (fun k => m * k / n) (upto (n / 2))
  have e3 := lpr_mul (ep n m) (fun k => sg (pl n m k)) (upto (n / 2))
  have e4 := lpr_pl sg hn hg
  rw [e2, e3, e4] at e1
  rw [e1] at h1
  clear e1 e2 e3 e4
  change lpr sg (upto (n / 2)) = sg (lsm (fun k => m * k / n) (upto (n / 2))) * (gs m n * lpr sg (upto (n / 2))) at h1
  have h2 : lpr sg (upto (n / 2)) * lpr sg (upto (n / 2)) = 1 := lpr_sq fun k _ => sg_sq k
  have h3 := sg_sq (lsm (fun k => m * k / n) (upto (n / 2)))
  generalize sg (lsm (fun k => m * k / n) (upto (n / 2))) = F at *
  generalize lpr sg (upto (n / 2)) = S at *
  generalize gs m n = G at *
  have h4 : S * S = F * G * (S * S) := by
    have h5 : S * S = F * (G * S) * S := congrArg (fun t => t * S) h1
    exact h5.trans (by simp only [Int.mul_assoc])
  rw [h2, Int.mul_one] at h4
  calc G = F * F * G := by rw [h3, Int.one_mul]
    _ = F * (F * G) := by rw [Int.mul_assoc]
    _ = F := by rw [← h4, Int.mul_one]

theorem count_floor (n x : Nat) (hn : 0 < n) (J : Nat) : lsm (fun j => if n * j ≤ x then 1 else 0) (upto J) = min J (x / n) := by
  induction J with
  | zero => simp [lsm]
  | succ J ih =>
    rw [upto_succ, lsm_append, ih]
    simp only [lsm, Nat.add_zero]
    have h : n * (J + 1) ≤ x ↔ J + 1 ≤ x / n := by rw [Nat.le_div_iff_mul_le hn, Nat.mul_comm]
    by_cases h1 : n * (J + 1) ≤ x
    · rw [if_pos h1]; have := h.1 h1; omega
    · rw [if_neg h1]; have : ¬ J + 1 ≤ x / n := fun hh => h1 (h.2 hh); omega

theorem floor_le {n m k : Nat} (hm : m % 2 = 1) (hk : k ≤ n / 2) (hn : n % 2 = 1) : m * k / n ≤ m / 2 := by
  have h0 : 0 < n := by omega
  apply Nat.le_of_lt_succ
  apply (Nat.div_lt_iff_lt_mul h0).2
  have h1 : m * (2 * k) ≤ m * n := Nat.mul_le_mul_left _ (by omega)
  have h2 : (m / 2).succ * n * 2 = m * n + n := by
    have : (m / 2).succ * 2 = m + 1 := by omega
    rw [Nat.mul_right_comm, this, Nat.add_mul, Nat.one_mul]
  have h3 : m * (2 * k) = 2 * (m * k) := by rw [Nat.mul_left_comm]
  omega

theorem lattice {n m : Nat} (hn : n % 2 = 1) (hm : m % 2 = 1) (hg : Nat.gcd m n = 1) :
    lsm (fun k => m * k / n) (upto (n / 2)) + lsm (fun j => n * j / m) (upto (m / 2)) = (m / 2) * (n / 2) := by
  have e1 : lsm (fun k => m * k / n) (upto (n / 2)) = lsm (fun k => lsm (fun j => if n * j ≤ m * k then 1 else 0) (upto (m / 2))) (upto (n / 2)) :=
    lsm_congr fun k hk => by
      rw [mem_upto] at hk
      rw [count_floor n (m * k) (by omega), Nat.min_eq_right (floor_le hm hk.2 hn)]
  have e2 : lsm (fun j => n * j / m) (upto (m / 2)) = lsm (fun j => lsm (fun k => if m * k ≤ n * j then 1 else 0) (upto (n / 2))) (upto (m / 2)) :=
    lsm_congr fun j hj => by
      rw [mem_upto] at hj
      rw [count_floor m (n * j) (by omega), Nat.min_eq_right (floor_le hn hj.2 hm)]
  rw [e1, e2, lsm_swap (fun j k => if m * k ≤ n * j then 1 else 0), ← lsm_add]
  have e3 : lsm (fun k => lsm (fun j => if n * j ≤ m * k then 1 else 0) (upto (m / 2)) + lsm (fun j => if m * k ≤ n * j then 1 else 0) (upto (m / 2))) (upto (n / 2)) = lsm (fun _ => m / 2) (upto (n / 2)) :=
    lsm_congr fun k hk => by
      rw [← lsm_add]
      have : lsm (fun j => (if n * j ≤ m * k then 1 else 0) + (if m * k ≤ n * j then 1 else 0)) (upto (m / 2)) = lsm (fun _ => 1) (upto (m / 2)) :=
        lsm_congr fun j hj => by
          rw [mem_upto] at hk hj
          have hne : n * j ≠ m * k := by
            intro h
            have hd : n ∣ m * k := ⟨j, h.symm⟩
            have hc : Nat.Coprime n m := by rw [Nat.Coprime, Nat.gcd_comm]; exact hg
            have := Nat.le_of_dvd (by omega) (hc.dvd_of_dvd_mul_left hd)
            omega
          rcases Nat.lt_or_ge (n * j) (m * k) with h | h
          · rw [if_pos (by omega), if_neg (by omega)]
          · rw [if_neg (by omega), if_pos (by omega)]
      rw [this, lsm_const, List.length_range', Nat.one_mul]
  rw [e3, lsm_const, List.length_range']

theorem reciprocity {n m : Nat} (hn : n % 2 = 1) (hm : m % 2 = 1) (hg : Nat.gcd m n = 1) : gs m n = Wm.s4 m n * gs n m := by
  have h1 := gs_floor hn hm hg
  have h2 := gs_floor hm hn (by rw [Nat.gcd_comm]; exact hg)
  have h3 := lattice hn hm hg
  have h4 : Wm.s4 m n = sg ((m / 2) * (n / 2)) := by
    unfold Wm.s4
    by_cases ha : m % 4 = 3 <;> by_cases hb : n % 4 = 3
    · rw [if_pos ⟨ha, hb⟩]
      have : sg ((m / 2) * (n / 2)) = sg 1 := sg_parity (by rw [Nat.mul_mod, show m / 2 % 2 = 1 by omega, show n / 2 % 2 = 1 by omega])
      rw [this]; rfl
    · rw [if_neg (by omega)]
      have : sg ((m / 2) * (n / 2)) = sg 0 := sg_parity (by rw [Nat.mul_mod, show n / 2 % 2 = 0 by omega, Nat.mul_zero])
      rw [this]; rfl
    · rw [if_neg (by omega)]
      have : sg ((m / 2) * (n / 2)) = sg 0 := sg_parity (by rw [Nat.mul_mod, show m / 2 % 2 = 0 by omega, Nat.zero_mul])
      rw [this]; rfl
    · rw [if_neg (by omega)]
      have : sg ((m / 2) * (n / 2)) = sg 0 := sg_parity (by rw [Nat.mul_mod, show m / 2 % 2 = 0 by omega, Nat.zero_mul])
      rw [this]; rfl
  rw [h4, h1, h2, ← h3, sg_add, Int.mul_assoc, sg_sq, Int.mul_one]

/-! ### The sign of 2. -/
theorem count_two (h J : Nat) : lsm (fun k => if h < 2 * k then 1 else 0) (upto J) = J - h / 2 := by
  induction J with
  | zero => simp [lsm]
  | succ J ih =>
    rw [upto_succ, lsm_append, ih]
    simp only [lsm, Nat.add_zero]
    by_cases h1 : h < 2 * (J + 1)
    · rw [if_pos h1]; omega
    · rw [if_neg h1]; omega
theorem gs_two {n : Nat} (hn : n % 2 = 1) : gs 2 n = Wm.s2 n := by
  have e : gs 2 n = lpr (fun k => sg (if n / 2 < 2 * k then 1 else 0)) (upto (n / 2)) := lpr_congr fun k hk => by
    rw [mem_upto] at hk
    unfold ep
    rw [Nat.mod_eq_of_lt (by omega)]
    split <;> rfl
  rw [e, sg_lsm, count_two]
  unfold Wm.s2 sg
  by_cases h : n % 8 = 3 ∨ n % 8 = 5
  · rw [if_pos h, if_pos (by omega)]
  · rw [if_neg h, if_neg (by omega)]

/-! ### The program's recursion is the symbol. -/
theorem gcd_two {n : Nat} (hn : n % 2 = 1) : Nat.gcd 2 n = 1 := by rw [Nat.gcd_rec, hn]; exact Nat.gcd_one_left 2
theorem jac_symbol (a : Nat) : ∀ n, n % 2 = 1 → (Nat.gcd a n = 1 → Wm.jac a n = gs a n) ∧ (Nat.gcd a n ≠ 1 → Wm.jac a n = 0) := by
  induction a using Nat.strongRecOn with
  | ind a ih =>
    intro n hn
    by_cases h0 : a = 0
    · subst h0
      rw [Wm.jac_zero, Nat.gcd_zero_left]
      by_cases h1 : n = 1
      · subst h1; exact ⟨fun _ => rfl, fun h => absurd rfl h⟩
      · rw [if_neg h1]; exact ⟨fun h => absurd h h1, fun _ => rfl⟩
    · by_cases h2 : a % 2 = 0
      · obtain ⟨i1, i2⟩ := ih (a / 2) (by omega) n hn
        rw [Wm.jac_even h0 h2]
        have ea : a = 2 * (a / 2) := by omega
        have hgc : Nat.gcd a n = Nat.gcd (a / 2) n := by
          conv => lhs; rw [ea]
          exact Nat.Coprime.gcd_mul_left_cancel _ (gcd_two hn)
        rw [hgc]
        refine ⟨fun hg => ?_, fun hg => by rw [i2 hg, Int.mul_zero]⟩
        rw [i1 hg]
        conv => rhs; rw [ea]
        rw [gs_mul hn (gcd_two hn) hg, gs_two hn]
      · have h3 : a % 2 = 1 := by omega
        obtain ⟨i1, i2⟩ := ih (n % a) (Nat.mod_lt _ (by omega)) a h3
        rw [← Nat.gcd_rec] at i1 i2
        rw [Wm.jac_odd h3]
        exact ⟨fun hg => by rw [i1 hg, gs_mod, reciprocity hn h3 hg], fun hg => by rw [i2 hg, Int.mul_zero]⟩

theorem coprime_mul_iff (a b n : Nat) : Nat.gcd (a * b) n = 1 ↔ Nat.gcd a n = 1 ∧ Nat.gcd b n = 1 := Nat.coprime_mul_iff_left
theorem gcd_mod (a n : Nat) : Nat.gcd (a % n) n = Nat.gcd a n := by rw [← Nat.gcd_rec, Nat.gcd_comm]

/-- The symbol is multiplicative. -/
theorem jac_mul (a b n : Nat) (hn : n % 2 = 1) : Wm.jac (a * b % n) n = Wm.jac a n * Wm.jac b n := by
  obtain ⟨p1, p2⟩ := jac_symbol (a * b % n) n hn
  obtain ⟨q1, q2⟩ := jac_symbol a n hn
  obtain ⟨r1, r2⟩ := jac_symbol b n hn
  rw [gcd_mod] at p1 p2
  by_cases ha : Nat.gcd a n = 1
  · by_cases hb : Nat.gcd b n = 1
    · rw [p1 ((coprime_mul_iff a b n).2 ⟨ha, hb⟩), q1 ha, r1 hb, gs_mod, gs_mul hn ha hb]
    · rw [p2 (fun h => hb ((coprime_mul_iff a b n).1 h).2), r2 hb, Int.mul_zero]
  · rw [p2 (fun h => ha ((coprime_mul_iff a b n).1 h).1), q2 ha, Int.zero_mul]

/-- It is 0 where there is a common divisor, else a sign. -/
theorem jac_cases (a n : Nat) (hn : n % 2 = 1) : (Nat.gcd a n ≠ 1 ∧ Wm.jac a n = 0) ∨ (Nat.gcd a n = 1 ∧ (Wm.jac a n = 1 ∨ Wm.jac a n = -1)) := by
  obtain ⟨q1, q2⟩ := jac_symbol a n hn
  by_cases ha : Nat.gcd a n = 1
  · right; rw [q1 ha]; exact ⟨ha, gs_or a n⟩
  · left; exact ⟨ha, q2 ha⟩

/-! ### Euler's criterion. -/
theorem lpr_modeq {p : Int} {f g : Nat → Int} {l : List Nat} (h : ∀ k ∈ l, p ∣ f k - g k) : p ∣ lpr f l - lpr g l := by
  induction l with
  | nil => simp [lpr]
  | cons x l ih =>
    simp only [lpr]
    have h1 := h x List.mem_cons_self
    have h2 := ih (fun k hk => h k (List.mem_cons_of_mem _ hk))
    have e : f x * lpr f l - g x * lpr g l = (f x - g x) * lpr f l + g x * (lpr f l - lpr g l) := by
      rw [Int.sub_mul, Int.mul_sub]; omega
    rw [e]
    exact Int.dvd_add (Int.dvd_trans h1 (Int.dvd_mul_right _ _)) (Int.dvd_trans h2 (Int.dvd_mul_left _ _))
theorem lpr_const_mul (c : Int) (f : Nat → Int) (l : List Nat) : lpr (fun k => c * f k) l = c ^ l.length * lpr f l := by
  induction l with
  | nil => simp [lpr]
  | cons x l ih =>
    simp only [lpr, ih, List.length_cons, Int.pow_succ]
    rw [Int.mul_assoc, Int.mul_assoc, Int.mul_left_comm (f x), Int.mul_left_comm c]
theorem cancel_list {p : Nat} {X : Int} (l : List Nat) (hl : ∀ k ∈ l, Nat.gcd k p = 1) (h : (p : Int) ∣ X * lpr (fun k => (k : Int)) l) : (p : Int) ∣ X := by
  induction l with
  | nil => simpa [lpr] using h
  | cons x l ih =>
    refine ih (fun k hk => hl k (List.mem_cons_of_mem _ hk)) ?_
    simp only [lpr] at h
    have h1 := hl x List.mem_cons_self
    rw [Int.mul_left_comm] at h
    have h2 := Int.natAbs_dvd_natAbs.2 h
    rw [Int.natAbs_mul, Int.natAbs_natCast, Int.natAbs_natCast] at h2
    have hc : Nat.Coprime p x := by rw [Nat.Coprime, Nat.gcd_comm]; exact h1
    have h3 := hc.dvd_of_dvd_mul_left h2
    exact Int.natAbs_dvd_natAbs.1 (by rw [Int.natAbs_natCast]; exact h3)

theorem ep_pl_mod {p a k : Nat} (hp : p % 2 = 1) : (p : Int) ∣ (a : Int) * (k : Int) - ep p a k * ((pl p a k : Nat) : Int) := by
  have h1 := Nat.div_add_mod (a * k) p
  have h2 : a * k % p < p := Nat.mod_lt _ (by omega)
  rw [← Int.natCast_mul]
  unfold ep pl
  by_cases h : p / 2 < a * k % p
  · rw [if_pos h, if_pos h]
    refine ⟨((a * k / p : Nat) : Int) + 1, ?_⟩
    rw [Int.mul_add, ← Int.natCast_mul]
    generalize p * (a * k / p) = z at *
    omega
  · rw [if_neg h, if_neg h]
    refine ⟨((a * k / p : Nat) : Int), ?_⟩
    rw [← Int.natCast_mul]
    generalize p * (a * k / p) = z at *
    omega

theorem euler {p a : Nat} (hp : p % 2 = 1) (hP : ∀ k, 1 ≤ k → k < p → Nat.gcd k p = 1) (hg : Nat.gcd a p = 1) : (p : Int) ∣ (a : Int) ^ (p / 2) - gs a p := by
  have h1 : (p : Int) ∣ lpr (fun k => (a : Int) * (k : Int)) (upto (p / 2)) - lpr (fun k => ep p a k * ((pl p a k : Nat) : Int)) (upto (p / 2)) :=
    lpr_modeq fun k _ => ep_pl_mod hp
  rw [lpr_const_mul, lpr_mul, lpr_pl (fun k => (k : Int)) hp hg, List.length_range', ← Int.sub_mul] at h1
  exact cancel_list _ (fun k hk => by rw [mem_upto] at hk; exact hP k hk.1 (by omega)) h1

/-- A number without an odd divisor up to its root is prime to all that is less. -/
theorem prime_of_trial {n : Nat} (hn : n % 2 = 1) (ht : ∀ d, 3 ≤ d → d % 2 = 1 → d * d ≤ n → n % d ≠ 0) : ∀ k, 1 ≤ k → k < n → Nat.gcd k n = 1 := by
  intro k h1 h2
  obtain ⟨m, hm⟩ := Nat.gcd_dvd_right k n
  have hle := Nat.gcd_le_left n (by omega : 0 < k)
  have hpos := Nat.gcd_pos_of_pos_left n (by omega : 0 < k)
  generalize Nat.gcd k n = g at *
  by_cases hg1 : g = 1
  · exact hg1
  exfalso
  have hgo : g % 2 = 1 := by
    rcases Nat.mod_two_eq_zero_or_one g with h | h
    · exfalso
      have : n % 2 = 0 := by rw [hm, Nat.mul_mod, h, Nat.zero_mul]
      omega
    · exact h
  have hmo : m % 2 = 1 := by
    rcases Nat.mod_two_eq_zero_or_one m with h | h
    · exfalso
      have : n % 2 = 0 := by rw [hm, Nat.mul_mod, h, Nat.mul_zero]
      omega
    · exact h
  have hm1 : m ≠ 1 := by
    intro h
    rw [h, Nat.mul_one] at hm
    omega
  rcases Nat.le_total g m with h | h
  · have : g * g ≤ n := by rw [hm]; exact Nat.mul_le_mul_left _ h
    exact ht g (by omega) hgo this (by rw [hm, Nat.mul_mod_right])
  · have : m * m ≤ n := by rw [hm]; exact Nat.mul_le_mul_right _ h
    exact ht m (by omega) hmo this (by rw [hm, Nat.mul_mod_left])

theorem jac_euler {p a : Nat} (hp : p % 2 = 1) (hp3 : 3 ≤ p) (ha : a < p) (hP : ∀ k, 1 ≤ k → k < p → Nat.gcd k p = 1) :
    ((a ^ ((p - 1) / 2) % p : Nat) : Int) = Wm.jac a p % (p : Int) := by
  have e : (p - 1) / 2 = p / 2 := by omega
  rw [e]
  obtain ⟨q1, q2⟩ := jac_symbol a p hp
  by_cases hg : Nat.gcd a p = 1
  · rw [q1 hg, Int.natCast_emod, Int.natCast_pow]
    exact Int.emod_eq_emod_iff_emod_sub_eq_zero.2 (Int.emod_eq_zero_of_dvd (euler hp hP hg))
  · have h0 : a = 0 := by
      rcases Nat.eq_zero_or_pos a with h | h
      · exact h
      · exact absurd (hP a h ha) hg
    rw [q2 hg, h0, Nat.zero_pow (by omega)]
    simp
end Go.Proofs.YtfompolklkehpaaDoor.Qr
