/- Plain numbers for layer 1: the sign of Gauss and Schering for odd moduli; it is multiplicative, its law of reciprocity, its value at 2, and Euler's criterion. No walk. -/
import Derived.Test.YtfompolklkehpaaDoorPp2
namespace Go.Proofs.YtfompolklkehpaaDoor.Qr

/-! ### Products and sums over lists. -/
def lpr (f : Nat → Int) : List Nat → Int
  | [] => 1
  | x :: l => f x * lpr f l
def lsm (f : Nat → Nat) : List Nat → Nat
  | [] => 0
  | x :: l => f x + lsm f l
/-- 1, .., h -/
abbrev upto (h : Nat) : List Nat := List.range' 1 h
theorem mem_upto {h k : Nat} : k ∈ upto h ↔ 1 ≤ k ∧ k ≤ h := by
  rw [List.mem_range'_1]; omega
theorem upto_nodup (h : Nat) : (upto h).Nodup := List.nodup_range'
theorem upto_succ (h : Nat) : upto (h + 1) = upto h ++ [h + 1] := by
  unfold upto
  rw [List.range'_concat]
  simp [Nat.add_comm]

theorem lpr_perm {f : Nat → Int} {l l' : List Nat} (h : l.Perm l') : lpr f l = lpr f l' := by
  induction h with
  | nil => rfl
  | cons x _ ih => simp only [lpr, ih]
  | swap x y l => simp only [lpr]; rw [Int.mul_left_comm]
  | trans _ _ a b => exact a.trans b
theorem lpr_map (f : Nat → Int) (g : Nat → Nat) (l : List Nat) : lpr f (l.map g) = lpr (fun k => f (g k)) l := by
  induction l with
  | nil => rfl
  | cons x l ih => simp only [List.map_cons, lpr, ih]
theorem lpr_mul (f g : Nat → Int) (l : List Nat) : lpr (fun k => f k * g k) l = lpr f l * lpr g l := by
  induction l with
  | nil => rfl
  | cons x l ih =>
    simp only [lpr, ih]
    rw [Int.mul_assoc, Int.mul_assoc, Int.mul_left_comm (g x)]
theorem lpr_congr {f g : Nat → Int} {l : List Nat} (h : ∀ k ∈ l, f k = g k) : lpr f l = lpr g l := by
  induction l with
  | nil => rfl
  | cons x l ih =>
    simp only [lpr]
    rw [h x List.mem_cons_self, ih (fun k hk => h k (List.mem_cons_of_mem _ hk))]
theorem lsm_congr {f g : Nat → Nat} {l : List Nat} (h : ∀ k ∈ l, f k = g k) : lsm f l = lsm g l := by
  induction l with
  | nil => rfl
  | cons x l ih =>
    simp only [lsm]
    rw [h x List.mem_cons_self, ih (fun k hk => h k (List.mem_cons_of_mem _ hk))]
theorem lsm_add (f g : Nat → Nat) (l : List Nat) : lsm (fun k => f k + g k) l = lsm f l + lsm g l := by
  induction l with
  | nil => rfl
  | cons x l ih => simp only [lsm, ih]; omega
theorem lsm_const (c : Nat) (l : List Nat) : lsm (fun _ => c) l = c * l.length := by
  induction l with
  | nil => simp [lsm]
  | cons x l ih => simp only [lsm, ih, List.length_cons, Nat.mul_succ]; omega
theorem lsm_zero (l : List Nat) : lsm (fun _ => 0) l = 0 := by rw [lsm_const, Nat.zero_mul]
theorem lsm_swap (g : Nat → Nat → Nat) (l l' : List Nat) : lsm (fun k => lsm (fun j => g k j) l') l = lsm (fun j => lsm (fun k => g k j) l) l' := by
  induction l with
  | nil => simp only [lsm]; rw [lsm_zero]
  | cons x l ih => simp only [lsm]; rw [ih, lsm_add]
theorem lsm_append (f : Nat → Nat) (l l' : List Nat) : lsm f (l ++ l') = lsm f l + lsm f l' := by
  induction l with
  | nil => simp [lsm]
  | cons x l ih => simp only [List.cons_append, lsm, ih]; omega

/-! ### Signs. -/
/-- (-1)^n -/
def sg (n : Nat) : Int := if n % 2 = 1 then -1 else 1
theorem sg_add (a b : Nat) : sg (a + b) = sg a * sg b := by
  unfold sg
  by_cases ha : a % 2 = 1 <;> by_cases hb : b % 2 = 1
  · rw [if_pos ha, if_pos hb, if_neg (by omega)]; rfl
  · rw [if_pos ha, if_neg hb, if_pos (by omega)]; rfl
  · rw [if_neg ha, if_pos hb, if_pos (by omega)]; rfl
  · rw [if_neg ha, if_neg hb, if_neg (by omega)]; rfl
theorem sg_sq (a : Nat) : sg a * sg a = 1 := by
  unfold sg; split <;> rfl
theorem sg_parity {a b : Nat} (h : a % 2 = b % 2) : sg a = sg b := by unfold sg; rw [h]
theorem sg_lsm (f : Nat → Nat) (l : List Nat) : lpr (fun k => sg (f k)) l = sg (lsm f l) := by
  induction l with
  | nil => rfl
  | cons x l ih => simp only [lpr, lsm, ih, sg_add]
theorem lpr_sq {f : Nat → Int} {l : List Nat} (h : ∀ k ∈ l, f k * f k = 1) : lpr f l * lpr f l = 1 := by
  rw [← lpr_mul]
  induction l with
  | nil => rfl
  | cons x l ih =>
    simp only [lpr]
    rw [h x List.mem_cons_self, ih (fun k hk => h k (List.mem_cons_of_mem _ hk))]; rfl

/-! ### The sign of Gauss and Schering. -/
/-- The sign of a k modulo n, and its place in the half system. -/
def ep (n a k : Nat) : Int := if n / 2 < a * k % n then -1 else 1
def pl (n a k : Nat) : Nat := if n / 2 < a * k % n then n - a * k % n else a * k % n
/-- The product of the signs. -/
def gs (a n : Nat) : Int := lpr (ep n a) (upto (n / 2))

theorem ep_sq (n a k : Nat) : ep n a k * ep n a k = 1 := by unfold ep; split <;> rfl
theorem gs_sq (a n : Nat) : gs a n * gs a n = 1 := lpr_sq fun k _ => ep_sq n a k
theorem one_or {x : Int} (h : x * x = 1) : x = 1 ∨ x = -1 := by
  have h1 : (x - 1) * (x + 1) = 0 := by
    rw [Int.sub_mul, Int.mul_add, h]; omega
  rcases Int.mul_eq_zero.1 h1 with h2 | h2
  · left; omega
  · right; omega
theorem gs_or (a n : Nat) : gs a n = 1 ∨ gs a n = -1 := one_or (gs_sq a n)

theorem res_pos {n a k : Nat} (hg : Nat.gcd a n = 1) (h1 : 1 ≤ k) (h2 : k < n) : a * k % n ≠ 0 := by
  intro h
  have hd : n ∣ a * k := Nat.dvd_of_mod_eq_zero h
  have hc : Nat.Coprime n a := by rw [Nat.Coprime, Nat.gcd_comm]; exact hg
  have := Nat.le_of_dvd (by omega) (hc.dvd_of_dvd_mul_left hd)
  omega

theorem pl_mem {n a k : Nat} (hn : n % 2 = 1) (hg : Nat.gcd a n = 1) (hk : k ∈ upto (n / 2)) : pl n a k ∈ upto (n / 2) := by
  rw [mem_upto] at *
  have h1 := res_pos hg hk.1 (by omega : k < n)
  have h2 : a * k % n < n := Nat.mod_lt _ (by omega)
  unfold pl
  split <;> omega

/-- a times a place: what the sign of a product is. -/
theorem mul_mod_sub (n a r : Nat) (hr : r ≤ n) (h : a * r % n ≠ 0) : a * (n - r) % n = n - a * r % n := by
  have hn : 0 < n := by
    rcases Nat.eq_zero_or_pos n with h0 | h0
    · subst h0
      have : r = 0 := by omega
      subst this
      simp at h
    · exact h0
  have h2 : a * r % n < n := Nat.mod_lt _ hn
  have h3 : (a * (n - r) + a * r) % n = 0 := by
    rw [← Nat.mul_add, Nat.sub_add_cancel hr, Nat.mul_mod_left]
  have h4 : (a * (n - r) % n + a * r % n) % n = 0 := by rw [← Nat.add_mod]; exact h3
  have h5 : a * (n - r) % n < n := Nat.mod_lt _ hn
  rcases Nat.lt_or_ge (a * (n - r) % n + a * r % n) n with h6 | h6
  · rw [Nat.mod_eq_of_lt h6] at h4; omega
  · have : a * (n - r) % n + a * r % n = n := by
      rw [Nat.mod_eq_sub_mod h6, Nat.mod_eq_of_lt (by omega)] at h4
      omega
    omega

theorem ep_mul {n a b k : Nat} (hn : n % 2 = 1) (ha : Nat.gcd a n = 1) (hb : Nat.gcd b n = 1) (hk : k ∈ upto (n / 2)) :
    ep n (a * b) k = ep n b k * ep n a (pl n b k) ∧ (pl n (a * b) k = pl n a (pl n b k)) := by
  have hpl := pl_mem hn hb hk
  rw [mem_upto] at hk hpl
  have hr0 := res_pos hb hk.1 (by omega : k < n)
  have hr1 : b * k % n < n := Nat.mod_lt _ (by omega)
  have e1 : a * b * k % n = a * (b * k % n) % n := by rw [Nat.mul_mod_mod, Nat.mul_assoc]
  have h3 := res_pos ha (k := b * k % n) (by omega) hr1
  have h4 : a * (b * k % n) % n < n := Nat.mod_lt _ (by omega)
  have hsub := mul_mod_sub n a (b * k % n) (by omega) h3
  unfold ep pl at *
  rw [e1]
  generalize b * k % n = r at *
  by_cases h : n / 2 < r
  · simp only [if_pos h] at *
    rw [hsub]
    generalize a * r % n = t at *
    by_cases h5 : n / 2 < t
    · rw [if_pos h5, if_pos h5, if_neg (by omega), if_neg (by omega)]; exact ⟨rfl, by omega⟩
    · rw [if_neg h5, if_neg h5, if_pos (by omega), if_pos (by omega)]; exact ⟨rfl, by omega⟩
  · simp only [if_neg h] at *
    exact ⟨by rw [Int.one_mul], trivial⟩

theorem pl_one {n k : Nat} (hk : k ∈ upto (n / 2)) : pl n 1 k = k := by
  rw [mem_upto] at hk
  unfold pl
  rw [Nat.one_mul, Nat.mod_eq_of_lt (by omega), if_neg (by omega)]
theorem pl_mod (n a k : Nat) : pl n (a % n) k = pl n a k := by unfold pl; rw [Nat.mod_mul_mod]
theorem ep_mod (n a k : Nat) : ep n (a % n) k = ep n a k := by unfold ep; rw [Nat.mod_mul_mod]
theorem gs_mod (n a : Nat) : gs (a % n) n = gs a n := lpr_congr fun k _ => ep_mod n a k

theorem inverse_exists {a n : Nat} (hn : 0 < n) (hg : Nat.gcd a n = 1) : ∃ c, c * a % n = 1 % n := by
  rcases Nat.eq_or_lt_of_le (show 1 ≤ n by omega) with h | h
  · exact ⟨0, by rw [← h]; simp⟩
  · -- Euclid's loop, as a plain recursion
    have key : ∀ (d rest : Nat) (x y : Int), (n : Int) ∣ x * a - d → (n : Int) ∣ y * a - rest → ∃ z : Int, (n : Int) ∣ z * a - Nat.gcd d rest := by
      intro d rest
      induction d, rest using Nat.gcd.induction with
      | H0 m => intro x y _ hy; exact ⟨y, by rw [Nat.gcd_zero_left]; exact hy⟩
      | H1 d rest hd ih =>
        intro x y hx hy
        rw [Nat.gcd_rec]
        refine ih (y - ((rest / d : Nat) : Int) * x) x ?_ hx
        have e : (y - ((rest / d : Nat) : Int) * x) * a - ((rest % d : Nat) : Int) = (y * a - rest) - ((rest / d : Nat) : Int) * (x * a - d) := by
          have e1 : (rest : Int) = (d : Int) * ((rest / d : Nat) : Int) + ((rest % d : Nat) : Int) := by rw [← Int.natCast_mul, ← Int.natCast_add, Nat.div_add_mod]
          rw [Int.sub_mul, Int.mul_sub, Int.mul_assoc, Int.mul_comm ((rest / d : Nat) : Int) (d : Int)]
          omega
        rw [e]
        exact Int.dvd_sub hy (Int.dvd_trans hx (Int.dvd_mul_left _ _))
    obtain ⟨z, hz⟩ := key a n 1 0 (by rw [Int.one_mul, Int.sub_self]; exact Int.dvd_zero _) ⟨-1, by omega⟩
    rw [hg] at hz
    refine ⟨(z % n).toNat, ?_⟩
    apply Wm.mod_of_dvd
    rw [Int.natCast_mul, Int.toNat_of_nonneg (Int.emod_nonneg _ (by omega))]
    have e : (z % n) * a - ((1 : Nat) : Int) = (z * a - ((1 : Nat) : Int)) - (z - z % n) * a := by rw [Int.sub_mul]; omega
    rw [e]
    exact Int.dvd_sub hz (Int.dvd_trans Int.dvd_self_sub_emod (Int.dvd_mul_right _ _))

theorem coprime_of_inv {a n c : Nat} (h : c * a % n = 1 % n) (hn : 0 < n) : Nat.gcd c n = 1 := by
  have hd := Wm.dvd_of_mod h
  have h1 : ((Nat.gcd c n : Nat) : Int) ∣ ((c * a : Nat) : Int) := Int.natCast_dvd_natCast.2 (Nat.dvd_trans (Nat.gcd_dvd_left c n) (Nat.dvd_mul_right _ _))
  have h2 : ((Nat.gcd c n : Nat) : Int) ∣ (n : Int) := Int.natCast_dvd_natCast.2 (Nat.gcd_dvd_right c n)
  have h3 : ((Nat.gcd c n : Nat) : Int) ∣ ((1 : Nat) : Int) := by
    have e : ((1 : Nat) : Int) = ((c * a : Nat) : Int) - (((c * a : Nat) : Int) - ((1 : Nat) : Int)) := by omega
    rw [e]
    exact Int.dvd_sub h1 (Int.dvd_trans h2 hd)
  have h4 := Int.natCast_dvd_natCast.1 h3
  have := Nat.le_of_dvd (by omega) h4
  have := Nat.gcd_pos_of_pos_right c hn
  omega

/-- The places are a permutation of the half system. -/
theorem pl_perm {n a : Nat} (hn : n % 2 = 1) (hg : Nat.gcd a n = 1) : ((upto (n / 2)).map (pl n a)).Perm (upto (n / 2)) := by
  obtain ⟨c, hc⟩ := inverse_exists (by omega : 0 < n) hg
  have hgc := coprime_of_inv hc (by omega)
  have hac : a * c % n = 1 % n := by rw [Nat.mul_comm]; exact hc
  have back : ∀ k ∈ upto (n / 2), pl n c (pl n a k) = k := by
    intro k hk
    rw [← (ep_mul hn hgc hg hk).2, ← pl_mod, hc, pl_mod]
    exact pl_one hk
  have forth : ∀ k ∈ upto (n / 2), pl n a (pl n c k) = k := by
    intro k hk
    rw [← (ep_mul hn hg hgc hk).2, ← pl_mod, hac, pl_mod]
    exact pl_one hk
  have hnd : ((upto (n / 2)).map (pl n a)).Nodup := by
    rw [List.nodup_iff_pairwise_ne, List.pairwise_map]
    refine List.Pairwise.imp_of_mem ?_ (upto_nodup (n / 2))
    intro x y hx hy hne h
    exact hne (by rw [← back x hx, ← back y hy, h])
  refine (List.perm_ext_iff_of_nodup hnd (upto_nodup _)).2 fun k => ?_
  rw [List.mem_map]
  constructor
  · rintro ⟨x, hx, rfl⟩
    exact pl_mem hn hg hx
  · intro hk
    exact ⟨pl n c k, pl_mem hn hgc hk, forth k hk⟩

theorem lpr_pl {n a : Nat} (f : Nat → Int) (hn : n % 2 = 1) (hg : Nat.gcd a n = 1) : lpr (fun k => f (pl n a k)) (upto (n / 2)) = lpr f (upto (n / 2)) := by
  rw [← lpr_map]
  exact lpr_perm (pl_perm hn hg)

/-- The sign is multiplicative. -/
theorem gs_mul {n a b : Nat} (hn : n % 2 = 1) (ha : Nat.gcd a n = 1) (hb : Nat.gcd b n = 1) : gs (a * b) n = gs a n * gs b n := by
  unfold gs
  rw [lpr_congr (fun k hk => (ep_mul hn ha hb hk).1), lpr_mul, lpr_pl (ep n a) hn hb, Int.mul_comm]
end Go.Proofs.YtfompolklkehpaaDoor.Qr
