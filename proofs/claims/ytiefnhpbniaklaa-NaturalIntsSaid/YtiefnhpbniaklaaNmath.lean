/- Plain mathematics of words of 32 bits: the value of a list of words, the lowest one first. -/
namespace Go.Proofs.Ytiefnhpbniaklaa.Nm

def val : List Nat → Nat
  | [] => 0
  | x :: l => x + 4294967296 * val l
/-- 2^(32 n). -/
def pw : Nat → Nat
  | 0 => 1
  | n + 1 => 4294967296 * pw n
def ok (l : List Nat) : Prop := ∀ x ∈ l, x < 4294967296

theorem pw_pos (n : Nat) : 0 < pw n := by
  induction n with
  | zero => exact Nat.one_pos
  | succ n ih => simp only [pw]; omega
theorem pw_add (m n : Nat) : pw (m + n) = pw m * pw n := by
  induction m with
  | zero => simp [pw]
  | succ m ih => rw [show m + 1 + n = (m + n) + 1 by omega]; simp only [pw, ih, Nat.mul_assoc]
theorem pw_mono {m n : Nat} (h : m ≤ n) : pw m ≤ pw n := by
  obtain ⟨k, rfl⟩ := Nat.exists_eq_add_of_le h
  rw [pw_add]
  exact Nat.le_mul_of_pos_right _ (pw_pos k)
theorem pw_lt {m n : Nat} (h : m < n) : pw m < pw n := by
  have h1 := pw_mono h
  have h2 := pw_pos m
  simp only [pw] at h1
  omega
theorem pw_eq (n : Nat) : pw n = 2 ^ (32 * n) := by
  induction n with
  | zero => rfl
  | succ n ih => rw [show 32 * (n + 1) = 32 * n + 32 by omega, Nat.pow_add, ← ih]; simp only [pw]; omega

theorem ok_nil : ok [] := fun _ h => by cases h
theorem ok_cons {x : Nat} {l : List Nat} : ok (x :: l) ↔ x < 4294967296 ∧ ok l := by
  simp [ok]
theorem ok_append {l m : List Nat} : ok (l ++ m) ↔ ok l ∧ ok m := by
  simp only [ok, List.mem_append]
  exact ⟨fun h => ⟨fun x hx => h x (.inl hx), fun x hx => h x (.inr hx)⟩, fun h x hx => hx.elim (h.1 x) (h.2 x)⟩
theorem ok_take {l : List Nat} (h : ok l) (n : Nat) : ok (l.take n) := fun x hx => h x (List.mem_of_mem_take hx)
theorem ok_drop {l : List Nat} (h : ok l) (n : Nat) : ok (l.drop n) := fun x hx => h x (List.mem_of_mem_drop hx)
theorem ok_get {l : List Nat} (h : ok l) (i : Nat) : l[i]?.getD 0 < 4294967296 := by
  by_cases hi : i < l.length
  · rw [List.getElem?_eq_getElem hi]; exact h _ (List.getElem_mem hi)
  · rw [List.getElem?_eq_none (by omega)]; decide
theorem ok_replicate (n : Nat) : ok (List.replicate n 0) := fun x hx => by rw [(List.mem_replicate.1 hx).2]; decide
theorem ok_set {l : List Nat} (h : ok l) (i x : Nat) (hx : x < 4294967296) : ok (l.set i x) := fun y hy => by
  rcases List.mem_or_eq_of_mem_set hy with h1 | rfl
  · exact h y h1
  · exact hx

theorem val_append (l m : List Nat) : val (l ++ m) = val l + pw l.length * val m := by
  induction l with
  | nil => simp [val, pw]
  | cons x l ih => simp only [List.cons_append, val, List.length_cons, pw, ih, Nat.mul_add, Nat.mul_assoc]; omega
theorem val_replicate (n : Nat) : val (List.replicate n 0) = 0 := by
  induction n with
  | zero => rfl
  | succ n ih => simp [List.replicate_succ, val, ih]
theorem val_lt {l : List Nat} (h : ok l) : val l < pw l.length := by
  induction l with
  | nil => exact Nat.one_pos
  | cons x l ih =>
    have h1 := ok_cons.1 h
    have h2 := ih h1.2
    simp only [val, List.length_cons, pw]
    omega
theorem val_take_drop (l : List Nat) (n : Nat) (hn : n ≤ l.length) : val l = val (l.take n) + pw n * val (l.drop n) := by
  conv => lhs; rw [← List.take_append_drop n l]
  rw [val_append, List.length_take, Nat.min_eq_left hn]
theorem val_take_succ (l : List Nat) (k : Nat) (hk : k < l.length) : val (l.take (k + 1)) = val (l.take k) + pw k * l[k]?.getD 0 := by
  rw [List.take_succ_eq_append_getElem hk, val_append, List.length_take, Nat.min_eq_left (by omega), List.getElem?_eq_getElem hk]
  simp [val]
theorem val_take_lt {l : List Nat} (h : ok l) (k : Nat) : val (l.take k) < pw k := by
  have h1 := val_lt (ok_take h k)
  have h2 : (l.take k).length ≤ k := List.length_take_le _ _
  exact Nat.lt_of_lt_of_le h1 (pw_mono h2)

/-- Without the zero words at the end. -/
def trim (l : List Nat) : List Nat := (l.reverse.dropWhile (· == 0)).reverse
theorem trim_snoc_zero (l : List Nat) : trim (l ++ [0]) = trim l := by simp [trim]
theorem trim_snoc_pos (l : List Nat) (x : Nat) (h : x ≠ 0) : trim (l ++ [x]) = l ++ [x] := by simp [trim, h]
theorem trim_nil : trim [] = [] := rfl
/-- k words are left when trim has ended: those behind them are 0, and the last of them is not. -/
theorem trim_of_take (l : List Nat) (k : Nat) (hk : k ≤ l.length) (h0 : ∀ i, k ≤ i → l[i]?.getD 0 = 0) (h1 : 0 < k → l[k - 1]?.getD 0 ≠ 0) : trim l = l.take k := by
  obtain ⟨d, hd⟩ : ∃ d, l.length = k + d := ⟨l.length - k, by omega⟩
  have e : l = l.take k ++ List.replicate d 0 := by
    apply List.ext_getElem?
    intro i
    by_cases hi : i < k
    · rw [List.getElem?_append_left (by simp; omega), List.getElem?_take, if_pos hi]
    · rw [List.getElem?_append_right (by simp; omega), List.getElem?_replicate, List.length_take, Nat.min_eq_left hk]
      by_cases hl : i < l.length
      · have := h0 i (by omega)
        rw [List.getElem?_eq_getElem hl] at this ⊢
        rw [if_pos (by omega)]
        simpa using this
      · rw [List.getElem?_eq_none (by omega), if_neg (by omega)]
  have t : ∀ d (m : List Nat), trim (m ++ List.replicate d 0) = trim m := by
    intro d
    induction d with
    | zero => simp
    | succ d ih => intro m; rw [List.replicate_succ', ← List.append_assoc, trim_snoc_zero, ih]
  rw [e, t, List.take_append_of_le_length (by simp; omega), List.take_take, Nat.min_self]
  by_cases hk0 : k = 0
  · subst hk0; rfl
  · have hl : k - 1 < l.length := by omega
    have e2 : l.take k = l.take (k - 1) ++ [l[k - 1]] := by
      conv => lhs; rw [show k = (k - 1) + 1 by omega]
      exact List.take_succ_eq_append_getElem hl
    have := h1 (by omega)
    rw [List.getElem?_eq_getElem hl] at this
    rw [e2]
    exact trim_snoc_pos _ _ (by simpa using this)
theorem snoc_ind {P : List Nat → Prop} (h0 : P []) (h1 : ∀ l x, P l → P (l ++ [x])) (l : List Nat) : P l := by
  have h : ∀ r : List Nat, P r.reverse := by
    intro r
    induction r with
    | nil => exact h0
    | cons x r ih => rw [List.reverse_cons]; exact h1 _ _ ih
  have := h l.reverse
  rwa [List.reverse_reverse] at this
theorem val_trim (l : List Nat) : val (trim l) = val l := by
  refine snoc_ind (P := fun l => val (trim l) = val l) ?_ ?_ l
  · rfl
  · intro l x ih
    by_cases hx : x = 0
    · subst hx; rw [trim_snoc_zero, ih, val_append]; simp [val]
    · rw [trim_snoc_pos l x hx]
theorem trim_length_le (l : List Nat) : (trim l).length ≤ l.length := by
  refine snoc_ind (P := fun l => (trim l).length ≤ l.length) ?_ ?_ l
  · exact Nat.le_refl _
  · intro l x ih
    by_cases hx : x = 0
    · subst hx; rw [trim_snoc_zero]; simp; omega
    · rw [trim_snoc_pos l x hx]; exact Nat.le_refl _
theorem ok_trim {l : List Nat} (h : ok l) : ok (trim l) := by
  revert h
  refine snoc_ind (P := fun l => ok l → ok (trim l)) ?_ ?_ l
  · exact id
  · intro l x ih h
    by_cases hx : x = 0
    · subst hx; rw [trim_snoc_zero]; exact ih (ok_append.1 h).1
    · rw [trim_snoc_pos l x hx]; exact h
/-- The last word is not 0, if there is one. -/
def tight (l : List Nat) : Prop := l.length = 0 ∨ l[l.length - 1]?.getD 0 ≠ 0
theorem tight_trim (l : List Nat) : tight (trim l) := by
  refine snoc_ind (P := fun l => tight (trim l)) ?_ ?_ l
  · exact .inl rfl
  · intro l x ih
    by_cases hx : x = 0
    · subst hx; rw [trim_snoc_zero]; exact ih
    · rw [trim_snoc_pos l x hx]; exact .inr (by simpa using hx)
theorem pw_le_val {l : List Nat} (h : tight l) (h0 : l ≠ []) : pw (l.length - 1) ≤ val l := by
  rcases h with h | h
  · exact absurd (List.length_eq_zero_iff.1 h) h0
  · have hl : 0 < l.length := List.length_pos_iff.2 h0
    rw [val_take_drop l (l.length - 1) (by omega)]
    have e : l.drop (l.length - 1) = [l[l.length - 1]] := by
      rw [List.drop_eq_getElem_cons (by omega), List.drop_eq_nil_of_le (by omega)]
    rw [List.getElem?_eq_getElem (by omega), Option.getD_some] at h
    rw [e]
    simp only [val, Nat.mul_zero, Nat.add_zero]
    have : 1 ≤ l[l.length - 1] := by omega
    have := Nat.le_mul_of_pos_right (pw (l.length - 1)) this
    omega
/-- Words of one value and one length are the same. -/
theorem val_inj : ∀ {l m : List Nat}, ok l → ok m → l.length = m.length → val l = val m → l = m
  | [], [], _, _, _, _ => rfl
  | x :: l, y :: m, hl, hm, hn, hv => by
    have h1 := ok_cons.1 hl
    have h2 := ok_cons.1 hm
    simp only [val] at hv
    simp only [List.length_cons, Nat.add_right_cancel_iff] at hn
    have hx : x = y := by omega
    rw [hx, val_inj h1.2 h2.2 hn (by omega)]
  | [], _ :: _, _, _, hn, _ => by simp at hn
  | _ :: _, [], _, _, hn, _ => by simp at hn
theorem length_le_of_val {l m : List Nat} (hm : ok m) (h : tight l) (hv : val l ≤ val m) : l.length ≤ m.length := by
  by_cases h0 : l = []
  · subst h0; simp
  · have h1 := pw_le_val h h0
    have h2 := val_lt hm
    have hl : 0 < l.length := List.length_pos_iff.2 h0
    by_cases hc : l.length ≤ m.length
    · exact hc
    · have := pw_mono (show m.length ≤ l.length - 1 by omega)
      omega
theorem val_inj_tight {l m : List Nat} (hl : ok l) (hm : ok m) (tl : tight l) (tm : tight m) (hv : val l = val m) : l = m :=
  val_inj hl hm (Nat.le_antisymm (length_le_of_val hm tl (by omega)) (length_le_of_val hl tm (by omega))) hv

/-- The words of a number. -/
def digs (n : Nat) : List Nat := if h : n = 0 then [] else n % 4294967296 :: digs (n / 4294967296)
decreasing_by omega
theorem digs_zero : digs 0 = [] := by rw [digs]; rfl
theorem digs_pos {n : Nat} (h : n ≠ 0) : digs n = n % 4294967296 :: digs (n / 4294967296) := by rw [digs]; simp [h]
theorem val_digs (n : Nat) : val (digs n) = n := by
  induction n using Nat.strongRecOn with
  | _ n ih =>
    by_cases h : n = 0
    · subst h; rw [digs_zero]; rfl
    · rw [digs_pos h]; simp only [val]; rw [ih _ (by omega)]; omega
theorem ok_digs (n : Nat) : ok (digs n) := by
  induction n using Nat.strongRecOn with
  | _ n ih =>
    by_cases h : n = 0
    · subst h; rw [digs_zero]; exact ok_nil
    · rw [digs_pos h]; exact ok_cons.2 ⟨by omega, ih _ (by omega)⟩
theorem tight_cons {x : Nat} {l : List Nat} (h : tight l) (h0 : l ≠ [] ∨ x ≠ 0) : tight (x :: l) := by
  cases l with
  | nil => exact .inr (by simpa using h0)
  | cons y l =>
    rcases h with h | h
    · simp at h
    · exact .inr (by simpa using h)
theorem tight_digs (n : Nat) : tight (digs n) := by
  induction n using Nat.strongRecOn with
  | _ n ih =>
    by_cases h : n = 0
    · subst h; rw [digs_zero]; exact .inl rfl
    · rw [digs_pos h]
      refine tight_cons (ih _ (by omega)) ?_
      by_cases h2 : n / 4294967296 = 0
      · exact .inr (by omega)
      · exact .inl (by rw [digs_pos h2]; simp)
theorem trim_eq_digs {l : List Nat} (h : ok l) : trim l = digs (val l) :=
  val_inj_tight (ok_trim h) (ok_digs _) (tight_trim l) (tight_digs _) (by rw [val_trim, val_digs])
theorem digs_val {l : List Nat} (h : ok l) (t : tight l) : digs (val l) = l :=
  val_inj_tight (ok_digs _) h (tight_digs _) t (val_digs _)
theorem digs_inj {m n : Nat} : digs m = digs n ↔ m = n := ⟨fun h => by rw [← val_digs m, ← val_digs n, h], fun h => by rw [h]⟩
/-- A number has at most k words exactly if it is less than 2^(32 k). -/
theorem digs_length_le (n k : Nat) : (digs n).length ≤ k ↔ n < pw k := by
  constructor
  · intro h
    have := val_lt (ok_digs n)
    rw [val_digs] at this
    exact Nat.lt_of_lt_of_le this (pw_mono h)
  · intro h
    by_cases h0 : digs n = []
    · rw [h0]; simp
    · have h1 := pw_le_val (tight_digs n) h0
      rw [val_digs] at h1
      by_cases hc : (digs n).length ≤ k
      · exact hc
      · have := pw_mono (show k ≤ (digs n).length - 1 by omega)
        omega
theorem val_pos {l : List Nat} (t : tight l) (h0 : l ≠ []) : 0 < val l := Nat.lt_of_lt_of_le (pw_pos _) (pw_le_val t h0)
/-- Valid words. -/
def valid (l : List Nat) : Prop := l.length ≤ 64 ∧ tight l
instance (l : List Nat) : Decidable (tight l) := inferInstanceAs (Decidable (_ ∨ _))
instance (l : List Nat) : Decidable (valid l) := inferInstanceAs (Decidable (_ ∧ _))
end Go.Proofs.Ytiefnhpbniaklaa.Nm
