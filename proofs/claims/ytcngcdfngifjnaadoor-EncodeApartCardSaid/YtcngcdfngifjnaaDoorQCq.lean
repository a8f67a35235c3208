/- Different items have different strings. -/
import Derived.Test.YtcngcdfngifjnaaDoorQCl
import Derived.Lib.ItoaLen
import Derived.Deep.Cut
namespace Go.Proofs.YtcngcdfngifjnaaDoor.Dg
open Go Go.RowKit Go.Proofs.YtcngcdfngifjnaaDoor.Ne Go.Proofs.YtcngcdfngifjnaaDoor.Kr

def term (r : List (BitVec 8)) : Prop := ∀ x, r.head? = some x → x = 32#8 ∨ x = 41#8
theorem split_eq {P : BitVec 8 → Bool} : ∀ (a b r s : List (BitVec 8)), (∀ x ∈ a, P x = true) → (∀ x ∈ b, P x = true) → (∀ x, r.head? = some x → P x = false) → (∀ x, s.head? = some x → P x = false) → a ++ r = b ++ s → a = b ∧ r = s
  | [], [], r, s, _, _, _, _, h => ⟨rfl, h⟩
  | [], y :: b, r, s, _, h2, h3, _, h => by
    have h1 : r = y :: (b ++ s) := h
    have h4 := h3 y (by rw [h1]; rfl)
    rw [h2 y (List.mem_cons_self ..)] at h4
    cases h4
  | x :: a, [], r, s, h1, _, _, h4, h => by
    have h2 : s = x :: (a ++ r) := h.symm
    have h3 := h4 x (by rw [h2]; rfl)
    rw [h1 x (List.mem_cons_self ..)] at h3
    cases h3
  | x :: a, y :: b, r, s, h1, h2, h3, h4, h => by
    have h5 : x :: (a ++ r) = y :: (b ++ s) := h
    rw [List.cons.injEq] at h5
    obtain ⟨e1, e2⟩ := split_eq a b r s (fun z hz => h1 z (List.mem_cons_of_mem _ hz)) (fun z hz => h2 z (List.mem_cons_of_mem _ hz)) h3 h4 h5.2
    exact ⟨by rw [h5.1, e1], e2⟩
/-! Numbers. -/
def valD (l : List (BitVec 8)) : Nat := l.foldl (fun a x => a * 10 + (x.toNat - 48)) 0
def isD (x : BitVec 8) : Bool := decide (48 ≤ x.toNat) && decide (x.toNat ≤ 57)
def isI (x : BitVec 8) : Bool := decide (x = 45#8) || isD x
theorem dd_small {u : Nat} (h : u < 10) : (Lib.decDigits u).map UInt8.toBitVec = [BitVec.ofNat 8 (48 + u)] := by
  rw [Lib.decDigits_one h]; rfl
theorem dd_step {u : Nat} (h : ¬ u < 10) : (Lib.decDigits u).map UInt8.toBitVec = (Lib.decDigits (u / 10)).map UInt8.toBitVec ++ [BitVec.ofNat 8 (48 + u % 10)] := by
  rw [Lib.decDigits, dif_neg h, List.map_append]; rfl
theorem dd_val (u : Nat) : valD ((Lib.decDigits u).map UInt8.toBitVec) = u ∧ ∀ x ∈ (Lib.decDigits u).map UInt8.toBitVec, isD x = true := by
  induction u using Nat.strongRecOn with
  | _ u ih =>
    by_cases h : u < 10
    · rw [dd_small h]
      have e : (BitVec.ofNat 8 (48 + u)).toNat = 48 + u := by rw [BitVec.toNat_ofNat]; omega
      refine ⟨by simp only [valD, List.foldl_cons, List.foldl_nil, e]; omega, fun x hx => ?_⟩
      rw [List.mem_singleton.1 hx, isD, e, Bool.and_eq_true, decide_eq_true_eq, decide_eq_true_eq]
      omega
    · rw [dd_step h]
      obtain ⟨h1, h2⟩ := ih (u / 10) (by omega)
      have e : (BitVec.ofNat 8 (48 + u % 10)).toNat = 48 + u % 10 := by rw [BitVec.toNat_ofNat]; omega
      refine ⟨?_, fun x hx => ?_⟩
      · unfold valD at h1 ⊢
        rw [List.foldl_append, h1]
        simp only [List.foldl_cons, List.foldl_nil, e]
        omega
      · rcases List.mem_append.1 hx with hx | hx
        · exact h2 x hx
        · rw [List.mem_singleton.1 hx, isD, e, Bool.and_eq_true, decide_eq_true_eq, decide_eq_true_eq]
          omega
theorem dd_ne (u : Nat) : ∃ x r, (Lib.decDigits u).map UInt8.toBitVec = x :: r ∧ isD x = true := by
  cases h : (Lib.decDigits u).map UInt8.toBitVec with
  | nil =>
    exfalso
    by_cases h1 : u < 10
    · rw [dd_small h1] at h; cases h
    · rw [dd_step h1] at h; simp at h
  | cons x r => exact ⟨x, r, rfl, (dd_val u).2 x (by rw [h]; exact List.mem_cons_self ..)⟩
theorem itB_neg {n : Int} (h : n < 0) : itB n = 45#8 :: (Lib.decDigits n.natAbs).map UInt8.toBitVec := by
  unfold itB Lib.itoa
  rw [if_pos h]; rfl
theorem itB_nn {n : Int} (h : ¬ n < 0) : itB n = (Lib.decDigits n.toNat).map UInt8.toBitVec := by
  unfold itB Lib.itoa
  rw [if_neg h]
theorem isD_45 {x : BitVec 8} (h : isD x = true) : x ≠ 45#8 := by
  intro e
  rw [e] at h
  exact absurd h (by decide)
theorem itB_inj {n m : Int} (h : itB n = itB m) : n = m := by
  by_cases hn : n < 0
  · by_cases hm : m < 0
    · rw [itB_neg hn, itB_neg hm, List.cons.injEq] at h
      have h2 := congrArg valD h.2
      rw [(dd_val _).1, (dd_val _).1] at h2
      omega
    · rw [itB_neg hn, itB_nn hm] at h
      obtain ⟨x, r, e, hx⟩ := dd_ne m.toNat
      rw [e, List.cons.injEq] at h
      exact absurd h.1.symm (isD_45 hx)
  · by_cases hm : m < 0
    · rw [itB_nn hn, itB_neg hm] at h
      obtain ⟨x, r, e, hx⟩ := dd_ne n.toNat
      rw [e, List.cons.injEq] at h
      exact absurd h.1 (isD_45 hx)
    · rw [itB_nn hn, itB_nn hm] at h
      have h2 := congrArg valD h
      rw [(dd_val _).1, (dd_val _).1] at h2
      omega
theorem itB_all (n : Int) : ∀ x ∈ itB n, isI x = true := by
  intro x hx
  by_cases hn : n < 0
  · rw [itB_neg hn] at hx
    rcases List.mem_cons.1 hx with rfl | hx
    · rfl
    · rw [isI, (dd_val _).2 x hx, Bool.or_true]
  · rw [itB_nn hn] at hx
    rw [isI, (dd_val _).2 x hx, Bool.or_true]
theorem itB_head (n : Int) : ∃ x r, itB n = x :: r ∧ isI x = true := by
  cases h : itB n with
  | nil =>
    exfalso
    by_cases hn : n < 0
    · rw [itB_neg hn] at h; cases h
    · rw [itB_nn hn] at h
      obtain ⟨x, r, e, _⟩ := dd_ne n.toNat
      rw [e] at h; cases h
  | cons x r => exact ⟨x, r, rfl, itB_all n x (by rw [h]; exact List.mem_cons_self ..)⟩
/-! Bytes. -/
def isH (x : BitVec 8) : Bool := (hexs.contains x)
theorem dig_inj : ∀ a b : Fin 16, dig a.val = dig b.val → a = b := by decide +kernel
theorem dig_isH : ∀ a : Fin 16, isH (dig a.val) = true := by decide +kernel
theorem hexL_all : ∀ l : List (BitVec 8), ∀ x ∈ hexL l, isH x = true := by
  intro l x hx
  unfold hexL at hx
  obtain ⟨y, _, hy⟩ := List.mem_flatMap.1 hx
  have hlt := y.isLt
  simp only [two, List.mem_cons, List.not_mem_nil, or_false] at hy
  rcases hy with rfl | rfl
  · exact dig_isH ⟨y.toNat / 16, by omega⟩
  · exact dig_isH ⟨y.toNat % 16, by omega⟩
theorem hexL_inj : ∀ l m : List (BitVec 8), hexL l = hexL m → l = m
  | [], [], _ => rfl
  | [], y :: m, h => by simp [hexL, two] at h
  | x :: l, [], h => by simp [hexL, two] at h
  | x :: l, y :: m, h => by
    unfold hexL at h
    rw [List.flatMap_cons, List.flatMap_cons] at h
    simp only [two, List.cons_append, List.nil_append, List.cons.injEq] at h
    have hx := x.isLt
    have hy := y.isLt
    have e1 := congrArg Fin.val (dig_inj ⟨x.toNat / 16, by omega⟩ ⟨y.toNat / 16, by omega⟩ h.1)
    have e2 := congrArg Fin.val (dig_inj ⟨x.toNat % 16, by omega⟩ ⟨y.toNat % 16, by omega⟩ h.2.1)
    dsimp only at e1 e2
    rw [hexL_inj l m h.2.2, BitVec.eq_of_toNat_eq (show x.toNat = y.toNat by omega)]
/-! Lists. -/
def jc (f : It → List (BitVec 8)) : List It → List (BitVec 8)
  | [] => []
  | x :: ts => f x ++ ts.flatMap fun y => 32#8 :: f y
theorem jc_snoc (f : It → List (BitVec 8)) (ts : List It) (x : It) : jc f (ts ++ [x]) = jc f ts ++ ((if ts.length = 0 then [] else [32#8]) ++ f x) := by
  cases ts with
  | nil => simp [jc]
  | cons y ts => simp [jc, List.flatMap_append]
theorem jn_jc (f : It → List (BitVec 8)) (l : List It) : ∀ j, j ≤ l.length → jn f l j = jc f (l.take j)
  | 0, _ => rfl
  | j + 1, h => by
    obtain ⟨x, hx⟩ : ∃ x, l[j]? = some x := ⟨_, List.getElem?_eq_getElem (by omega)⟩
    rw [jn_succ hx, jn_jc f l j (by omega), List.take_add_one, hx]
    show _ = jc f (l.take j ++ [x])
    rw [jc_snoc, show (l.take j).length = j by rw [List.length_take]; omega]
theorem txt_list {t : It} (h : t.k = 3) (d : Nat) : txt (d + 1) t = 40#8 :: (jc (txt d) t.l ++ [41#8]) := by
  rw [txt3 h, jn_jc _ _ _ (Nat.le_refl _), List.take_length]; rfl
theorem term_32 (r : List (BitVec 8)) : term (32#8 :: r) := fun _ hx => .inl (Option.some.inj hx).symm
theorem term_41 (r : List (BitVec 8)) : term (41#8 :: r) := fun _ hx => .inr (Option.some.inj hx).symm
theorem tail_term (f : It → List (BitVec 8)) (ts : List It) (r : List (BitVec 8)) : term (ts.flatMap (fun y => 32#8 :: f y) ++ 41#8 :: r) := by
  cases ts with
  | nil => exact term_41 r
  | cons y ts => rw [List.flatMap_cons, List.cons_append, List.cons_append]; exact term_32 _
theorem tail_inj {f : It → List (BitVec 8)} : ∀ (ts us : List It), (∀ y ∈ ts, ∀ u ∈ us, ∀ r s, term r → term s → f y ++ r = f u ++ s → y = u ∧ r = s) → ∀ r s, ts.flatMap (fun y => 32#8 :: f y) ++ 41#8 :: r = us.flatMap (fun y => 32#8 :: f y) ++ 41#8 :: s → ts = us ∧ r = s
  | [], [], _, r, s, h => ⟨rfl, (List.cons.inj h).2⟩
  | [], u :: us, _, r, s, h => by
    rw [List.flatMap_cons, List.cons_append, List.cons_append] at h
    exact absurd (List.cons.inj h).1 (by decide)
  | y :: ts, [], _, r, s, h => by
    rw [List.flatMap_cons, List.cons_append, List.cons_append] at h
    exact absurd (List.cons.inj h).1 (by decide)
  | y :: ts, u :: us, hf, r, s, h => by
    rw [List.flatMap_cons, List.flatMap_cons, List.cons_append, List.cons_append, List.cons_append, List.cons_append, List.cons.injEq, List.append_assoc, List.append_assoc] at h
    obtain ⟨e1, e2⟩ := hf y (List.mem_cons_self ..) u (List.mem_cons_self ..) _ _ (tail_term f ts r) (tail_term f us s) h.2
    obtain ⟨e3, e4⟩ := tail_inj ts us (fun y hy u hu => hf y (List.mem_cons_of_mem _ hy) u (List.mem_cons_of_mem _ hu)) r s e2
    exact ⟨by rw [e1, e3], e4⟩
theorem list_inj {f : It → List (BitVec 8)} (ts us : List It) (hf : ∀ y ∈ ts, ∀ u ∈ us, ∀ r s, term r → term s → f y ++ r = f u ++ s → y = u ∧ r = s)
    (h1 : ∀ y ∈ ts, ∃ c r, f y = c :: r ∧ c ≠ 41#8) (h2 : ∀ y ∈ us, ∃ c r, f y = c :: r ∧ c ≠ 41#8) (r s : List (BitVec 8)) (h : jc f ts ++ 41#8 :: r = jc f us ++ 41#8 :: s) : ts = us ∧ r = s := by
  cases ts with
  | nil =>
    cases us with
    | nil => exact ⟨rfl, (List.cons.inj h).2⟩
    | cons u us =>
      obtain ⟨c, q, e, hc⟩ := h2 u (List.mem_cons_self ..)
      rw [jc, jc, e, List.append_assoc, List.cons_append] at h
      exact absurd (List.cons.inj h).1.symm hc
  | cons y ts =>
    cases us with
    | nil =>
      obtain ⟨c, q, e, hc⟩ := h1 y (List.mem_cons_self ..)
      rw [jc, jc, e, List.append_assoc, List.cons_append] at h
      exact absurd (List.cons.inj h).1 hc
    | cons u us =>
      rw [jc, jc, List.append_assoc, List.append_assoc] at h
      obtain ⟨e1, e2⟩ := hf y (List.mem_cons_self ..) u (List.mem_cons_self ..) _ _ (tail_term f ts r) (tail_term f us s) h
      obtain ⟨e3, e4⟩ := tail_inj ts us (fun y hy u hu => hf y (List.mem_cons_of_mem _ hy) u (List.mem_cons_of_mem _ hu)) r s e2
      exact ⟨by rw [e1, e3], e4⟩
theorem txt_head {d : Nat} {t : It} (hv : vld d t = true) : (t.k = 1 ∧ ∃ c r, txt d t = c :: r ∧ isI c = true) ∨ (t.k = 2 ∧ ∃ r, txt d t = 120#8 :: r) ∨ (t.k = 3 ∧ ∃ r, txt d t = 40#8 :: r) := by
  rcases vld_cases hv with h1 | h2 | ⟨h3, e, rfl, _, _⟩
  · rw [txt1 h1]; exact .inl ⟨h1, itB_head _⟩
  · rw [txt2 h2]; exact .inr (.inl ⟨h2, _, rfl⟩)
  · rw [txt_list h3]; exact .inr (.inr ⟨h3, _, rfl⟩)
theorem txt_ne41 {d : Nat} {t : It} (hv : vld d t = true) : ∃ c r, txt d t = c :: r ∧ c ≠ 41#8 := by
  rcases txt_head hv with ⟨_, c, r, e, h⟩ | ⟨_, r, e⟩ | ⟨_, r, e⟩
  · exact ⟨c, r, e, fun h2 => by rw [h2] at h; exact absurd h (by decide)⟩
  · exact ⟨_, r, e, by decide⟩
  · exact ⟨_, r, e, by decide⟩
theorem term_I {r : List (BitVec 8)} (h : term r) : ∀ x, r.head? = some x → isI x = false := fun x hx => by
  rcases h x hx with rfl | rfl <;> rfl
theorem term_H {r : List (BitVec 8)} (h : term r) : ∀ x, r.head? = some x → isH x = false := fun x hx => by
  rcases h x hx with rfl | rfl <;> rfl
theorem txt_inj : ∀ (d : Nat) {t u : It}, vld d t = true → vld d u = true → ∀ r s, term r → term s → txt d t ++ r = txt d u ++ s → t = u ∧ r = s
  | d, t, u, ht, hu, r, s, hr, hs, h => by
    have hk : t.k = u.k := by
      rcases txt_head ht with ⟨k1, c, q, e, hc⟩ | ⟨k1, q, e⟩ | ⟨k1, q, e⟩ <;> rcases txt_head hu with ⟨k2, c2, q2, e2, hc2⟩ | ⟨k2, q2, e2⟩ | ⟨k2, q2, e2⟩ <;> first | (exact k1.trans k2.symm) | skip
      all_goals exfalso
      all_goals rw [e, e2, List.cons_append, List.cons_append, List.cons.injEq] at h
      all_goals have h1 := h.1
      · rw [h1] at hc; exact absurd hc (by decide)
      · rw [h1] at hc; exact absurd hc (by decide)
      · rw [← h1] at hc2; exact absurd hc2 (by decide)
      · exact absurd h1 (by decide)
      · rw [← h1] at hc2; exact absurd hc2 (by decide)
      · exact absurd h1 (by decide)
    obtain ⟨tk, tn, tb, tl⟩ := t
    obtain ⟨uk, un, ub, ul⟩ := u
    obtain rfl : tk = uk := hk
    rcases vld_cases ht with h1 | h2 | ⟨h3, e, rfl, _, hal⟩
    · obtain rfl : tk = 1 := h1
      have ht2 := ht; have hu2 := hu
      rw [vld1 rfl] at ht2 hu2
      simp only [Bool.and_eq_true, decide_eq_true_eq] at ht2 hu2
      dsimp only [It.b, It.l] at ht2 hu2
      obtain rfl := List.eq_nil_of_length_eq_zero ht2.1
      obtain rfl := List.eq_nil_of_length_eq_zero ht2.2
      obtain rfl := List.eq_nil_of_length_eq_zero hu2.1
      obtain rfl := List.eq_nil_of_length_eq_zero hu2.2
      rw [txt1 rfl, txt1 rfl] at h
      obtain ⟨e1, e2⟩ := split_eq _ _ r s (itB_all _) (itB_all _) (term_I hr) (term_I hs) h
      have e3 : tn = un := itB_inj e1
      exact ⟨by rw [e3], e2⟩
    · obtain rfl : tk = 2 := h2
      have ht2 := ht; have hu2 := hu
      rw [vld2 rfl] at ht2 hu2
      simp only [Bool.and_eq_true, decide_eq_true_eq] at ht2 hu2
      dsimp only [It.n, It.l] at ht2 hu2
      obtain rfl := ht2.1
      obtain rfl := List.eq_nil_of_length_eq_zero ht2.2
      obtain rfl := hu2.1
      obtain rfl := List.eq_nil_of_length_eq_zero hu2.2
      rw [txt2 rfl, txt2 rfl, List.cons_append, List.cons_append, List.cons.injEq] at h
      obtain ⟨e1, e2⟩ := split_eq _ _ r s (hexL_all _) (hexL_all _) (term_H hr) (term_H hs) h.2
      have e3 : tb = ub := hexL_inj _ _ e1
      exact ⟨by rw [e3], e2⟩
    · obtain rfl : tk = 3 := h3
      have ht2 := ht; have hu2 := hu
      rw [vld3 rfl] at ht2 hu2
      simp only [Bool.and_eq_true, decide_eq_true_eq, List.all_eq_true] at ht2 hu2
      dsimp only [It.n, It.b, It.l] at ht2 hu2
      obtain rfl := ht2.1
      obtain rfl := List.eq_nil_of_length_eq_zero ht2.2.1
      obtain rfl := hu2.1
      obtain rfl := List.eq_nil_of_length_eq_zero hu2.2.1
      rw [txt_list rfl, txt_list rfl, List.cons_append, List.cons_append, List.cons.injEq, List.append_assoc, List.append_assoc] at h
      obtain ⟨e1, e2⟩ := list_inj tl ul (fun y hy z hz r s hr hs h => txt_inj e (ht2.2.2.2 y hy) (hu2.2.2.2 z hz) r s hr hs h) (fun y hy => txt_ne41 (ht2.2.2.2 y hy)) (fun y hy => txt_ne41 (hu2.2.2.2 y hy)) r s h.2
      exact ⟨by rw [e1], e2⟩
theorem txt_iff {t u : It} (ht : vld 8 t = true) (hu : vld 8 u = true) : txt 8 t = txt 8 u ↔ t = u :=
  ⟨fun h => (txt_inj 8 ht hu [] [] (fun x hx => by cases hx) (fun x hx => by cases hx) (by rw [List.append_nil, List.append_nil, h])).1, fun h => by rw [h]⟩
theorem jc_len {f g : It → List (BitVec 8)} : ∀ (ts : List It), (∀ y ∈ ts, (f y).length + 1 ≤ 4 * (g y).length) → (jc f ts).length ≤ 4 * (ts.flatMap g).length
  | [], _ => Nat.zero_le _
  | x :: ts, h => by
    have h2 : ∀ (ts : List It), (∀ y ∈ ts, (f y).length + 1 ≤ 4 * (g y).length) → (ts.flatMap fun y => 32#8 :: f y).length ≤ 4 * (ts.flatMap g).length := by
      intro ts
      induction ts with
      | nil => intro _; exact Nat.zero_le _
      | cons y ts ih =>
        intro h
        have h3 := h y (List.mem_cons_self ..)
        have h4 := ih (fun z hz => h z (List.mem_cons_of_mem _ hz))
        rw [List.flatMap_cons, List.flatMap_cons, List.length_append, List.length_append, List.length_cons]
        omega
    have h3 := h x (List.mem_cons_self ..)
    have h4 := h2 ts (fun z hz => h z (List.mem_cons_of_mem _ hz))
    rw [jc, List.flatMap_cons, List.length_append, List.length_append]
    omega
theorem txt_len : ∀ (d : Nat) {k : Nat} {F : Nat → Prop} {v : Value} {t : It} {W : World}, ItV W k F v t → vld d t = true → (txt d t).length + 1 ≤ 4 * (enc d t).length
  | d, k, F, v, t, W, hI, hv => by
    cases k with
    | zero => exact hI.elim
    | succ k =>
      obtain ⟨pb, cb, pl, cl, _, hk, hn, _, _, _, _, hB, hL⟩ := hI
      rcases vld_cases hv with h1 | h2 | ⟨h3, d, rfl, hl, hal⟩
      · rw [txt1 h1, enc1 h1, List.length_cons, beI_length]
        have := Lib.itoa_length_le t.n hn.1 (by have := hn.2; omega)
        have e : (itB t.n).length = (Lib.itoa t.n).length := by unfold itB; rw [List.length_map]
        omega
      · rw [txt2 h2, enc2 h2, List.length_cons, List.length_cons, List.length_append, beI_length, hexL_length]
        omega
      · have h5 := jc_len (f := txt d) (g := enc d) t.l (fun x hx => by
          obtain ⟨j, hj⟩ := List.getElem?_of_mem hx
          obtain ⟨_, _, v0, v1, v2, v3, _, _, _, _, _, _, hi⟩ := hL j x hj
          exact txt_len d hi (hal x hx))
        rw [txt_list h3, enc3 h3, List.length_cons, List.length_cons, List.length_append, List.length_append, beI_length]
        show (jc (txt d) t.l).length + 1 + 1 + 1 ≤ _
        omega
/-- An encoding that begins with another one. -/
theorem enc_prefix {k k2 : Nat} {F F2 : Nat → Prop} {v v2 : Value} {t u : It} {W W2 : World} (hI : ItV W k F v t) (hI2 : ItV W2 k2 F2 v2 u) (hv : vld 8 t = true) (hv2 : vld 8 u = true) (h1 : (enc 8 t).length ≤ 1000000) (h2 : (enc 8 u).length ≤ 1000000) {r : List (BitVec 8)} (h : enc 8 t ++ r = enc 8 u) : t = u := by
  have e1 := rd_back 8 hI hv h1 r
  have e2 := rd_back 8 hI2 hv2 h2 []
  rw [List.append_nil] at e2
  rw [h, e2] at e1
  have e3 := Except.ok.inj e1
  exact (congrArg Prod.fst e3).symm
end Go.Proofs.YtcngcdfngifjnaaDoor.Dg
