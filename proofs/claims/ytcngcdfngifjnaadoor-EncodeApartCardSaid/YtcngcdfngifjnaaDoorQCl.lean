/- What was written is read again. -/
import Derived.Test.YtcngcdfngifjnaaDoorPf4
import Derived.Deep.Cut
namespace Go.Proofs.YtcngcdfngifjnaaDoor.Dg
open Go Go.RowKit Go.Proofs.YtcngcdfngifjnaaDoor.Ne Go.Proofs.YtcngcdfngifjnaaDoor.Kr

theorem nb_be4 {m : Nat} (h : m < 4294967296) : (nb (beI 4 (m : Int))).toNat = m := by
  rw [nb_nat (by rw [beI_length]; decide)]
  have e : beI 4 (m : Int) = [byt m 3, byt m 2, byt m 1, byt m 0] := rfl
  rw [e]
  simp only [nbN, byt_nat, BitVec.toNat_ofNat, Nat.reduceMul, Nat.reducePow]
  omega
theorem nb_be8 {n : Int} (h : InR n) : (nb (beI 8 n)).toInt = n := by
  obtain ⟨X, hX⟩ : ∃ X : BitVec 64, BitVec.ofInt 64 n = X := ⟨_, rfl⟩
  have hn : X.toInt = n := by
    rw [← hX, BitVec.toInt_ofInt]
    unfold InR at h
    rw [Int.bmod_def]
    have e : ((2 ^ 64 : Nat) : Int) = 18446744073709551616 := by decide
    rw [e]
    split <;> omega
  have hN : (nb (beI 8 n)).toNat = X.toNat := by
    rw [nb_nat (by rw [beI_length]; decide)]
    have e : beI 8 n = [byt X.toInt 7, byt X.toInt 6, byt X.toInt 5, byt X.toInt 4, byt X.toInt 3, byt X.toInt 2, byt X.toInt 1, byt X.toInt 0] := by rw [hn]; rfl
    rw [e, byt_int X 7 (by decide), byt_int X 6 (by decide), byt_int X 5 (by decide), byt_int X 4 (by decide), byt_int X 3 (by decide), byt_int X 2 (by decide), byt_int X 1 (by decide), byt_int X 0 (by decide)]
    have hlt := X.isLt
    generalize X.toNat = N at *
    simp only [nbN, BitVec.toNat_ofNat, Nat.reduceMul, Nat.reducePow]
    omega
  rw [BitVec.eq_of_toNat_eq hN, hn]
theorem rdl_back {f : List (BitVec 8) → Except Int (It × Nat)} {g : It → List (BitVec 8)} : ∀ (ts : List It), (∀ x ∈ ts, ∀ rest, f (g x ++ rest) = .ok (x, (g x).length)) → ∀ rest, rdl f ts.length (ts.flatMap g ++ rest) = .ok (ts, (ts.flatMap g).length)
  | [], _, _ => rfl
  | x :: ts, h, rest => by
    have h1 := h x (List.mem_cons_self ..) (ts.flatMap g ++ rest)
    have h2 := rdl_back ts (fun y hy => h y (List.mem_cons_of_mem _ hy)) rest
    rw [List.flatMap_cons, List.append_assoc, List.length_cons, rdl, h1]
    dsimp only
    rw [List.drop_left, h2, List.length_append]
theorem flat_mem_le {g : It → List (BitVec 8)} : ∀ {ts : List It} {x : It}, x ∈ ts → (g x).length ≤ (ts.flatMap g).length
  | y :: ts, x, h => by
    rw [List.flatMap_cons, List.length_append]
    rcases List.mem_cons.1 h with rfl | h
    · omega
    · have := flat_mem_le (g := g) h; omega
theorem rd_back : ∀ (d : Nat) {k : Nat} {F : Nat → Prop} {v : Value} {t : It} {W : World}, ItV W k F v t → vld d t = true → (enc d t).length ≤ 1000000 → ∀ rest, rd d (enc d t ++ rest) = .ok (t, (enc d t).length)
  | d, k, F, v, t, W, hI, hv, hb, rest => by
    cases k with
    | zero => exact hI.elim
    | succ k =>
      obtain ⟨pb, cb, pl, cl, _, hk, hn, _, _, _, _, hB, hL⟩ := hI
      obtain ⟨tk, tn, tb, tl⟩ := t
      have e : It.k (.mk tk tn tb tl) = tk ∧ It.n (.mk tk tn tb tl) = tn ∧ It.b (.mk tk tn tb tl) = tb ∧ It.l (.mk tk tn tb tl) = tl := ⟨rfl, rfl, rfl, rfl⟩
      rcases vld_cases hv with h1 | h2 | ⟨h3, d, rfl, hl, hal⟩
      · have hv2 := hv
        rw [vld1 h1] at hv2
        simp only [Bool.and_eq_true, decide_eq_true_eq, e] at hv2
        obtain rfl := List.eq_nil_of_length_eq_zero hv2.1
        obtain rfl := List.eq_nil_of_length_eq_zero hv2.2
        obtain rfl : tk = 1 := h1
        rw [enc1 rfl, List.cons_append, show (1 : BitVec 8) = 1#8 from rfl, rd_1]
        have ht : (beI 8 (It.n (.mk 1 tn [] [])) ++ rest).take 8 = beI 8 tn := List.take_left' (beI_length _ _)
        rw [rdN, if_neg (by rw [List.length_append, beI_length]; omega), ht, nb_be8 (n := tn) hn, List.length_cons, beI_length]
      · have hv2 := hv
        rw [vld2 h2] at hv2
        simp only [Bool.and_eq_true, decide_eq_true_eq, e] at hv2
        obtain rfl := hv2.1
        obtain rfl := List.eq_nil_of_length_eq_zero hv2.2
        obtain rfl : tk = 2 := h2
        rw [enc2 rfl, List.length_cons, List.length_append, beI_length] at hb
        have hbl : tb.length < 4294967296 := by have : (It.b (.mk 2 0 tb [])).length = tb.length := rfl; omega
        rw [enc2 rfl, List.cons_append, show (2 : BitVec 8) = 2#8 from rfl, rd_2]
        show rdS (beI 4 (tb.length : Int) ++ tb ++ rest) = .ok (.mk 2 0 tb [], (2#8 :: (beI 4 (tb.length : Int) ++ tb)).length)
        have ht : (beI 4 (tb.length : Int) ++ tb ++ rest).take 4 = beI 4 (tb.length : Int) := by rw [List.append_assoc]; exact List.take_left' (beI_length _ _)
        have hd : (beI 4 (tb.length : Int) ++ tb ++ rest).drop 4 = tb ++ rest := by rw [List.append_assoc]; exact List.drop_left' (beI_length _ _)
        rw [rdS, if_neg (by rw [List.length_append, List.length_append, beI_length]; omega), ht, hd, nb_be4 hbl, if_neg (by rw [List.length_append]; omega), List.take_left, List.length_cons, List.length_append, beI_length]
        congr 2
        omega
      · have hv2 := hv
        rw [vld3 h3] at hv2
        simp only [Bool.and_eq_true, decide_eq_true_eq, e] at hv2
        obtain rfl := hv2.1
        obtain rfl := List.eq_nil_of_length_eq_zero hv2.2.1
        obtain rfl : tk = 3 := h3
        have hl2 : tl.length ≤ 1000 := hl
        have hal2 : ∀ x ∈ tl, vld d x = true := hal
        have hb2 := hb
        rw [enc3 rfl, List.length_cons, List.length_append, beI_length] at hb2
        have hb3 : (tl.flatMap (enc d)).length ≤ 1000000 := by
          have : ((It.l (.mk 3 0 [] tl)).flatMap (enc d)).length = (tl.flatMap (enc d)).length := rfl
          omega
        have hch : ∀ x ∈ tl, ∀ rest, rd d (enc d x ++ rest) = .ok (x, (enc d x).length) := fun x hx rest => by
          obtain ⟨j, hj⟩ := List.getElem?_of_mem hx
          obtain ⟨_, _, v0, v1, v2, v3, _, _, _, _, _, _, hi⟩ := hL j x hj
          exact rd_back d hi (hal2 x hx) (Nat.le_trans (flat_mem_le hx) hb3) rest
        rw [enc3 rfl, List.cons_append, show (3 : BitVec 8) = 3#8 from rfl, rd_3]
        show sh1 (rdB (rd d) (beI 4 (tl.length : Int) ++ tl.flatMap (enc d) ++ rest)) = .ok (.mk 3 0 [] tl, (3#8 :: (beI 4 (tl.length : Int) ++ tl.flatMap (enc d))).length)
        have ht : (beI 4 (tl.length : Int) ++ tl.flatMap (enc d) ++ rest).take 4 = beI 4 (tl.length : Int) := by rw [List.append_assoc]; exact List.take_left' (beI_length _ _)
        have hd : (beI 4 (tl.length : Int) ++ tl.flatMap (enc d) ++ rest).drop 4 = tl.flatMap (enc d) ++ rest := by rw [List.append_assoc]; exact List.drop_left' (beI_length _ _)
        rw [rdB, if_neg (by rw [List.length_append, List.length_append, beI_length]; omega), ht, hd, nb_be4 (by omega), if_neg (by omega), rdl_back tl hch, List.length_cons, List.length_append, beI_length]
        show Except.ok (It.mk 3 0 [] tl, 1 + (4 + (tl.flatMap (enc d)).length)) = _
        congr 2
        omega
theorem rdl_bad {f : List (BitVec 8) → Except Int (It × Nat)} (hf : ∀ b c, f b = .error c → c = 3 ∨ c = 4) : ∀ (n : Nat) (b : List (BitVec 8)) (c : Int), rdl f n b = .error c → c = 3 ∨ c = 4
  | 0, b, c, h => by simp [rdl] at h
  | n + 1, b, c, h => by
    rw [rdl] at h
    cases hb : f b with
    | error e =>
      rw [hb] at h
      dsimp only at h
      cases h
      exact hf b _ hb
    | ok x =>
      obtain ⟨x, m⟩ := x
      rw [hb] at h
      dsimp only at h
      cases hr : rdl f n (b.drop m) with
      | error e =>
        rw [hr] at h
        dsimp only at h
        cases h
        exact rdl_bad hf n _ _ hr
      | ok y =>
        obtain ⟨y, m2⟩ := y
        rw [hr] at h
        cases h
theorem rd_bad : ∀ (d : Nat) (b : List (BitVec 8)) (c : Int), rd d b = .error c → c = 3 ∨ c = 4
  | d, [], c, h => by rw [rd_nil] at h; cases h; exact .inr rfl
  | d, x :: b, c, h => by
    by_cases h1 : x = 1#8
    · subst h1
      rw [rd_1, rdN] at h
      split at h
      · cases h; exact .inr rfl
      · cases h
    by_cases h2 : x = 2#8
    · subst h2
      rw [rd_2, rdS] at h
      split at h
      · cases h; exact .inr rfl
      · split at h
        · cases h; exact .inr rfl
        · cases h
    by_cases h3 : x = 3#8
    · subst h3
      cases d with
      | zero => rw [rd_30] at h; cases h; exact .inl rfl
      | succ d =>
        rw [rd_3, rdB] at h
        split at h
        · cases h; exact .inr rfl
        · split at h
          · cases h; exact .inl rfl
          · cases hr : rdl (rd d) (nb (b.take 4)).toNat (b.drop 4) with
            | error e =>
              rw [hr] at h
              cases h
              exact rdl_bad (fun b c h => rd_bad d b c h) _ _ _ hr
            | ok y =>
              obtain ⟨y, m⟩ := y
              rw [hr] at h
              cases h
    · rw [rd_x b h1 h2 h3] at h; cases h; exact .inl rfl
end Go.Proofs.YtcngcdfngifjnaaDoor.Dg
