/- What is read is what was written. -/
import Derived.Test.YtlollhmheakcfaaDoorQBp
import Derived.Deep.Cut
namespace Go.Proofs.YtlollhmheakcfaaDoor.Dg
open Go Go.RowKit Go.Proofs.YtlollhmheakcfaaDoor.Ne Go.Proofs.YtlollhmheakcfaaDoor.Kr

/-- The bytes as one number. -/
def nbN : List (BitVec 8) → Nat → Nat
  | [], a => a
  | x :: l, a => nbN l (a * 256 + x.toNat)
theorem nb_fold : ∀ (l : List (BitVec 8)) (a : BitVec 64), a.toNat < 256 ^ (8 - l.length) → l.length ≤ 8 → (l.foldl (fun (a : BitVec 64) (x : BitVec 8) => (a <<< 8) ||| x.setWidth 64) a).toNat = nbN l a.toNat
  | [], a, _, _ => rfl
  | x :: l, a, h, hl => by
    have hx := x.isLt
    rw [List.length_cons] at h hl
    have h7 : (256 : Nat) ^ (8 - (l.length + 1)) ≤ 72057594037927936 := by
      have : (256 : Nat) ^ (8 - (l.length + 1)) ≤ 256 ^ 7 := Nat.pow_le_pow_right (by decide) (by omega)
      exact this
    have hs := nb_step a x (by omega)
    have hp : (256 : Nat) ^ (8 - l.length) = 256 ^ (8 - (l.length + 1)) * 256 := by rw [← Nat.pow_succ]; congr 1; omega
    rw [List.foldl_cons, nb_fold l _ (by rw [hs, hp]; omega) (by omega), hs]
    rfl
theorem nb_nat {l : List (BitVec 8)} (h : l.length ≤ 8) : (nb l).toNat = nbN l 0 := nb_fold l 0#64 (by show 0 < _; exact Nat.pow_pos (by decide)) h
theorem byt_nat (N : Nat) (j : Nat) : byt (N : Int) j = BitVec.ofNat 8 (N / 2 ^ (8 * j)) := by
  unfold byt
  rw [show ((N : Int) / 2 ^ (8 * j)) = ((N / 2 ^ (8 * j) : Nat) : Int) by simp, BitVec.ofInt_natCast]
theorem byt_int (X : BitVec 64) : ∀ j, j < 8 → byt X.toInt j = BitVec.ofNat 8 (X.toNat / 2 ^ (8 * j))
  | 0, _ => by
    unfold byt
    apply BitVec.eq_of_toNat_eq
    rw [BitVec.toNat_ofInt, BitVec.toNat_ofNat, BitVec.toInt_eq_toNat_cond]
    have := X.isLt
    have e1 : ((2 : Int) ^ (8 * 0)) = 1 := by decide
    have e2 : ((2 : Nat) ^ (8 * 0)) = 1 := by decide
    rw [e1, e2]
    split <;> omega
  | 1, _ => by
    unfold byt
    apply BitVec.eq_of_toNat_eq
    rw [BitVec.toNat_ofInt, BitVec.toNat_ofNat, BitVec.toInt_eq_toNat_cond]
    have := X.isLt
    have e1 : ((2 : Int) ^ (8 * 1)) = 256 := by decide
    have e2 : ((2 : Nat) ^ (8 * 1)) = 256 := by decide
    rw [e1, e2]
    split <;> omega
  | 2, _ => by
    unfold byt
    apply BitVec.eq_of_toNat_eq
    rw [BitVec.toNat_ofInt, BitVec.toNat_ofNat, BitVec.toInt_eq_toNat_cond]
    have := X.isLt
    have e1 : ((2 : Int) ^ (8 * 2)) = 65536 := by decide
    have e2 : ((2 : Nat) ^ (8 * 2)) = 65536 := by decide
    rw [e1, e2]
    split <;> omega
  | 3, _ => by
    unfold byt
    apply BitVec.eq_of_toNat_eq
    rw [BitVec.toNat_ofInt, BitVec.toNat_ofNat, BitVec.toInt_eq_toNat_cond]
    have := X.isLt
    have e1 : ((2 : Int) ^ (8 * 3)) = 16777216 := by decide
    have e2 : ((2 : Nat) ^ (8 * 3)) = 16777216 := by decide
    rw [e1, e2]
    split <;> omega
  | 4, _ => by
    unfold byt
    apply BitVec.eq_of_toNat_eq
    rw [BitVec.toNat_ofInt, BitVec.toNat_ofNat, BitVec.toInt_eq_toNat_cond]
    have := X.isLt
    have e1 : ((2 : Int) ^ (8 * 4)) = 4294967296 := by decide
    have e2 : ((2 : Nat) ^ (8 * 4)) = 4294967296 := by decide
    rw [e1, e2]
    split <;> omega
  | 5, _ => by
    unfold byt
    apply BitVec.eq_of_toNat_eq
    rw [BitVec.toNat_ofInt, BitVec.toNat_ofNat, BitVec.toInt_eq_toNat_cond]
    have := X.isLt
    have e1 : ((2 : Int) ^ (8 * 5)) = 1099511627776 := by decide
    have e2 : ((2 : Nat) ^ (8 * 5)) = 1099511627776 := by decide
    rw [e1, e2]
    split <;> omega
  | 6, _ => by
    unfold byt
    apply BitVec.eq_of_toNat_eq
    rw [BitVec.toNat_ofInt, BitVec.toNat_ofNat, BitVec.toInt_eq_toNat_cond]
    have := X.isLt
    have e1 : ((2 : Int) ^ (8 * 6)) = 281474976710656 := by decide
    have e2 : ((2 : Nat) ^ (8 * 6)) = 281474976710656 := by decide
    rw [e1, e2]
    split <;> omega
  | 7, _ => by
    unfold byt
    apply BitVec.eq_of_toNat_eq
    rw [BitVec.toNat_ofInt, BitVec.toNat_ofNat, BitVec.toInt_eq_toNat_cond]
    have := X.isLt
    have e1 : ((2 : Int) ^ (8 * 7)) = 72057594037927936 := by decide
    have e2 : ((2 : Nat) ^ (8 * 7)) = 72057594037927936 := by decide
    rw [e1, e2]
    split <;> omega
  | _ + 8, h => absurd h (by omega)
theorem beI4 {q : List (BitVec 8)} (h : q.length = 4) : beI 4 ((nb q).toNat : Int) = q := by
  rw [nb_nat (by omega)]
  match q, h with
  | [x, y, z, t], _ =>
    have b1 := x.isLt; have b2 := y.isLt; have b3 := z.isLt; have b4 := t.isLt
    show [byt _ 3, byt _ 2, byt _ 1, byt _ 0] = _
    rw [byt_nat, byt_nat, byt_nat, byt_nat]
    show [BitVec.ofNat 8 (((((0 * 256 + x.toNat) * 256 + y.toNat) * 256 + z.toNat) * 256 + t.toNat) / 16777216), BitVec.ofNat 8 (((((0 * 256 + x.toNat) * 256 + y.toNat) * 256 + z.toNat) * 256 + t.toNat) / 65536), BitVec.ofNat 8 (((((0 * 256 + x.toNat) * 256 + y.toNat) * 256 + z.toNat) * 256 + t.toNat) / 256), BitVec.ofNat 8 (((((0 * 256 + x.toNat) * 256 + y.toNat) * 256 + z.toNat) * 256 + t.toNat) / 1)] = _
    congr 1
    · apply BitVec.eq_of_toNat_eq; rw [BitVec.toNat_ofNat]; omega
    congr 1
    · apply BitVec.eq_of_toNat_eq; rw [BitVec.toNat_ofNat]; omega
    congr 1
    · apply BitVec.eq_of_toNat_eq; rw [BitVec.toNat_ofNat]; omega
    congr 1
    · apply BitVec.eq_of_toNat_eq; rw [BitVec.toNat_ofNat]; omega
theorem step8 (a x k : Nat) (hx : x < 256) (h : 256 ∣ k) (hk : 0 < k) : (a * 256 + x) / k = a / (k / 256) := by
  obtain ⟨m, rfl⟩ := h
  rw [Nat.mul_div_cancel_left _ (by decide), ← Nat.div_div_eq_div_mul]
  congr 1
  omega
theorem beI8 {q : List (BitVec 8)} (h : q.length = 8) : beI 8 (nb q).toInt = q := by
  match q, h with
  | [a, b, c, d, e, f, g, i], hq =>
    have hb := fun (x : BitVec 8) => x.isLt
    show [byt _ 7, byt _ 6, byt _ 5, byt _ 4, byt _ 3, byt _ 2, byt _ 1, byt _ 0] = _
    rw [byt_int _ 7 (by decide), byt_int _ 6 (by decide), byt_int _ 5 (by decide), byt_int _ 4 (by decide), byt_int _ 3 (by decide), byt_int _ 2 (by decide), byt_int _ 1 (by decide), byt_int _ 0 (by decide), nb_nat (by omega)]
    have key : ∀ (A x : Nat) (y : BitVec 8), x = A * 256 + y.toNat → BitVec.ofNat 8 x = y := fun A x y hx => by
      apply BitVec.eq_of_toNat_eq
      rw [BitVec.toNat_ofNat, hx]
      have := y.isLt
      omega
    simp only [nbN]
    have b1 := a.isLt; have b2 := b.isLt; have b3 := c.isLt; have b4 := d.isLt; have b5 := e.isLt; have b6 := f.isLt; have b7 := g.isLt; have b8 := i.isLt
    obtain ⟨n1, h1⟩ : ∃ z, 0 * 256 + a.toNat = z := ⟨_, rfl⟩
    obtain ⟨n2, h2⟩ : ∃ z, n1 * 256 + b.toNat = z := ⟨_, rfl⟩
    obtain ⟨n3, h3⟩ : ∃ z, n2 * 256 + c.toNat = z := ⟨_, rfl⟩
    obtain ⟨n4, h4⟩ : ∃ z, n3 * 256 + d.toNat = z := ⟨_, rfl⟩
    obtain ⟨n5, h5⟩ : ∃ z, n4 * 256 + e.toNat = z := ⟨_, rfl⟩
    obtain ⟨n6, h6⟩ : ∃ z, n5 * 256 + f.toNat = z := ⟨_, rfl⟩
    obtain ⟨n7, h7⟩ : ∃ z, n6 * 256 + g.toNat = z := ⟨_, rfl⟩
    obtain ⟨n8, h8⟩ : ∃ z, n7 * 256 + i.toNat = z := ⟨_, rfl⟩
    rw [h1, h2, h3, h4, h5, h6, h7, h8]
    have e7 : n8 / 256 = n7 := by omega
    have e6 : n7 / 256 = n6 := by omega
    have e5 : n6 / 256 = n5 := by omega
    have e4 : n5 / 256 = n4 := by omega
    have e3 : n4 / 256 = n3 := by omega
    have e2 : n3 / 256 = n2 := by omega
    have e1 : n2 / 256 = n1 := by omega
    have d1 : n8 / 2 ^ (8 * 1) = n7 := e7
    have d2 : n8 / 2 ^ (8 * 2) = n6 := by rw [show (2 : Nat) ^ (8 * 2) = 256 * 256 by decide, ← Nat.div_div_eq_div_mul, e7, e6]
    have d3 : n8 / 2 ^ (8 * 3) = n5 := by rw [show (2 : Nat) ^ (8 * 3) = 256 * 256 * 256 by decide, ← Nat.div_div_eq_div_mul, ← Nat.div_div_eq_div_mul, e7, e6, e5]
    have d4 : n8 / 2 ^ (8 * 4) = n4 := by rw [show (2 : Nat) ^ (8 * 4) = 256 * 256 * 256 * 256 by decide, ← Nat.div_div_eq_div_mul, ← Nat.div_div_eq_div_mul, ← Nat.div_div_eq_div_mul, e7, e6, e5, e4]
    have d5 : n8 / 2 ^ (8 * 5) = n3 := by rw [show (2 : Nat) ^ (8 * 5) = 256 * 256 * 256 * 256 * 256 by decide, ← Nat.div_div_eq_div_mul, ← Nat.div_div_eq_div_mul, ← Nat.div_div_eq_div_mul, ← Nat.div_div_eq_div_mul, e7, e6, e5, e4, e3]
    have d6 : n8 / 2 ^ (8 * 6) = n2 := by rw [show (2 : Nat) ^ (8 * 6) = 256 * 256 * 256 * 256 * 256 * 256 by decide, ← Nat.div_div_eq_div_mul, ← Nat.div_div_eq_div_mul, ← Nat.div_div_eq_div_mul, ← Nat.div_div_eq_div_mul, ← Nat.div_div_eq_div_mul, e7, e6, e5, e4, e3, e2]
    have d7 : n8 / 2 ^ (8 * 7) = n1 := by rw [show (2 : Nat) ^ (8 * 7) = 256 * 256 * 256 * 256 * 256 * 256 * 256 by decide, ← Nat.div_div_eq_div_mul, ← Nat.div_div_eq_div_mul, ← Nat.div_div_eq_div_mul, ← Nat.div_div_eq_div_mul, ← Nat.div_div_eq_div_mul, ← Nat.div_div_eq_div_mul, e7, e6, e5, e4, e3, e2, e1]
    have d0 : n8 / 2 ^ (8 * 0) = n8 := Nat.div_one _
    rw [d0, d1, d2, d3, d4, d5, d6, d7, key 0 n1 a h1.symm, key n1 n2 b h2.symm, key n2 n3 c h3.symm, key n3 n4 d h4.symm, key n4 n5 e h5.symm, key n5 n6 f h6.symm, key n6 n7 g h7.symm, key n7 n8 i h8.symm]
theorem rdl_enc {d : Nat} (ih : ∀ (l : List (BitVec 8)) (t : It) (m : Nat), rd d l = .ok (t, m) → m ≤ l.length ∧ vld d t = true ∧ enc d t = l.take m) :
    ∀ (n : Nat) (l : List (BitVec 8)) (ts : List It) (m : Nat), rdl (rd d) n l = .ok (ts, m) → m ≤ l.length ∧ ts.length = n ∧ (∀ x ∈ ts, vld d x = true) ∧ ts.flatMap (enc d) = l.take m
  | 0, l, ts, m, h => by
    rw [rdl] at h
    injection h with h
    injection h with h1 h2
    subst h1 h2
    exact ⟨Nat.zero_le _, rfl, (fun x hx => by cases hx), rfl⟩
  | n + 1, l, ts, m, h => by
    rw [rdl] at h
    cases hr : rd d l with
    | error e => rw [hr] at h; cases h
    | ok r =>
      obtain ⟨x, m1⟩ := r
      rw [hr] at h
      dsimp only at h
      cases hs : rdl (rd d) n (l.drop m1) with
      | error e => rw [hs] at h; cases h
      | ok r2 =>
        obtain ⟨xs, m2⟩ := r2
        rw [hs] at h
        injection h with h
        injection h with h1 h2
        subst h1 h2
        obtain ⟨a1, a2, a3⟩ := ih l x m1 hr
        obtain ⟨b1, b2, b3, b4⟩ := rdl_enc ih n _ xs m2 hs
        rw [List.length_drop] at b1
        refine ⟨by omega, by rw [List.length_cons, b2], fun y hy => ?_, ?_⟩
        · rcases List.mem_cons.1 hy with rfl | hy
          · exact a2
          · exact b3 y hy
        · rw [List.flatMap_cons, a3, b4, List.take_add]
theorem rdN_enc {d : Nat} {b : List (BitVec 8)} {t : It} {m : Nat} (h : rdN b = .ok (t, m)) : m ≤ (1#8 :: b).length ∧ vld d t = true ∧ enc d t = (1#8 :: b).take m := by
  unfold rdN at h
  split at h
  · cases h
  · injection h with h
    injection h with h1 h2
    subst h1 h2
    refine ⟨by rw [List.length_cons]; omega, by rw [vld1 (show It.k (.mk 1 _ [] []) = 1 from rfl)]; rfl, ?_⟩
    rw [enc1 (show It.k (.mk 1 _ [] []) = 1 from rfl)]
    show 1 :: beI 8 (nb (b.take 8)).toInt = _
    rw [beI8 (by rw [List.length_take]; omega)]
    rfl
theorem rdS_enc {d : Nat} {b : List (BitVec 8)} {t : It} {m : Nat} (h : rdS b = .ok (t, m)) : m ≤ (2#8 :: b).length ∧ vld d t = true ∧ enc d t = (2#8 :: b).take m := by
  unfold rdS at h
  split at h
  · cases h
  · split at h
    · cases h
    · injection h with h
      injection h with h1 h2
      subst h1 h2
      rename_i hb hn
      have hd : (b.drop 4).length = b.length - 4 := List.length_drop
      refine ⟨by rw [List.length_cons]; omega, by rw [vld2 (show It.k (.mk 2 0 _ []) = 2 from rfl)]; rfl, ?_⟩
      rw [enc2 (show It.k (.mk 2 0 _ []) = 2 from rfl)]
      show 2 :: (beI 4 ((((b.drop 4).take (nb (b.take 4)).toNat).length : Nat) : Int) ++ (b.drop 4).take (nb (b.take 4)).toNat) = _
      rw [List.length_take, Nat.min_eq_left (by omega), beI4 (by rw [List.length_take]; omega), ← List.take_add, show 5 + (nb (b.take 4)).toNat = 4 + (nb (b.take 4)).toNat + 1 by omega]
      rfl
/-- What is read is valid, and its encoding is what was read. -/
theorem rd_enc : ∀ (d : Nat) (l : List (BitVec 8)) (t : It) (m : Nat), rd d l = .ok (t, m) → m ≤ l.length ∧ vld d t = true ∧ enc d t = l.take m
  | d, [], t, m, h => by rw [rd_nil] at h; cases h
  | d, k :: b, t, m, h => by
    by_cases k1 : k = 1#8
    · subst k1; rw [rd_1] at h; exact rdN_enc h
    by_cases k2 : k = 2#8
    · subst k2; rw [rd_2] at h; exact rdS_enc h
    by_cases k3 : k = 3#8
    · subst k3
      cases d with
      | zero => rw [rd_30] at h; cases h
      | succ d =>
        rw [rd_3] at h
        unfold rdB at h
        split at h
        · cases h
        · split at h
          · cases h
          · rename_i hb hn
            cases hr : rdl (rd d) (nb (b.take 4)).toNat (b.drop 4) with
            | error e => rw [hr] at h; cases h
            | ok r =>
              obtain ⟨ts, m2⟩ := r
              rw [hr] at h
              injection h with h
              injection h with h1 h2
              subst h1 h2
              obtain ⟨a1, a2, a3, a4⟩ := rdl_enc (fun l t m => rd_enc d l t m) _ _ _ _ hr
              rw [List.length_drop] at a1
              refine ⟨by rw [List.length_cons]; omega, ?_, ?_⟩
              · rw [vld3 (show It.k (.mk 3 0 [] ts) = 3 from rfl)]
                show (true && (true && (decide (ts.length ≤ 1000) && ts.all (vld d)))) = true
                rw [decide_eq_true (by omega), List.all_eq_true.2 a3]; rfl
              · rw [enc3 (show It.k (.mk 3 0 [] ts) = 3 from rfl)]
                show 3 :: (beI 4 ((ts.length : Nat) : Int) ++ ts.flatMap (enc d)) = _
                rw [a2, beI4 (by rw [List.length_take]; omega), a4, ← List.take_add, show 1 + (4 + m2) = 4 + m2 + 1 by omega]
                rfl
    · rw [rd_x b k1 k2 k3] at h; cases h
theorem Decode_v {w : World} {n c : Nat} {p : Option Addr} {l : List (BitVec 8)} (hS : SrcB p l w) (hl : l.length = n) (hc : n ≤ c) :
    Calls Tryd.prog 17 #[.slice p n c] w fun o w' => DecP w l o w' := by
  rcases Nat.lt_or_ge 16384 n with h | h
  · exact Decode_big hS hl hc h
  rcases Nat.eq_zero_or_pos n with h0 | h0
  · exact Decode_nil hS hl hc h0
  obtain ⟨b, off, rfl, _⟩ := src_some hS (by omega)
  cases hr : rd 8 l with
  | error e => exact Decode_err hS hl hc h h0 hr
  | ok r =>
    obtain ⟨t, m⟩ := r
    have hm := (rd_enc 8 l t m hr).1
    rcases Nat.lt_or_ge m n with h1 | h1
    · exact Decode_rest hS hl hc h h0 hr h1
    · obtain rfl : m = n := by omega
      exact Decode_ok hS hl hc h h0 hr

end Go.Proofs.YtlollhmheakcfaaDoor.Dg
