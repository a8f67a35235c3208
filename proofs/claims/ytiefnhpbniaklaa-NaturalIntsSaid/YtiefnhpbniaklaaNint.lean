/- The contracts of natural's Of, Int, Bit. -/
import Derived.Test.YtiefnhpbniaklaaNcmp
namespace Go.Proofs.Ytiefnhpbniaklaa.Nk
open Go.RowKit Go.Shelf Go.Proofs.Ytiefnhpbniaklaa.Nm Go.Proofs.Ytiefnhpbniaklaa.Ne Go.Proofs.Ytiefnhpbniaklaa.Nf

attribute [local go_sem] Oper.semAt_some

theorem Compare_ok (p q : Option Addr) (n m c d : Nat) (l k : List Nat) (w : World) (hl : Nw w p n c l) (hk : Nw w q m d k) (hv1 : decide (valid l) = true) (hv2 : decide (valid k) = true) :
    Calls Try.prog 35 #[.agg #[.slice p n c], .agg #[.slice q m d]] w fun e w' => e = .returned (.int .i64 (ord (val l) (val k))) ∧ Gr w w' := by
  by_cases h : n = m
  · subst h; exact Compare_eqlen p q n c d l k w hl hk hv1 hv2
  · rw [ord_length hl.ok hk.ok (of_decide_eq_true hv1).2 (of_decide_eq_true hv2).2 (by rw [hl.len, hk.len]; exact h), hl.len, hk.len]
    exact Compare_len p q n m c d l k w hl hk hv1 hv2 h

/-- The number of bits. -/
theorem nbits_spec {l : List Nat} (hl : ok l) (ht : Nm.tight l) (h0 : l ≠ []) : 0 < nbits l ∧ 2 ^ (nbits l - 1) ≤ val l ∧ val l < 2 ^ nbits l := by
  have hn : 0 < l.length := List.length_pos_iff.2 h0
  have hx : l[l.length - 1]?.getD 0 ≠ 0 := by
    rcases ht with h | h
    · omega
    · exact h
  have hv := val_take_succ l (l.length - 1) (by omega)
  rw [show l.length - 1 + 1 = l.length by omega, List.take_length] at hv
  have h1 := val_take_lt hl (l.length - 1)
  have h2 := ok_get hl (l.length - 1)
  have e : nbits l = 32 * (l.length - 1) + Lib.bitLen (l[l.length - 1]?.getD 0) := by unfold nbits; rw [if_neg h0]
  obtain ⟨b1, b2, b3⟩ := Lib.bitLenAux_bounds 64 (l[l.length - 1]?.getD 0) (by omega) hx
  change 1 ≤ Lib.bitLen _ at b1
  change 2 ^ (Lib.bitLen _ - 1) ≤ _ at b2
  change _ < 2 ^ Lib.bitLen _ at b3
  rw [pw_eq] at hv h1
  generalize l[l.length - 1]?.getD 0 = x at *
  generalize Lib.bitLen x = B at *
  generalize l.length - 1 = N at *
  rw [e]
  refine ⟨by omega, ?_, ?_⟩
  · rw [show 32 * N + B - 1 = 32 * N + (B - 1) by omega, Nat.pow_add]
    have := Nat.mul_le_mul_left (2 ^ (32 * N)) b2
    omega
  · rw [Nat.pow_add]
    have := Nat.mul_le_mul_left (2 ^ (32 * N)) b3
    rw [Nat.mul_succ] at this
    omega
theorem nbits_le {l : List Nat} (hl : ok l) (ht : Nm.tight l) (k : Nat) : nbits l ≤ k ↔ val l < 2 ^ k := by
  by_cases h0 : l = []
  · subst h0; simp [nbits, val]; exact Nat.pos_of_ne_zero (by simp)
  · obtain ⟨h1, h2, h3⟩ := nbits_spec hl ht h0
    constructor
    · intro h; exact Nat.lt_of_lt_of_le h3 (Nat.pow_le_pow_right (by decide) h)
    · intro h
      rcases Nat.lt_or_ge k (nbits l) with hk | hk
      · have := Nat.pow_le_pow_right (n := 2) (by decide) (show k ≤ nbits l - 1 by omega)
        omega
      · exact hk
theorem testBit_val {l : List Nat} (hl : ok l) (i : Nat) : (val l).testBit i = (l[i / 32]?.getD 0).testBit (i % 32) := by
  by_cases hi : i / 32 < l.length
  · have hv := val_take_drop l (i / 32) (by omega)
    have h1 := val_take_lt hl (i / 32)
    have h2 := ok_get hl (i / 32)
    rw [List.drop_eq_getElem_cons hi] at hv
    rw [List.getElem?_eq_getElem hi, Option.getD_some] at h2 ⊢
    simp only [val] at hv
    rw [pw_eq] at hv h1
    rw [Nat.testBit_eq_decide_div_mod_eq, Nat.testBit_eq_decide_div_mod_eq]
    generalize l[i / 32] = x at *
    generalize val (List.drop (i / 32 + 1) l) = D at *
    have e1 : val l / 2 ^ i = (x + 4294967296 * D) / 2 ^ (i % 32) := by
      have e0 : 2 ^ i = 2 ^ (32 * (i / 32)) * 2 ^ (i % 32) := by rw [← Nat.pow_add]; congr 1; omega
      rw [e0, ← Nat.div_div_eq_div_mul]
      congr 1
      rw [hv, Nat.add_mul_div_left _ _ (Nat.pos_of_ne_zero (by simp)), Nat.div_eq_of_lt h1, Nat.zero_add]
    have ht : i % 32 < 32 := Nat.mod_lt _ (by decide)
    generalize i % 32 = t at *
    rw [e1]
    have e2 : 4294967296 * D = 2 ^ t * (2 ^ (31 - t) * (2 * D)) := by
      rw [← Nat.mul_assoc, ← Nat.pow_add, show t + (31 - t) = 31 by omega, ← Nat.mul_assoc]
    rw [e2, Nat.add_mul_div_left _ _ (Nat.pos_of_ne_zero (by simp))]
    congr 1
    rw [Nat.mul_left_comm, Nat.add_mul_mod_self_left]
  · rw [List.getElem?_eq_none (by omega)]
    have := val_lt hl
    rw [pw_eq] at this
    rw [Nat.testBit_lt_two_pow (Nat.lt_of_lt_of_le this (Nat.pow_le_pow_right (by decide) (by omega)))]
    simp

theorem and_one (x t : Nat) (hx : x < 4294967296) : (bits .and .u32 ((x : Int) / 2 ^ t) 1 == 1) = x.testBit t := by
  have e1 : (x : Int) / 2 ^ t = ((x / 2 ^ t : Nat) : Int) := by rw [Int.natCast_ediv, Int.natCast_pow]; rfl
  have e2 := (Nb.bits_u32 (x / 2 ^ t) 1 (Nat.lt_of_le_of_lt (Nat.div_le_self _ _) hx) (by decide)).1
  rw [e1, show (1 : Int) = ((1 : Nat) : Int) from rfl, e2, Nat.testBit_eq_decide_div_mod_eq, Nat.and_one_is_mod]
  rw [Bool.eq_iff_iff]
  simp
  omega
set_option maxHeartbeats 1000000 in
theorem Of_neg (x : Int) (h : x < 0) (w : World) : Calls Try.prog 23 #[.int .i64 x] w (Failed 2 w) := by
  go_enter Try.func23, Try.ntmps23
  go_wp2
  exact bodyPost_ret (v := .tuple #[.agg #[.slice none 0 0], .int .i64 2]) (by simp [results, Try.results23, go_sem]) rfl ⟨rfl, (Gr.refl _).alloc _⟩
set_option maxHeartbeats 1000000 in
theorem Of_ok (x : Nat) (h : x < 9223372036854775808) (w : World) : Calls Try.prog 23 #[.int .i64 x] w (Gave x w) := by
  obtain ⟨lo, hlo⟩ : ∃ lo, x % 4294967296 = lo := ⟨_, rfl⟩
  obtain ⟨hi, hhi⟩ : ∃ hi, x / 4294967296 = hi := ⟨_, rfl⟩
  have d1 : (x : Int) % 4294967296 = (lo : Int) := by omega
  have d2 : (x : Int) / 4294967296 = (hi : Int) := by omega
  have hh : hi < 2147483648 := by omega
  have HX : Hid (val [lo, hi] = x) := Lib.hid (by simp only [val]; omega)
  have HO : Hid (ok [lo, hi]) := Lib.hid (by simp only [ok_cons]; exact ⟨by omega, by omega, ok_nil⟩)
  have HP : Hid (x < pw 64) := Lib.hid (by have := pw_mono (show 2 ≤ 64 by decide); have : pw 2 = 18446744073709551616 := rfl; omega)
  clear hlo hhi h
  go_enter Try.func23, Try.ntmps23
  go_wp2_with fail
  have hh2 : Hold ((w.alloc (.cells #[.slice none 0 0] 24)).alloc (.cells #[.int .u32 lo, .int .u32 hi] 62)) (w.heap.size + 1) 0 [lo, hi] := by
    refine hold_block ?_
    have := heap_alloc_new (w.alloc (.cells #[.slice none 0 0] 24)) (.cells #[.int .u32 lo, .int .u32 hi] 62)
    rwa [World.size_alloc] at this
  refine (fit_gave (some ⟨w.heap.size + 1, 0, none⟩) 2 2 [lo, hi] rfl (by decide) (by decide) (fun e => by cases e) HO.out w.heap.size _ (hh2.own (by omega)) (by rw [HX.out]; exact HP.out)).mono ?_
  rintro e w2 ⟨n2, rfl, hr, hg⟩
  have c2 := hg.cell (p := ⟨w.heap.size, 0, none⟩) (v := .slice none 0 0) (by simp [go_sem])
  have f2 := hg.frozen (p := ⟨w.heap.size, 0, none⟩) (v := .slice none 0 0) (by simp [go_sem]) (by simp [go_sem])
  have HR := Lib.hid hr
  have HG := Lib.hid ((((Gr.refl w).alloc (.cells #[.slice none 0 0] 24)).alloc (.cells #[.int .u32 lo, .int .u32 hi] 62)).trans hg)
  clear hr hg hh2
  go_wp2
  exact bodyPost_ret (v := .tuple #[.agg #[.slice (some ⟨w.heap.size + 1, 0, none⟩) n2 2], .int .i64 0]) (by simp [results, Try.results23, go_sem, c2]) rfl
    ⟨_, _, _, rfl, by rw [← HX.out]; exact HR.out.set _ _ (fun x e => by cases e; simp), HG.out.setCell (by simp) _⟩

set_option maxHeartbeats 1000000 in
theorem Bit_bad (p : Option Addr) (n c : Nat) (l : List Nat) (i : Int) (w : World) (h : Nw w p n c l) (hv : decide (valid l) = false) :
    Calls Try.prog 29 #[.agg #[.slice p n c], .int .i64 i] w fun e w' => e = .returned (.bool false) ∧ Gr w w' := by
  have H := Lib.hid h
  have HV := Lib.hid hv
  clear h hv
  go_enter Try.func29, Try.ntmps29
  go_wp2_with fail
  refine (Valid_n p n c l _ (H.out.grow ((Gr.refl _).alloc _))).mono ?_
  rintro e w1 ⟨rfl, hg⟩
  rw [HV.out]
  go_wp2
  go_ret
  exact ⟨rfl, ((Gr.refl _).alloc _).trans hg⟩
set_option maxHeartbeats 1000000 in
theorem Bit_neg (p : Option Addr) (n c : Nat) (l : List Nat) (i : Int) (hi : i < 0) (w : World) (h : Nw w p n c l) (hv : decide (valid l) = true) :
    Calls Try.prog 29 #[.agg #[.slice p n c], .int .i64 i] w fun e w' => e = .returned (.bool false) ∧ Gr w w' := by
  have H := Lib.hid h
  have HV := Lib.hid hv
  clear h hv
  go_enter Try.func29, Try.ntmps29
  go_wp2_with fail
  refine (Valid_n p n c l _ (H.out.grow ((Gr.refl _).alloc _))).mono ?_
  rintro e w1 ⟨rfl, hg⟩
  rw [HV.out]
  go_wp2
  go_ret
  exact ⟨rfl, ((Gr.refl _).alloc _).trans hg⟩
set_option maxHeartbeats 2000000 in
theorem Bit_ok (p : Option Addr) (n c : Nat) (l : List Nat) (i : Nat) (w : World) (h : Nw w p n c l) (hv : decide (valid l) = true) (hi : i < 9223372036854775808) :
    Calls Try.prog 29 #[.agg #[.slice p n c], .int .i64 i] w fun e w' => e = .returned (.bool ((val l).testBit i)) ∧ Gr w w' := by
  have HT := Lib.hid (testBit_val h.ok i)
  have hx := ok_get h.ok (i / 32)
  have hn := h.small
  have H := Lib.hid h
  have HV := Lib.hid hv
  obtain ⟨q, hq⟩ : ∃ q, i / 32 = q := ⟨_, rfl⟩
  obtain ⟨t, ht⟩ : ∃ t, i % 32 = t := ⟨_, rfl⟩
  have d1 : (i : Int) / 32 = (q : Int) := by omega
  have d2 : (i : Int) % 32 = (t : Int) := by omega
  have ht32 : t < 32 := by omega
  rw [hq] at HT hx
  rw [ht] at HT
  clear h hv hq ht
  by_cases hlt : q < n
  · obtain ⟨b, off, rfl, hc⟩ := H.out.rd.at (by rw [H.out.len]; omega)
    have hc1 := hc q (by rw [H.out.len]; omega)
    clear hc
    generalize l[q]?.getD 0 = x at *
    have E : Hid ((bits .and .u32 ((x : Int) / 2 ^ t) 1 == 1) = x.testBit t) := Lib.hid (and_one x t hx)
    go_enter Try.func29, Try.ntmps29
    go_wp2_with fail
    refine (Valid_n (some ⟨b, off, none⟩) n c l _ (H.out.grow ((Gr.refl _).alloc _))).mono ?_
    rintro e w1 ⟨rfl, hg⟩
    rw [HV.out]
    have k1 := hg.cell (World.cell?_alloc_new (w := w) #[.slice (some ⟨b, off, none⟩) n c] 24 0)
    have k2 := (((Gr.refl w).alloc _).trans hg).cell hc1
    have HG := Lib.hid (((Gr.refl w).alloc (.cells #[.slice (some ⟨b, off, none⟩) n c] 24)).trans hg)
    clear hg hc1
    go_wp2
    go_ret
    exact ⟨ret_bool (by rw [HT.out]; exact E.out), HG.out⟩
  · have HF : Hid ((0 : Nat).testBit t = (val l).testBit i) := Lib.hid (by rw [HT.out, List.getElem?_eq_none (by rw [H.out.len]; omega)]; rfl)
    go_enter Try.func29, Try.ntmps29
    go_wp2_with fail
    refine (Valid_n p n c l _ (H.out.grow ((Gr.refl _).alloc _))).mono ?_
    rintro e w1 ⟨rfl, hg⟩
    rw [HV.out]
    have k1 := hg.cell (World.cell?_alloc_new (w := w) #[.slice p n c] 24 0)
    go_wp2
    go_ret
    exact ⟨ret_bool (by rw [← HF.out]; simp), ((Gr.refl _).alloc _).trans hg⟩

theorem Bits_n (p : Option Addr) (n c : Nat) (l : List Nat) (w : World) (h : Nw w p n c l) (hv : decide (valid l) = true) :
    Calls Try.prog 28 #[.agg #[.slice p n c]] w fun e w' => e = .returned (.int .i64 (nbits l)) ∧ Gr w w' := by
  have := h.len; subst this
  exact Bits_ok p l c w h.rd hv h.ok
theorem Bits_bad_n (p : Option Addr) (n c : Nat) (l : List Nat) (w : World) (h : Nw w p n c l) (hv : decide (valid l) = false) :
    Calls Try.prog 28 #[.agg #[.slice p n c]] w fun e w' => e = .returned (.int .i64 0) ∧ Gr w w' := by
  have := h.len; subst this
  exact Bits_bad p l c (Nat.le_trans h.small (by decide)) w h.rd hv

set_option maxHeartbeats 1000000 in
theorem Int_bad (p : Option Addr) (n c : Nat) (l : List Nat) (w : World) (h : Nw w p n c l) (hv : decide (valid l) = false) :
    Calls Try.prog 24 #[.agg #[.slice p n c]] w fun e w' => e = .returned (.tuple #[.int .i64 0, .int .i64 1]) ∧ Gr w w' := by
  have H := Lib.hid h
  have HV := Lib.hid hv
  clear h hv
  go_enter Try.func24, Try.ntmps24
  go_wp2_with fail
  refine (Valid_n p n c l _ (H.out.grow ((Gr.refl _).alloc _))).mono ?_
  rintro e w1 ⟨rfl, hg⟩
  rw [HV.out]
  go_wp2
  go_ret2
  exact ⟨rfl, ((Gr.refl _).alloc _).trans hg⟩
set_option maxHeartbeats 1000000 in
theorem Int_big (p : Option Addr) (n c : Nat) (l : List Nat) (w : World) (h : Nw w p n c l) (hv : decide (valid l) = true) (hb : 64 ≤ nbits l) :
    Calls Try.prog 24 #[.agg #[.slice p n c]] w fun e w' => e = .returned (.tuple #[.int .i64 0, .int .i64 9]) ∧ Gr w w' := by
  have H := Lib.hid h
  have HV := Lib.hid hv
  have HB := Lib.hid (fun w h => Bits_n p n c l w h hv)
  clear h hv
  generalize nbits l = B at *
  go_enter Try.func24, Try.ntmps24
  go_wp2_with fail
  refine (Valid_n p n c l _ (H.out.grow ((Gr.refl _).alloc _))).mono ?_
  rintro e w1 ⟨rfl, hg⟩
  rw [HV.out]
  have k1 := hg.cell (World.cell?_alloc_new (w := w) #[.slice p n c] 24 0)
  have HG := Lib.hid (((Gr.refl w).alloc (.cells #[.slice p n c] 24)).trans hg)
  clear hg
  go_wp2_with fail
  refine (HB.out _ (H.out.grow HG.out)).mono ?_
  rintro e w2 ⟨rfl, hg⟩
  go_wp2
  go_ret2
  exact ⟨rfl, HG.out.trans hg⟩

/-- One word more: the number read so far, moved by a word. -/
def stp (X : Int) (v : Nat) : Int := bits .or .i64 (wrap64 (X * 4294967296)) (wrap64 (v : Int))
def acc (pre : List (Nat × Nat)) : Int := pre.foldl (fun X x => stp X x.2) 0
theorem acc_snoc (pre : List (Nat × Nat)) (i v : Nat) : acc (pre ++ [(i, v)]) = stp (acc pre) v := by simp [acc]
/-- Between two rounds. -/
def IntAt (w : World) (B : Nat) (pre : List (Nat × Nat)) (W : World) : Prop :=
  (W.cell? ⟨B, 0, none⟩ = some (.int .i64 (acc pre)) ∧ W.frozen? ⟨B, 0, none⟩ = false) ∧ Gr w W
theorem intAt_own {w : World} {B C : Nat} (hB : w.heap.size ≤ C) : OwnFrom C (IntAt w B) :=
  OwnFrom.and (own_keep fun _ _ _ h kk => ⟨(kk _ _ h.1).1, (kk _ _ h.1).2.trans h.2⟩) (own_gr hB)

theorem or_i64 (a b : Nat) (ha : a < 9223372036854775808) (hb : b < 9223372036854775808) : bits .or .i64 (a : Int) (b : Int) = ((a ||| b : Nat) : Int) := by
  have hx : a ||| b < 2 ^ 63 := Nat.or_lt_two_pow (by omega) (by omega)
  have h1 : (BitVec.ofInt 64 (a : Int)).toNat = a := by
    rw [BitVec.ofInt_natCast, BitVec.toNat_ofNat]; exact Nat.mod_eq_of_lt (by omega)
  have h2 : (BitVec.ofInt 64 (b : Int)).toNat = b := by
    rw [BitVec.ofInt_natCast, BitVec.toNat_ofNat]; exact Nat.mod_eq_of_lt (by omega)
  show IntKind.i64.wrap ((BitVec.ofInt 64 (a : Int) ||| BitVec.ofInt 64 (b : Int)).toNat : Int) = _
  rw [BitVec.toNat_or, h1, h2, IntKind.wrap_i64]; omega
theorem stp_eq (x v : Nat) (hx : x < 2147483648) (hv : v < 4294967296) : stp (x : Int) v = ((v + 4294967296 * x : Nat) : Int) := by
  unfold stp
  have e1 : wrap64 ((x : Int) * 4294967296) = ((x * 4294967296 : Nat) : Int) := by unfold wrap64; omega
  have e2 : wrap64 (v : Int) = (v : Int) := by unfold wrap64; omega
  rw [e1, e2, or_i64 _ _ (by omega) (by omega)]
  have := Nat.shiftLeft_add_eq_or_of_lt (i := 32) (b := v) (by omega) x
  rw [Nat.shiftLeft_eq, show (2 : Nat) ^ 32 = 4294967296 from rfl] at this
  rw [← this]
  congr 1
  omega
theorem stp_zero (v : Nat) (hv : v < 4294967296) : stp 0 v = (v : Int) := by
  have := stp_eq 0 v (by omega) hv
  have e : ((0 : Nat) : Int) = 0 := rfl
  rw [e, Nat.mul_zero, Nat.add_zero] at this
  exact this
theorem foldl_one {β : Type} (f : β → Nat → β) (b : β) (x : Nat × Nat) : [x].foldl (fun X y => f X y.2) b = f b x.2 := rfl
theorem foldl_two {β : Type} (f : β → Nat → β) (b : β) (x y : Nat × Nat) : [x, y].foldl (fun X y => f X y.2) b = f (f b x.2) y.2 := rfl
theorem acc_one (x : Nat × Nat) : acc [x] = stp 0 x.2 := by
  unfold acc
  exact foldl_one stp 0 x
theorem acc_two (x y : Nat × Nat) : acc [x, y] = stp (stp 0 x.2) y.2 := by
  unfold acc
  exact foldl_two stp 0 x y
theorem acc_done {w : World} {p : Option Addr} {n c : Nat} {l : List Nat} {xs : List (Nat × Nat)} (h : Nw w p n c l) (hO : Out (fun i v => v = l[i]?.getD 0) n n xs) (hv : val l < 2 ^ 63) (ht : Nm.tight l) : acc xs = val l := by
  have hl := h.ok
  have en := h.len
  have hn : l.length ≤ 2 := by
    rcases Nat.lt_or_ge 2 l.length with h2 | h2
    · have h3 := pw_le_val ht (fun e => by rw [e] at h2; simp at h2)
      have h4 := pw_mono (show 2 ≤ l.length - 1 by omega)
      have : pw 2 = 18446744073709551616 := rfl
      omega
    · exact h2
  have hxl := hO.length
  subst en
  match l, xs, hl, hO, hv, hn, hxl with
  | [], [], _, _, _, _, _ => rfl
  | [a], [(i, v)], hl, hO, hv, _, _ =>
    have h1 := hO.1
    simp [dn] at h1
    have h2 := hO.2 (i, v) (by simp)
    simp [h1] at h2
    rw [h2, acc_one, stp_zero a (hl a (by simp))]
    simp [val]
  | [a, b], [(i, v), (j, u)], hl, hO, hv, _, _ =>
    have h1 := hO.1
    simp [dn, List.range_succ] at h1
    have h2 := hO.2 (i, v) (by simp)
    have h3 := hO.2 (j, u) (by simp)
    rw [h1.1] at h2
    rw [h1.2] at h3
    simp at h2 h3
    simp only [val] at hv
    rw [acc_two, h2, h3, stp_zero b (hl b (by simp)), stp_eq b a (by omega) (hl a (by simp))]
    simp only [val, Nat.mul_zero, Nat.add_zero]
theorem nw_block {w : World} {p : Option Addr} {n c : Nat} {l : List Nat} (h : Nw w p n c l) {a : Addr} (ha : p = some a) (h0 : 0 < n) : a.block < w.heap.size := by
  obtain ⟨b, off, e, hc⟩ := h.rd.at (by rw [h.len]; exact h0)
  rw [ha] at e
  cases e
  exact World.block_lt_of_cell? w _ (hc 0 (by rw [h.len]; exact h0))
theorem Src.set {Bs : Nat} {p : Option Addr} {len cap : Nat} {V : Nat → Nat → Prop} {w : World} (h : Src Bs p len cap V w) (X : Nat) (hX : X ≠ Bs) (hp : ∀ a : Addr, p = some a → 0 < len → a.block ≠ X) (u : Value) : Src Bs p len cap V (w.setCell ⟨X, 0, none⟩ u) := by
  refine ⟨by rw [World.cell?_setCell_other _ _ _ _ (by intro e; cases e; exact hX rfl)]; exact h.1, ?_⟩
  rcases Nat.eq_zero_or_pos len with h0 | h0
  · exact .inl h0
  · obtain ⟨b, off, rfl, hc⟩ := h.at h0
    refine .inr ⟨b, off, rfl, fun i hi => ?_⟩
    obtain ⟨v, hv, hcv⟩ := hc i hi
    exact ⟨v, hv, by rw [World.cell?_setCell_other _ _ _ _ (by intro e; injection e with e1 e2 e3; exact hp _ rfl h0 e1.symm)]; exact hcv⟩

set_option maxRecDepth 100000 in
set_option maxHeartbeats 4000000 in
theorem Int_ok (p : Option Addr) (n c : Nat) (l : List Nat) (w : World) (h : Nw w p n c l) (hv : decide (valid l) = true) (hb : nbits l < 64) :
    Calls Try.prog 24 #[.agg #[.slice p n c]] w fun e w' => e = .returned (.tuple #[.int .i64 (val l), .int .i64 0]) ∧ Gr w w' := by
  have H := Lib.hid h
  have HV := Lib.hid hv
  have HB := Lib.hid (fun w h => Bits_n p n c l w h hv)
  have hn := h.small
  have HNB := Lib.hid hb
  clear h hv
  generalize hbb : nbits l = B at *
  have HBB := Lib.hid hbb
  clear hbb
  refine (callsIn_wide (n := 3)).1 ?_
  have t1 : Fence.wide.fn 126 := trivial
  have h1 : 1 ≤ 3 := by decide
  refine callsIn_of_wp_marks Try.func24 rfl trivial ?_ rfl
  simp only [Try.ntmps24, List.size_toArray, List.length_cons, List.length_nil, Nat.reduceAdd, Nat.reduceSub, Array.replicate_succ, Array.replicate_zero, List.push_toArray, List.append_toArray, List.nil_append, List.cons_append]
  gi_wp2_with fail
  refine ⟨trivial, (callsIn_wide.2 (Valid_n p n c l _ (H.out.grow ((Gr.refl _).alloc _)))).mono ?_⟩
  rintro e w1 ⟨rfl, hg⟩
  rw [HV.out]
  have k1 := hg.cell (World.cell?_alloc_new (w := w) #[.slice p n c] 24 0)
  have HG := Lib.hid (((Gr.refl w).alloc (.cells #[.slice p n c] 24)).trans hg)
  clear hg
  gi_wp2_with fail
  refine ⟨trivial, (callsIn_wide.2 (HB.out _ (H.out.grow HG.out))).mono ?_⟩
  rintro e w2 ⟨rfl, hg⟩
  have k2 := hg.cell k1
  have HG2 := Lib.hid (HG.out.trans hg)
  have hz : w.heap.size < w2.heap.size := World.block_lt_of_cell? w2 _ k2
  clear hg k1
  gi_wp2_with fail
  refine ⟨trivial, (back_in _ _ trivial rfl _ _ _ _).mono ?_⟩
  rintro e w3 ⟨rfl, rfl⟩
  gi_wp2_with fail
  have HS := Lib.hid (src_of (H.out.grow (HG2.out.alloc (.cells #[.int .i64 0] 3))))
  rw [World.size_alloc] at HS
  have HI0 : Hid (IntAt w w2.heap.size [] ((w2.alloc (.cells #[.int .i64 0] 3)).alloc (.cells #[.slice p n c] 22))) := Lib.hid
    ⟨⟨((Gr.refl _).alloc _).cell (World.cell?_alloc_new (w := w2) #[.int .i64 0] 3 0), by simp [go_sem]⟩, (HG2.out.alloc _).alloc _⟩
  refine wpIn_rangeFunc_ownG rfl h1 (gf := 126) (lb := #[.pointer (some ⟨w2.heap.size + 1, 0, none⟩)]) rfl trivial (enters_of Try.func126 (by kernel_rfl) rfl)
    (back_stops Fence.wide (3 - 1) trivial rfl (by decide) (w2.heap.size + 1) p n c hn (fun i v => v = l[i]?.getD 0) _ HS.out) (fun h k s => k (h s)) src_b (Below.refl _ _) (fun _ => rfl)
    (IntAt w w2.heap.size) (fun _ _ _ => False) (intAt_own (by simp; omega)) (fun _ _ _ _ _ hs _ _ => hs) HI0.out ?a1 ?assign ?body ?done ?stop
  case assign =>
    intro l x W K hK
    unfold en
    gi_wp2
    exact hK
  case body =>
    rintro l2 pre ⟨i, v⟩ W ⟨⟨hA, hF⟩, hB⟩ hlt
    have HB := Lib.hid hB
    have HE := Lib.hid (acc_snoc pre i v)
    clear hB hlt
    unfold stp at HE
    generalize acc pre = X at *
    gi_wp2
    refine ⟨(KeepsOthers.setCell _ _ _).from _, fun hS => hS.set _ (by omega) (fun a ha h0 => ?_) _, ⟨?_, ?_⟩, HB.out.setCell (by simp; omega) _⟩
    · have := nw_block H.out ha h0; omega
    · rw [HE.out]; exact World.cell?_setCell_same' _ _ _ (by rw [hA]; rfl)
    · rw [World.frozen?_setCell]; exact hF
  case done =>
    rintro D xs W hD hO ⟨⟨hA, hF⟩, hB⟩ hK
    have e0 : acc xs = val l := acc_done H.out hO (Nat.lt_of_lt_of_le ((nbits_le H.out.ok (of_decide_eq_true HV.out).2 63).1 (by rw [HBB.out]; have := HNB.out; omega)) (Nat.le_refl _)) (of_decide_eq_true HV.out).2
    rw [e0] at hA
    have hDw : w.heap.size ≤ D := by simp at hD; omega
    clear e0 hO
    gi_wp2
    refine ⟨by simp, .inl ⟨_, _, rfl, run_takeDeferred hK, ?_⟩⟩
    exact ⟨.tuple #[.int .i64 (val l), .int .i64 0], by simp [results, Try.results24, go_sem], rfl, gr_trans hB (belowK_b (w := w) (Nat.le_refl _) W D _ _ hDw hK rfl rfl)⟩
  case stop =>
    rintro D c pre W _ _ h _
    exact h.elim
end Go.Proofs.Ytiefnhpbniaklaa.Nk
