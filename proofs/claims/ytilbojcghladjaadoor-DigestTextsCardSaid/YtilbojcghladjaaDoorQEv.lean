/- The reference's Parse, Hex, Compare. -/
import Derived.Test.YtilbojcghladjaaDoorQEu
import Derived.Deep.Cut
namespace Go.Proofs.YtilbojcghladjaaDoor.Dg
open Go Go.RowKit Go.Proofs.YtilbojcghladjaaDoor.Ne Go.Proofs.YtilbojcghladjaaDoor.Kr

/-- What the row holds after i letters. -/
def hf (S : List (BitVec 8)) (i : Nat) : List (BitVec 8) := pre2 S (i / 2) ++ if i % 2 = 0 then [] else [BitVec.ofNat 8 (dv (S.getD (i - 1) 0)).toNat]
theorem hf_even (S : List (BitVec 8)) (k : Nat) : hf S (2 * k) = pre2 S k := by
  unfold hf
  rw [if_pos (by omega), List.append_nil, show 2 * k / 2 = k by omega]
theorem hf_odd (S : List (BitVec 8)) (k : Nat) : hf S (2 * k + 1) = pre2 S k ++ [BitVec.ofNat 8 (dv (S.getD (2 * k) 0)).toNat] := by
  unfold hf
  rw [if_neg (by omega), show (2 * k + 1) / 2 = k by omega, show 2 * k + 1 - 1 = 2 * k by omega]
theorem bv_two (a b : Nat) : BitVec.ofNat 8 a * 16#8 + BitVec.ofNat 8 b = BitVec.ofNat 8 (16 * a + b) := by
  apply BitVec.eq_of_toNat_eq
  simp only [BitVec.toNat_add, BitVec.toNat_mul, BitVec.toNat_ofNat]
  omega
theorem padN_end0 {l : List (BitVec 8)} {k : Nat} (h : l.length = k) (hk : k < 32) : (padN 32 l)[k]? = some (.int .u8 (((0#8).toNat : Nat) : Int)) := by
  unfold padN
  rw [List.getElem?_append_right (by rw [List.length_map]; omega), List.length_map, h, Nat.sub_self, List.getElem?_replicate, if_pos (by omega)]
  rfl
theorem padN_last {l : List (BitVec 8)} {k : Nat} (h : l.length = k) (x : BitVec 8) : (padN 32 (l ++ [x]))[k]? = some (.int .u8 (x.toNat : Int)) := by
  unfold padN
  rw [List.getElem?_append_left (by simp [h])]
  exact map_get8 (by rw [List.getElem?_append_right (by omega), h, Nat.sub_self]; rfl)
theorem padN_setlast {l : List (BitVec 8)} {k : Nat} (h : l.length = k) (x y : BitVec 8) : (padN 32 (l ++ [x])).set k (.int .u8 (y.toNat : Int)) = padN 32 (l ++ [y]) := by
  unfold padN
  rw [List.set_append_left _ _ (by simp [h]), List.length_append, List.length_append, List.map_append, List.map_append, List.set_append_right _ _ (by simp [h]), List.length_map, h, Nat.sub_self]
  rfl
theorem hf_step (S : List (BitVec 8)) {i : Nat} (hi : i < 64) : ∃ c : BitVec 8, (padN 32 (hf S i))[i / 2]? = some (.int .u8 (c.toNat : Int)) ∧
    (padN 32 (hf S i)).set (i / 2) (.int .u8 ((c * 16#8 + BitVec.ofNat 8 (dv (S.getD i 0)).toNat).toNat : Int)) = padN 32 (hf S (i + 1)) := by
  rcases Nat.mod_two_eq_zero_or_one i with h | h
  · obtain ⟨k, rfl⟩ : ∃ k, i = 2 * k := ⟨i / 2, by omega⟩
    rw [hf_even, hf_odd, show 2 * k / 2 = k by omega]
    refine ⟨0#8, padN_end0 (pre2_length S k) (by omega), ?_⟩
    rw [BitVec.zero_mul, BitVec.zero_add]
    exact padN_set (pre2_length S k) (by omega) _
  · obtain ⟨k, rfl⟩ : ∃ k, i = 2 * k + 1 := ⟨i / 2, by omega⟩
    rw [hf_odd, show 2 * k + 1 + 1 = 2 * (k + 1) by omega, hf_even, pre2_succ, show (2 * k + 1) / 2 = k by omega]
    refine ⟨_, padN_last (pre2_length S k) _, ?_⟩
    rw [padN_setlast (pre2_length S k), bv_two]
    rfl
theorem hf_length (S : List (BitVec 8)) {i : Nat} (h : i ≤ 64) : (padN 32 (hf S i)).length = 32 := by
  refine padN_length ?_
  unfold hf
  rw [List.length_append, pre2_length]
  split <;> simp <;> omega
theorem cmp_step {l m : List (BitVec 8)} {i : Nat} {x y : BitVec 8} (hx : l[i]? = some x) (hy : m[i]? = some y) : Lib.compareBytes (u8 (l.drop i)) (u8 (m.drop i)) = if x.toNat < y.toNat then -1 else if y.toNat < x.toNat then 1 else Lib.compareBytes (u8 (l.drop (i + 1))) (u8 (m.drop (i + 1))) := by
  obtain ⟨h1, rfl⟩ := List.getElem?_eq_some_iff.1 hx
  obtain ⟨h2, rfl⟩ := List.getElem?_eq_some_iff.1 hy
  rw [List.drop_eq_getElem_cons h1, List.drop_eq_getElem_cons h2]
  rfl

set_option linter.unusedSimpArgs false in
set_option maxRecDepth 100000 in
set_option maxHeartbeats 16000000 in
theorem rParse_len {t : ByteArray} {w : World} (ht : t.size ≠ 64) :
    Calls Tryd.prog 28 #[.string t] w fun e w' => e = .returned (.tuple #[.agg (zH.map w8).toArray, .bool false]) ∧ Gr w w' := by
  have h0 : (zH.map w8).length = 32 := rfl
  have H := Ow.start w
  go_enter Tryd.func28, Tryd.ntmps28
  go_upto_region 0 with fail
  refine Kr.seqStartW ?_
  refine Kr.seqR (by rfl) (fun K hK => ?_)
  refine wp_runV rfl newHz ?_
  obtain ⟨y1, hy⟩ : ∃ y, w.alloc (.cells (zH.map w8).toArray 25) = y := ⟨_, rfl⟩
  obtain ⟨br, hb⟩ : ∃ b, w.heap.size = b := ⟨_, rfl⟩
  rw [hy, hb]
  have hg : Gr w y1 := hy ▸ (Gr.refl _).alloc _
  replace H := H.alloc hy hb
  clear hy hb hg
  (refine Kr.outS hK (a' := ?_) ?_ ?_; rotate_left; (focus ((try simp only [Kr.PT]); first | done | rfl))); clear hK K
  (refine Kr.seqQ (v := ?_) (a' := ?_) (by rfl) ?_ ?_ ?_; rotate_left 2; (focus (go_simp; first | done | rfl)); (focus ((try simp only [Kr.PT]); first | done | rfl)))
  refine Kr.seqDoneW ?_
  go_upto_region 1 with fail
  refine Kr.seqStartW ?_
  refine Kr.seqR (by rfl) (fun K hK => ?_)
  refine wp_runV rfl newHz ?_
  obtain ⟨y2, hy⟩ : ∃ y, y1.alloc (.cells (zH.map w8).toArray 25) = y := ⟨_, rfl⟩
  obtain ⟨bh, hb⟩ : ∃ b, y1.heap.size = b := ⟨_, rfl⟩
  rw [hy, hb]
  have hg : Gr y1 y2 := hy ▸ (Gr.refl _).alloc _
  replace H := H.alloc hy hb
  clear hy hb hg
  (refine Kr.outS hK (a' := ?_) ?_ ?_; rotate_left; (focus ((try simp only [Kr.PT]); first | done | rfl))); clear hK K
  refine Kr.seqDoneW ?_
  have HC : (!decide ((t.size : Int) = 64)) = true := by rw [decide_eq_false (by omega)]; rfl
  go_upto_region 2 with fail
  refine Kr.seqStartW ?_
  (refine Kr.seqQ (v := ?_) (a' := ?_) (by rfl) ?_ ?_ ?_; rotate_left 2; (focus (go_simp; first | done | rfl)); (focus ((try simp only [Kr.PT]); first | done | rfl)))
  (refine Kr.seqQ (v := .int .i64 (t.size : Int)) (a' := ?_) (by rfl) ?_ ?_ ?_; rotate_left 1; (focus (exact Kr.valOf rfl ((by go_simp)))); (focus ((try simp only [Kr.PT]); first | done | rfl)))
  (refine Kr.seqQ (v := .bool true) (a' := ?_) (by rfl) ?_ ?_ ?_; rotate_left 1; (focus (exact Kr.valOf rfl (neqI HC))); (focus ((try simp only [Kr.PT]); first | done | rfl)))
  refine Kr.seqDoneW ?_
  go_upto_region 3 with fail
  refine Kr.seqStartW ?_
  (refine Kr.seqQ (v := .agg (zH.map w8).toArray) (a' := ?_) (by rfl) ?_ ?_ ?_; rotate_left 1; (focus (exact Kr.valOf rfl (ldH (H.at 0 rfl) h0))); (focus ((try simp only [Kr.PT]); first | done | rfl)))
  refine Kr.seqR (by rfl) (fun K hK => ?_)
  refine wp_run rfl (stH (H.at 1 rfl) h0 h0 (oneCell_bytes _)) ?_
  obtain ⟨y3, hy⟩ : ∃ y, y2.setRow br (zH.map w8).toArray = y := ⟨_, rfl⟩
  rw [hy]
  replace H := H.put 1 hy rfl
  dsimp only [List.set] at H
  clear hy
  (refine Kr.outS hK (a' := ?_) ?_ ?_; rotate_left; (focus ((try simp only [Kr.PT]); first | done | rfl))); clear hK K
  (refine Kr.seqQ (v := ?_) (a' := ?_) (by rfl) ?_ ?_ ?_; rotate_left 2; (focus (go_simp; first | done | rfl)); (focus ((try simp only [Kr.PT]); first | done | rfl)))
  refine Kr.seqDoneW ?_
  go_wp2
  refine bodyPost_ret (v := .tuple #[.agg (zH.map w8).toArray, .bool false]) (results_row_tmp rfl _ _ br 25 _ _ _ (by rfl) (H.at 1 rfl) Tryd.underlying25 rfl (by rw [List.size_toArray, h0]; exact infoH) (by rfl)) rfl ⟨rfl, H.g⟩
set_option linter.unusedSimpArgs false in
set_option maxRecDepth 100000 in
set_option maxHeartbeats 16000000 in
theorem rParse_v {t : ByteArray} {R : List (BitVec 8)} {cc : Bool} {w : World} (ht : t.size = 64) (hR : (gd (s8 t) 64 ∧ R = pre2 (s8 t) 32 ∧ cc = true) ∨ (¬ gd (s8 t) 64 ∧ R = zH ∧ cc = false)) :
    Calls Tryd.prog 28 #[.string t] w fun e w' => e = .returned (.tuple #[.agg (R.map w8).toArray, .bool cc]) ∧ Gr w w' := by
  have h0 : (zH.map w8).length = 32 := rfl
  obtain ⟨S, hS⟩ : ∃ z, s8 t = z := ⟨_, rfl⟩; rw [hS] at hR; have HRR := Lib.hid hR; have HS := Lib.hid hS; have hSl : S.length = 64 := by rw [← hS, s8_length]; exact ht
  clear hR hS
  have H := Ow.start w
  go_enter Tryd.func28, Tryd.ntmps28
  go_upto_region 0 with fail
  refine Kr.seqStartW ?_
  refine Kr.seqR (by rfl) (fun K hK => ?_)
  refine wp_runV rfl newHz ?_
  obtain ⟨y1, hy⟩ : ∃ y, w.alloc (.cells (zH.map w8).toArray 25) = y := ⟨_, rfl⟩
  obtain ⟨br, hb⟩ : ∃ b, w.heap.size = b := ⟨_, rfl⟩
  rw [hy, hb]
  have hg : Gr w y1 := hy ▸ (Gr.refl _).alloc _
  replace H := H.alloc hy hb
  clear hy hb hg
  (refine Kr.outS hK (a' := ?_) ?_ ?_; rotate_left; (focus ((try simp only [Kr.PT]); first | done | rfl))); clear hK K
  (refine Kr.seqQ (v := ?_) (a' := ?_) (by rfl) ?_ ?_ ?_; rotate_left 2; (focus (go_simp; first | done | rfl)); (focus ((try simp only [Kr.PT]); first | done | rfl)))
  refine Kr.seqDoneW ?_
  go_upto_region 1 with fail
  refine Kr.seqStartW ?_
  refine Kr.seqR (by rfl) (fun K hK => ?_)
  refine wp_runV rfl newHz ?_
  obtain ⟨y2, hy⟩ : ∃ y, y1.alloc (.cells (zH.map w8).toArray 25) = y := ⟨_, rfl⟩
  obtain ⟨bh, hb⟩ : ∃ b, y1.heap.size = b := ⟨_, rfl⟩
  rw [hy, hb]
  have hg : Gr y1 y2 := hy ▸ (Gr.refl _).alloc _
  replace H := H.alloc hy hb
  clear hy hb hg
  (refine Kr.outS hK (a' := ?_) ?_ ?_; rotate_left; (focus ((try simp only [Kr.PT]); first | done | rfl))); clear hK K
  refine Kr.seqDoneW ?_
  have HC : (!decide ((t.size : Int) = 64)) = false := by rw [ht]; rfl
  go_upto_region 2 with fail
  refine Kr.seqStartW ?_
  (refine Kr.seqQ (v := ?_) (a' := ?_) (by rfl) ?_ ?_ ?_; rotate_left 2; (focus (go_simp; first | done | rfl)); (focus ((try simp only [Kr.PT]); first | done | rfl)))
  (refine Kr.seqQ (v := .int .i64 (t.size : Int)) (a' := ?_) (by rfl) ?_ ?_ ?_; rotate_left 1; (focus (exact Kr.valOf rfl ((by go_simp)))); (focus ((try simp only [Kr.PT]); first | done | rfl)))
  (refine Kr.seqQ (v := .bool false) (a' := ?_) (by rfl) ?_ ?_ ?_; rotate_left 1; (focus (exact Kr.valOf rfl (neqI HC))); (focus ((try simp only [Kr.PT]); first | done | rfl)))
  refine Kr.seqDoneW ?_
  go_upto_region 4 with fail
  refine Kr.seqStartW ?_
  (refine Kr.seqQ (v := ?_) (a' := ?_) (by rfl) ?_ ?_ ?_; rotate_left 2; (focus (go_simp; first | done | rfl)); (focus ((try simp only [Kr.PT]); first | done | rfl)))
  refine Kr.seqDoneW ?_
  clear HC
  have H2 := Lib.hid H; clear H
  go_wp2_with fail
  go_loopw [5] (fun iv wr => ∃ (i : Nat), i ≤ 64 ∧ iv = .int .i64 (i : Int) ∧ Hid (gd S i) ∧ Hid (Ow w wr [(bh, 25, padN 32 (hf S i)), (br, 25, zH.map w8)])) (fun iv _ => (64 - (intOf iv).toNat))
  case atStart => exact ⟨0, by omega, rfl, Lib.hid (fun j hj => absurd hj (Nat.not_lt_zero _)), H2⟩
  case round =>
    clear H2; obtain ⟨i, hi, rfl, HG, HH⟩ := hrel; have H := HH.out; clear HH
    have hpl : (padN 32 (hf S i)).length = 32 := hf_length S hi
    by_cases hie : i = 64
    · have HC : decide ((i : Int) < 64) = false := decide_eq_false (by omega)
      have hRR : R = pre2 S 32 ∧ cc = true := by
        rcases HRR.out with h | h
        · exact h.2
        · exact absurd (by have := HG.out; rwa [hie] at this) h.1
      obtain ⟨hR1, rfl⟩ := hRR; have hR32 : (R.map w8).length = 32 := by rw [List.length_map, hR1]; exact pre2_length _ _
      rw [hie, show (64 : Nat) = 2 * 32 from rfl, hf_even, padN_full (pre2_length S 32), ← hR1] at H; clear hR1 hie hpl
      go_upto_region 5 with fail
      refine Kr.seqStartW ?_
      (refine Kr.seqQ (v := ?_) (a' := ?_) (by rfl) ?_ ?_ ?_; rotate_left 2; (focus (go_simp; first | done | rfl)); (focus ((try simp only [Kr.PT]); first | done | rfl)))
      (refine Kr.seqQ (v := .bool false) (a' := ?_) (by rfl) ?_ ?_ ?_; rotate_left 1; (focus (exact Kr.valOf rfl (lssT HC))); (focus ((try simp only [Kr.PT]); first | done | rfl)))
      refine Kr.seqDoneW ?_
      go_upto_region 11 with fail
      refine Kr.seqStartW ?_
      (refine Kr.seqQ (v := .agg (R.map w8).toArray) (a' := ?_) (by rfl) ?_ ?_ ?_; rotate_left 1; (focus (exact Kr.valOf rfl (ldH (H.at 0 rfl) hR32))); (focus ((try simp only [Kr.PT]); first | done | rfl)))
      refine Kr.seqR (by rfl) (fun K hK => ?_)
      refine wp_run rfl (stH (H.at 1 rfl) h0 hR32 (oneCell_bytes _)) ?_
      obtain ⟨y3, hy⟩ : ∃ y, wr.setRow br (R.map w8).toArray = y := ⟨_, rfl⟩
      rw [hy]
      replace H := H.put 1 hy rfl
      dsimp only [List.set] at H
      clear hy
      (refine Kr.outS hK (a' := ?_) ?_ ?_; rotate_left; (focus ((try simp only [Kr.PT]); first | done | rfl))); clear hK K
      (refine Kr.seqQ (v := ?_) (a' := ?_) (by rfl) ?_ ?_ ?_; rotate_left 2; (focus (go_simp; first | done | rfl)); (focus ((try simp only [Kr.PT]); first | done | rfl)))
      refine Kr.seqDoneW ?_
      go_wp2
      refine bodyPost_ret (v := .tuple #[.agg (R.map w8).toArray, .bool true]) (results_row_tmp rfl _ _ br 25 _ _ _ (by rfl) (H.at 1 rfl) Tryd.underlying25 rfl (by rw [List.size_toArray, hR32]; exact infoH) (by rfl)) rfl ⟨rfl, H.g⟩
    · have hil : i < 64 := (by omega); have HC : decide ((i : Int) < 64) = true := decide_eq_true (by omega)
      obtain ⟨x, hx⟩ : ∃ z, S.getD i 0 = z := ⟨_, rfl⟩
      have HX : Hid ((s8 t)[i]? = some x) := Lib.hid (by rw [HS.out, ← hx]; exact getD_of (by omega))
      obtain ⟨a, ha⟩ : ∃ z, dv x = z := ⟨_, rfl⟩; obtain ⟨c, hc1, hc2⟩ := hf_step S hil; rw [hx, ha] at hc2
      obtain ⟨k, hk⟩ : ∃ z, i / 2 = z := ⟨_, rfl⟩; rw [hk] at hc1 hc2; have hk32 : k < 32 := by omega
      have HGA : Hid (gd S 64 → 0 ≤ a) := Lib.hid (fun h => by rw [← ha, ← hx]; exact h _ hil)
      have HGB : Hid (0 ≤ a → gd S (i + 1)) := Lib.hid (fun h1 j hj => by
        rcases (by omega : j < i ∨ j = i) with h | h
        · exact HG.out j h
        · rw [h, hx, ha]; exact h1)
      have hal : a ≤ 15 := by rw [← ha]; exact dvN_lt _
      have HAV := Lib.hid ha; have HK := Lib.hid hk; have HC1 := Lib.hid hc1; have HC2 := Lib.hid hc2; clear ha hx HG hk hc1 hc2
      go_upto_region 5 with fail
      refine Kr.seqStartW ?_
      (refine Kr.seqQ (v := ?_) (a' := ?_) (by rfl) ?_ ?_ ?_; rotate_left 2; (focus (go_simp; first | done | rfl)); (focus ((try simp only [Kr.PT]); first | done | rfl)))
      (refine Kr.seqQ (v := .bool true) (a' := ?_) (by rfl) ?_ ?_ ?_; rotate_left 1; (focus (exact Kr.valOf rfl (lssT HC))); (focus ((try simp only [Kr.PT]); first | done | rfl)))
      refine Kr.seqDoneW ?_
      go_upto_region 7 with fail
      refine Kr.seqStartW ?_
      (refine Kr.seqQ (v := ?_) (a' := ?_) (by rfl) ?_ ?_ ?_; rotate_left 2; (focus (go_simp; first | done | rfl)); (focus ((try simp only [Kr.PT]); first | done | rfl)))
      (refine Kr.seqQ (v := ?_) (a' := ?_) (by rfl) ?_ ?_ ?_; rotate_left 2; (focus (go_simp; first | done | rfl)); (focus ((try simp only [Kr.PT]); first | done | rfl)))
      (refine Kr.seqQ (v := .int .u8 ((x).toNat : Int)) (a' := ?_) (by rfl) ?_ ?_ ?_; rotate_left 1; (focus (exact Kr.valOf rfl (atStr HX.out))); (focus ((try simp only [Kr.PT]); first | done | rfl)))
      refine Kr.seqR (by rfl) (fun K hK => ?_)
      go_simp
      go_at_call 50
      have hP := digit_v (x := x) (w := wr); rw [HAV.out] at hP
      refine (hP).mono ?_
      rintro e w9 ⟨rfl, hw⟩
      rw [hw]
      clear hw w9
      clear hP
      (refine Kr.outS hK (a' := ?_) ?_ ?_; rotate_left; (focus ((try simp only [Kr.PT]); first | done | rfl))); clear hK K
      (refine Kr.seqQ (v := ?_) (a' := ?_) (by rfl) ?_ ?_ ?_; rotate_left 2; (focus (go_simp; first | done | rfl)); (focus ((try simp only [Kr.PT]); first | done | rfl)))
      refine Kr.seqDoneW ?_
      by_cases ha0 : a < 0
      · have HA1 : decide (a < 0) = true := decide_eq_true ha0
        go_upto_region 8 with fail
        refine Kr.seqStartW ?_
        (refine Kr.seqQ (v := ?_) (a' := ?_) (by rfl) ?_ ?_ ?_; rotate_left 2; (focus (go_simp; first | done | rfl)); (focus ((try simp only [Kr.PT]); first | done | rfl)))
        (refine Kr.seqQ (v := .bool true) (a' := ?_) (by rfl) ?_ ?_ ?_; rotate_left 1; (focus (exact Kr.valOf rfl (lssT HA1))); (focus ((try simp only [Kr.PT]); first | done | rfl)))
        refine Kr.seqDoneW ?_
        have hRR : R = zH ∧ cc = false := by
          rcases HRR.out with h | h
          · have := HGA.out h.1; omega
          · exact h.2
        obtain ⟨rfl, rfl⟩ := hRR
        go_upto_region 9 with fail
        refine Kr.seqStartW ?_
        (refine Kr.seqQ (v := .agg (zH.map w8).toArray) (a' := ?_) (by rfl) ?_ ?_ ?_; rotate_left 1; (focus (go_simp; first | done | rfl)); (focus ((try simp only [Kr.PT]); first | done | rfl)))
        refine Kr.seqR (by rfl) (fun K hK => ?_)
        refine wp_run rfl (stH (H.at 1 rfl) h0 h0 (oneCell_bytes _)) ?_
        obtain ⟨y4, hy⟩ : ∃ y, wr.setRow br (zH.map w8).toArray = y := ⟨_, rfl⟩
        rw [hy]
        replace H := H.put 1 hy rfl
        dsimp only [List.set] at H
        clear hy
        (refine Kr.outS hK (a' := ?_) ?_ ?_; rotate_left; (focus ((try simp only [Kr.PT]); first | done | rfl))); clear hK K
        (refine Kr.seqQ (v := ?_) (a' := ?_) (by rfl) ?_ ?_ ?_; rotate_left 2; (focus (go_simp; first | done | rfl)); (focus ((try simp only [Kr.PT]); first | done | rfl)))
        refine Kr.seqDoneW ?_
        go_wp2
        refine bodyPost_ret (v := .tuple #[.agg (zH.map w8).toArray, .bool false]) (results_row_tmp rfl _ _ br 25 _ _ _ (by rfl) (H.at 1 rfl) Tryd.underlying25 rfl (by rw [List.size_toArray, h0]; exact infoH) (by rfl)) rfl ⟨rfl, H.g⟩
      · have HA1 : decide (a < 0) = false := decide_eq_false ha0
        have HG2 := Lib.hid (HGB.out (by omega))
        obtain ⟨an, rfl⟩ : ∃ n : Nat, a = (n : Int) := ⟨a.toNat, by omega⟩
        obtain ⟨y, hy⟩ : ∃ z, c * 16#8 = z := ⟨_, rfl⟩; obtain ⟨d, hd⟩ : ∃ z, BitVec.ofNat 8 an = z := ⟨_, rfl⟩; obtain ⟨z, hz⟩ : ∃ z, y + d = z := ⟨_, rfl⟩
        have hset := HC2.out; rw [Int.toNat_natCast, hy, hd, hz] at hset; have HSET := Lib.hid hset; clear hset HC2
        go_upto_region 8 with fail
        refine Kr.seqStartW ?_
        (refine Kr.seqQ (v := ?_) (a' := ?_) (by rfl) ?_ ?_ ?_; rotate_left 2; (focus (go_simp; first | done | rfl)); (focus ((try simp only [Kr.PT]); first | done | rfl)))
        (refine Kr.seqQ (v := .bool false) (a' := ?_) (by rfl) ?_ ?_ ?_; rotate_left 1; (focus (exact Kr.valOf rfl (lssT HA1))); (focus ((try simp only [Kr.PT]); first | done | rfl)))
        refine Kr.seqDoneW ?_
        go_upto_region 10 with fail
        refine Kr.seqStartW ?_
        (refine Kr.seqQ (v := ?_) (a' := ?_) (by rfl) ?_ ?_ ?_; rotate_left 2; (focus (go_simp; first | done | rfl)); (focus ((try simp only [Kr.PT]); first | done | rfl)))
        (refine Kr.seqQ (v := .int .i64 (k : Int)) (a' := ?_) (by rfl) ?_ ?_ ?_; rotate_left 1; (focus (exact Kr.valOf rfl (quoI (by decide) HK.out (by omega)))); (focus ((try simp only [Kr.PT]); first | done | rfl)))
        (refine Kr.seqQ (v := ?_) (a' := ?_) (by rfl) ?_ ?_ ?_; rotate_left 2; (focus (go_simp; first | done | rfl)); (focus ((try simp only [Kr.PT]); first | done | rfl)))
        (refine Kr.seqQ (v := .int .i64 (k : Int)) (a' := ?_) (by rfl) ?_ ?_ ?_; rotate_left 1; (focus (exact Kr.valOf rfl (quoI (by decide) HK.out (by omega)))); (focus ((try simp only [Kr.PT]); first | done | rfl)))
        (refine Kr.seqQ (v := .pointer (some ⟨bh, k, none⟩)) (a' := ?_) (by rfl) ?_ ?_ ?_; rotate_left 1; (focus (exact Kr.valOf rfl (ixH hk32))); (focus ((try simp only [Kr.PT]); first | done | rfl)))
        (refine Kr.seqQ (v := .int .u8 ((c).toNat : Int)) (a' := ?_) (by rfl) ?_ ?_ ?_; rotate_left 1; (focus (exact Kr.valOf rfl (ldE8 (rowCell (H.at 0 rfl) HC1.out)))); (focus ((try simp only [Kr.PT]); first | done | rfl)))
        (refine Kr.seqQ (v := .int .u8 ((y).toNat : Int)) (a' := ?_) (by rfl) ?_ ?_ ?_; rotate_left 1; (focus (exact Kr.valOf rfl (mul16B hy))); (focus ((try simp only [Kr.PT]); first | done | rfl)))
        (refine Kr.seqQ (v := ?_) (a' := ?_) (by rfl) ?_ ?_ ?_; rotate_left 2; (focus (go_simp; first | done | rfl)); (focus ((try simp only [Kr.PT]); first | done | rfl)))
        (refine Kr.seqQ (v := .int .u8 ((d).toNat : Int)) (a' := ?_) (by rfl) ?_ ?_ ?_; rotate_left 1; (focus (exact Kr.valOf rfl (convI8 hd))); (focus ((try simp only [Kr.PT]); first | done | rfl)))
        (refine Kr.seqQ (v := .int .u8 ((z).toNat : Int)) (a' := ?_) (by rfl) ?_ ?_ ?_; rotate_left 1; (focus (exact Kr.valOf rfl (addB hz))); (focus ((try simp only [Kr.PT]); first | done | rfl)))
        (refine Kr.seqQ (v := .pointer (some ⟨bh, k, none⟩)) (a' := ?_) (by rfl) ?_ ?_ ?_; rotate_left 1; (focus (exact Kr.valOf rfl (ixH hk32))); (focus ((try simp only [Kr.PT]); first | done | rfl)))
        refine Kr.seqR (by rfl) (fun K hK => ?_)
        refine wp_run rfl (stE8 (H.cell 0 rfl HC1.out) (H.frozen 0 rfl k)) ?_
        obtain ⟨y5, hy⟩ : ∃ y, wr.setCell ⟨bh, k, none⟩ (.int .u8 ((z).toNat : Int)) = y := ⟨_, rfl⟩
        rw [hy]
        replace H := H.set 0 (k) hy rfl
        dsimp only [List.set] at H
        clear hy
        rw [HSET.out] at H
        (refine Kr.outS hK (a' := ?_) ?_ ?_; rotate_left; (focus ((try simp only [Kr.PT]); first | done | rfl))); clear hK K
        refine Kr.seqDoneW ?_
        have HADD : IntKind.i64.wrap ((i : Int) + 1) = ((i + 1 : Nat) : Int) := wrap_nat (by omega) (by omega)
        go_upto_region 6 with fail
        refine Kr.seqStartW ?_
        (refine Kr.seqQ (v := ?_) (a' := ?_) (by rfl) ?_ ?_ ?_; rotate_left 2; (focus (go_simp; first | done | rfl)); (focus ((try simp only [Kr.PT]); first | done | rfl)))
        (refine Kr.seqQ (v := .int .i64 ((i + 1 : Nat) : Int)) (a' := ?_) (by rfl) ?_ ?_ ?_; rotate_left 1; (focus (exact Kr.valOf rfl (addI HADD))); (focus ((try simp only [Kr.PT]); first | done | rfl)))
        (refine Kr.seqQ (v := ?_) (a' := ?_) (by rfl) ?_ ?_ ?_; rotate_left 2; (focus (go_simp; first | done | rfl)); (focus ((try simp only [Kr.PT]); first | done | rfl)))
        refine Kr.seqDoneW ?_
        go_wp2; go_roundw
        case rel => first | exact ⟨i + 1, by omega, rfl, HG2, Lib.hid H⟩ | exact ⟨_, _, _, ⟨i + 1, by omega, rfl, HG2, Lib.hid H⟩, rfl, rfl, rfl⟩
        case measure => simp [intOf]; omega
set_option linter.unusedSimpArgs false in
set_option maxRecDepth 100000 in
set_option maxHeartbeats 16000000 in
theorem rHex_v {l : List (BitVec 8)} {w : World} (hl : l.length = 32) :
    Calls Tryd.prog 25 #[.agg (l.map w8).toArray] w fun e w' => e = .returned (.string (strB (hexL l))) ∧ Gr w w' := by
  have hl32 : (l.map w8).length = 32 := by rw [List.length_map]; exact hl
  obtain ⟨S, hS⟩ : ∃ S, strB (hexL l) = S := ⟨_, rfl⟩
  rw [hS]; have HSS := Lib.hid hS; clear hS
  have H := Ow.start w
  go_enter Tryd.func25, Tryd.ntmps25
  go_upto_region 0 with fail
  refine Kr.seqStartW ?_
  refine Kr.seqR (by rfl) (fun K hK => ?_)
  refine wp_runV rfl boxH ?_
  obtain ⟨y1, hy⟩ : ∃ y, w.alloc (.cells (l.map w8).toArray 25) = y := ⟨_, rfl⟩
  obtain ⟨ba, hb⟩ : ∃ b, w.heap.size = b := ⟨_, rfl⟩
  rw [hy, hb]
  have hg : Gr w y1 := hy ▸ (Gr.refl _).alloc _
  replace H := H.alloc hy hb
  clear hy hb hg
  (refine Kr.outS hK (a' := ?_) ?_ ?_; rotate_left; (focus ((try simp only [Kr.PT]); first | done | rfl))); clear hK K
  (refine Kr.seqQ (v := ?_) (a' := ?_) (by rfl) ?_ ?_ ?_; rotate_left 2; (focus (go_simp; first | done | rfl)); (focus ((try simp only [Kr.PT]); first | done | rfl)))
  refine Kr.seqDoneW ?_
  go_upto_region 1 with fail
  refine Kr.seqStartW ?_
  (refine Kr.seqQ (v := ?_) (a' := ?_) (by rfl) ?_ ?_ ?_; rotate_left 2; (focus (go_simp; first | done | rfl)); (focus ((try simp only [Kr.PT]); first | done | rfl)))
  refine Kr.seqDoneW ?_
  go_upto_region 2 with fail
  refine Kr.seqStartW ?_
  (refine Kr.seqQ (v := ?_) (a' := ?_) (by rfl) ?_ ?_ ?_; rotate_left 2; (focus (go_simp; first | done | rfl)); (focus ((try simp only [Kr.PT]); first | done | rfl)))
  refine Kr.seqDoneW ?_
  go_upto_region 3 with fail
  refine Kr.seqStartW ?_
  (refine Kr.seqQ (v := ?_) (a' := ?_) (by rfl) ?_ ?_ ?_; rotate_left 2; (focus (go_simp; first | done | rfl)); (focus ((try simp only [Kr.PT]); first | done | rfl)))
  refine Kr.seqDoneW ?_
  have h0 : Hid (RowG 5 w.heap.size (.slice none 0 0) ((hexL (l.take 0)).map w8) y1) := Lib.hid (RowG.nil _ _ _)
  have H2 := Lib.hid H; clear H
  go_wp2_with fail
  go_loopw [4, 5] (fun v iv wr => ∃ i : Nat, i ≤ 32 ∧ iv = .int .i64 (i : Int) ∧ Hid (RowG 5 w.heap.size v ((hexL (l.take i)).map w8) wr) ∧ Hid (Apt v [(ba, 25, l.map w8)]) ∧ Hid (Ow w wr [(ba, 25, l.map w8)])) (fun _ iv _ => 32 - (intOf iv).toNat)
  case atStart => exact ⟨0, Nat.zero_le _, rfl, h0, Lib.hid (Apt.nil _), H2⟩
  case round =>
    clear H2 h0; obtain ⟨i, hi, rfl, HR, HA, HH⟩ := hrel; have H := HH.out; replace HA := HA.out; clear HH
    have hrl : ((hexL (l.take i)).map w8).length = 2 * i := by rw [List.length_map, hexL_length, List.length_take, hl]; omega
    by_cases hie : i = 32
    · have HC : decide ((i : Int) < 32) = false := decide_eq_false (by omega)
      rw [show l.take i = l from List.take_of_length_le (by omega)] at HR hrl; clear hie
      obtain ⟨p, c, rfl, _, _, hsrc⟩ := HR.out.src
      have HSRC := Lib.hid (srcB_of hsrc); clear hsrc HR HA
      obtain ⟨m, hm⟩ : ∃ m, (hexL l).length = m := ⟨_, rfl⟩
      rw [List.length_map, hm]
      go_upto_region 4 with fail
      refine Kr.seqStartW ?_
      (refine Kr.seqQ (v := ?_) (a' := ?_) (by rfl) ?_ ?_ ?_; rotate_left 2; (focus (go_simp; first | done | rfl)); (focus ((try simp only [Kr.PT]); first | done | rfl)))
      (refine Kr.seqQ (v := .bool false) (a' := ?_) (by rfl) ?_ ?_ ?_; rotate_left 1; (focus (exact Kr.valOf rfl (lssT HC))); (focus ((try simp only [Kr.PT]); first | done | rfl)))
      refine Kr.seqDoneW ?_
      go_upto_region 7 with fail
      refine Kr.seqStartW ?_
      (refine Kr.seqQ (v := ?_) (a' := ?_) (by rfl) ?_ ?_ ?_; rotate_left 2; (focus (go_simp; first | done | rfl)); (focus ((try simp only [Kr.PT]); first | done | rfl)))
      (refine Kr.seqQ (v := .string S) (a' := ?_) (by rfl) ?_ ?_ ?_; rotate_left 1; (focus (exact Kr.valOf rfl ((by rw [← HSS.out]; exact run_str HSRC.out hm)))); (focus ((try simp only [Kr.PT]); first | done | rfl)))
      (refine Kr.seqQ (v := ?_) (a' := ?_) (by rfl) ?_ ?_ ?_; rotate_left 2; (focus (go_simp; first | done | rfl)); (focus ((try simp only [Kr.PT]); first | done | rfl)))
      refine Kr.seqDoneW ?_
      have hk := trivial
      go_wp2
      refine bodyPost_ret (v := .string S) (by simp [results, Tryd.results25, go_sem, hk]) rfl ⟨rfl, H.g⟩
    · have hil : i < 32 := by omega
      have HC : decide ((i : Int) < 32) = true := decide_eq_true (by omega)
      obtain ⟨x0, hx0⟩ : ∃ x, l.getD i 0 = x := ⟨_, rfl⟩
      have hgx : l[i]? = some x0 := hx0 ▸ getD_of (by omega)
      obtain ⟨q0, hq0⟩ : ∃ q, x0.toNat / 16 = q := ⟨_, rfl⟩
      obtain ⟨q1, hq1⟩ : ∃ q, x0.toNat % 16 = q := ⟨_, rfl⟩
      have hq0l : q0 < 16 := by have := x0.isLt; omega
      have hq1l : q1 < 16 := by omega
      obtain ⟨d0, hd0⟩ : ∃ d, dig q0 = d := ⟨_, rfl⟩
      obtain ⟨d1, hd1⟩ : ∃ d, dig q1 = d := ⟨_, rfl⟩
      have htk : (hexL (l.take (i + 1))).map w8 = (hexL (l.take i)).map w8 ++ [d0, d1].map w8 := by rw [List.take_add_one, hgx, ← List.map_append]; exact congrArg (List.map w8) ((hexL_snoc _ _).trans (by rw [two, hq0, hq1, hd0, hd1]))
      have HTK := Lib.hid htk; clear htk hx0
      go_upto_region 4 with fail
      refine Kr.seqStartW ?_
      (refine Kr.seqQ (v := ?_) (a' := ?_) (by rfl) ?_ ?_ ?_; rotate_left 2; (focus (go_simp; first | done | rfl)); (focus ((try simp only [Kr.PT]); first | done | rfl)))
      (refine Kr.seqQ (v := .bool true) (a' := ?_) (by rfl) ?_ ?_ ?_; rotate_left 1; (focus (exact Kr.valOf rfl (lssT HC))); (focus ((try simp only [Kr.PT]); first | done | rfl)))
      refine Kr.seqDoneW ?_
      go_upto_region 6 with fail
      refine Kr.startL (fun W' => (W'.heap[ba]? = some (.cells (l.map w8).toArray 25 (0, 0))) ∧ True) [14] (by kernel_rfl) ?_
      have gd : Gr wr wr.drew := (Gr.refl _).drew
      generalize wr.drew = d2 at gd ⊢
      replace H := H.grow gd
      replace HR := Lib.hid (HR.out.grow gd)
      clear gd
      (refine Kr.tPQ 0 (v := ?_) (a' := ?_) rfl (by kernel_rfl) (fun _ _ _ h => h) (by rfl) (fun _ => ⟨(H.at 0 rfl), trivial⟩) (fun wx => ?_) ?_ ?_; rotate_left 2; (focus (go_simp; first | done | rfl)); (focus ((try simp only [Kr.PT]); first | done | rfl)))
      (refine Kr.tPQ 1 (v := ?_) (a' := ?_) rfl (by kernel_rfl) (fun _ _ _ h => h) (by rfl) (fun _ => ⟨(H.at 0 rfl), trivial⟩) (fun wx => ?_) ?_ ?_; rotate_left 2; (focus (go_simp; first | done | rfl)); (focus ((try simp only [Kr.PT]); first | done | rfl)))
      (refine Kr.tPQ 2 (v := ?_) (a' := ?_) rfl (by kernel_rfl) (fun _ _ _ h => h) (by rfl) (fun _ => ⟨(H.at 0 rfl), trivial⟩) (fun wx => ?_) ?_ ?_; rotate_left 2; (focus (go_simp; first | done | rfl)); (focus ((try simp only [Kr.PT]); first | done | rfl)))
      (refine Kr.tPQ 3 (v := .pointer (some ⟨ba, i, none⟩)) (a' := ?_) rfl (by kernel_rfl) (fun _ _ _ h => h) (by rfl) (fun _ => ⟨(H.at 0 rfl), trivial⟩) (fun wx => ?_) ?_ ?_; rotate_left 1; (focus (exact Kr.valOf rfl (ixH hil))); (focus ((try simp only [Kr.PT]); first | done | rfl)))
      (refine Kr.tSQ 4 [5, 6, 13, 14, 15] (v := .int .u8 ((x0).toNat : Int)) (a' := ?_) rfl (by kernel_rfl) (fun _ _ _ h => h) (by rfl) ⟨(H.at 0 rfl), trivial⟩ (fun wx hSx => ?_) ?_ ?_; rotate_left 1; (focus (exact Kr.valOf rfl (ldE8 (rowCell hSx.1 (map_get8 hgx))))); (focus ((try simp only [Kr.PT]); first | done | rfl)))
      (refine Kr.tPQ 5 (v := .int .u8 (q0 : Int)) (a' := ?_) rfl (by kernel_rfl) (fun _ _ _ h => h) (by rfl) (fun _ => ⟨(H.at 0 rfl), trivial⟩) (fun wx => ?_) ?_ ?_; rotate_left 1; (focus (exact Kr.valOf rfl (quoB16 hq0))); (focus ((try simp only [Kr.PT]); first | done | rfl)))
      (refine Kr.tPQ 6 (v := .int .u8 ((d0).toNat : Int)) (a' := ?_) rfl (by kernel_rfl) (fun _ _ _ h => h) (by rfl) (fun _ => ⟨(H.at 0 rfl), trivial⟩) (fun wx => ?_) ?_ ?_; rotate_left 1; (focus (exact Kr.valOf rfl ((by rw [← hd0]; exact atHex q0 hq0l _)))); (focus ((try simp only [Kr.PT]); first | done | rfl)))
      (refine Kr.tPQ 7 (v := ?_) (a' := ?_) rfl (by kernel_rfl) (fun _ _ _ h => h) (by rfl) (fun _ => ⟨(H.at 0 rfl), trivial⟩) (fun wx => ?_) ?_ ?_; rotate_left 2; (focus (go_simp; first | done | rfl)); (focus ((try simp only [Kr.PT]); first | done | rfl)))
      (refine Kr.tPQ 8 (v := ?_) (a' := ?_) rfl (by kernel_rfl) (fun _ _ _ h => h) (by rfl) (fun _ => ⟨(H.at 0 rfl), trivial⟩) (fun wx => ?_) ?_ ?_; rotate_left 2; (focus (go_simp; first | done | rfl)); (focus ((try simp only [Kr.PT]); first | done | rfl)))
      (refine Kr.tPQ 9 (v := .pointer (some ⟨ba, i, none⟩)) (a' := ?_) rfl (by kernel_rfl) (fun _ _ _ h => h) (by rfl) (fun _ => ⟨(H.at 0 rfl), trivial⟩) (fun wx => ?_) ?_ ?_; rotate_left 1; (focus (exact Kr.valOf rfl (ixH hil))); (focus ((try simp only [Kr.PT]); first | done | rfl)))
      (refine Kr.tSQ 10 [11, 12, 13, 14, 15] (v := .int .u8 ((x0).toNat : Int)) (a' := ?_) rfl (by kernel_rfl) (fun _ _ _ h => h) (by rfl) ⟨(H.at 0 rfl), trivial⟩ (fun wx hSx => ?_) ?_ ?_; rotate_left 1; (focus (exact Kr.valOf rfl (ldE8 (rowCell hSx.1 (map_get8 hgx))))); (focus ((try simp only [Kr.PT]); first | done | rfl)))
      (refine Kr.tPQ 11 (v := .int .u8 (q1 : Int)) (a' := ?_) rfl (by kernel_rfl) (fun _ _ _ h => h) (by rfl) (fun _ => ⟨(H.at 0 rfl), trivial⟩) (fun wx => ?_) ?_ ?_; rotate_left 1; (focus (exact Kr.valOf rfl (remB16 hq1))); (focus ((try simp only [Kr.PT]); first | done | rfl)))
      (refine Kr.tPQ 12 (v := .int .u8 ((d1).toNat : Int)) (a' := ?_) rfl (by kernel_rfl) (fun _ _ _ h => h) (by rfl) (fun _ => ⟨(H.at 0 rfl), trivial⟩) (fun wx => ?_) ?_ ?_; rotate_left 1; (focus (exact Kr.valOf rfl ((by rw [← hd1]; exact atHex q1 hq1l _)))); (focus ((try simp only [Kr.PT]); first | done | rfl)))
      refine Kr.readyL (rs := [13]) (by kernel_rfl) (by simp) ?_
      refine Kr.AllL.cons rfl (fun K hK => ?_) Kr.AllL.nil
      go_simp
      obtain ⟨y3, hy⟩ : ∃ y, d2.alloc (.cells #[.int .u8 ((d0).toNat : Int), .int .u8 ((d1).toNat : Int)] 5) = y := ⟨_, rfl⟩
      obtain ⟨bone, hbn⟩ : ∃ b, d2.heap.size = b := ⟨_, rfl⟩
      rw [hy, hbn]
      have hy2 : d2.alloc (.cells ([.int .u8 ((d0).toNat : Int), .int .u8 ((d1).toNat : Int)] : List Value).toArray 5) = y3 := hy
      have hg : Gr d2 y3 := hy ▸ (Gr.refl _).alloc _
      have HLIT := Lib.hid (hbn ▸ hy2 ▸ lit_src (W := d2) (T := 5) [.int .u8 ((d0).toNat : Int), .int .u8 ((d1).toNat : Int)]); clear hy2
      replace H := H.grow hg
      replace HR := Lib.hid (HR.out.grow hg)
      clear hg hy hbn
      (refine Kr.outL hK (a' := ?_) ?_ (fun _ => ⟨(H.at 0 rfl), trivial⟩) ?_; rotate_left; (focus ((try simp only [Kr.PT]); first | done | rfl))); clear hK K
      refine Kr.readyL (rs := [14]) (by kernel_rfl) (by simp) ?_
      refine Kr.AllL.cons rfl (fun K hK => ?_) Kr.AllL.nil
      rw [if_pos (by rfl)]
      refine wp_appG (T := 5) (TS := 22) Tryd.underlying22 info8 rfl (.tmp 10) (.tmp 23) rfl (v := u4) (r := ((hexL (l.take i)).map w8)) (d := ([d0, d1].map w8)) (p := (some ⟨bone, 0, none⟩)) (m := 2) (c := 2) (rs := [(ba, 25, l.map w8)]) rfl rfl (rfl) (HLIT.out) (one_lit8 [d0, d1]) (fun e => by cases e) H HR.out HA (by rw [hrl]; omega) (by decide) ?_
      intro v1 y4 H3 hR3 hA3
      clear H HR HA HLIT; have H := H3; have HR := Lib.hid hR3; have HA := hA3; clear H3 hR3 hA3
      (refine Kr.outL hK (a' := ?_) ?_ (Kr.noStill (by kernel_rfl)) ?_; rotate_left; (focus ((try simp only [Kr.PT]); first | done | rfl))); clear hK K
      (refine Kr.tPQ 15 (v := ?_) (a' := ?_) rfl (by kernel_rfl) (fun _ _ _ h => h) (by rfl) (Kr.noStill (by kernel_rfl)) (fun wx => ?_) ?_ ?_; rotate_left 2; (focus (go_simp; first | done | rfl)); (focus ((try simp only [Kr.PT]); first | done | rfl)))
      refine Kr.doneL (by kernel_rfl) ?_ _
      rw [← HTK.out] at HR
      have HADD : IntKind.i64.wrap ((i : Int) + 1) = ((i + 1 : Nat) : Int) := wrap_nat (by omega) (by omega)
      go_upto_region 5 with fail
      refine Kr.seqStartW ?_
      (refine Kr.seqQ (v := ?_) (a' := ?_) (by rfl) ?_ ?_ ?_; rotate_left 2; (focus (go_simp; first | done | rfl)); (focus ((try simp only [Kr.PT]); first | done | rfl)))
      (refine Kr.seqQ (v := .int .i64 ((i + 1 : Nat) : Int)) (a' := ?_) (by rfl) ?_ ?_ ?_; rotate_left 1; (focus (exact Kr.valOf rfl (addI HADD))); (focus ((try simp only [Kr.PT]); first | done | rfl)))
      (refine Kr.seqQ (v := ?_) (a' := ?_) (by rfl) ?_ ?_ ?_; rotate_left 2; (focus (go_simp; first | done | rfl)); (focus ((try simp only [Kr.PT]); first | done | rfl)))
      refine Kr.seqDoneW ?_
      go_wp2; go_roundw
      case rel => exact ⟨i + 1, by omega, rfl, HR, Lib.hid HA, Lib.hid H⟩
      case measure => simp [intOf]; omega
set_option linter.unusedSimpArgs false in
set_option maxRecDepth 100000 in
set_option maxHeartbeats 16000000 in
theorem rCompare_v {l m : List (BitVec 8)} {w : World} (hl : l.length = 32) (hm : m.length = 32) :
    Calls Tryd.prog 27 #[.agg (l.map w8).toArray, .agg (m.map w8).toArray] w fun e w' => e = .returned (.int .i64 (Lib.compareBytes (u8 l) (u8 m))) ∧ Gr w w' := by
  have hl32 : (l.map w8).length = 32 := by rw [List.length_map]; exact hl
  have hm32 : (m.map w8).length = 32 := by rw [List.length_map]; exact hm
  obtain ⟨z, hz⟩ : ∃ z, Lib.compareBytes (u8 l) (u8 m) = z := ⟨_, rfl⟩; rw [hz]; have HZ0 : Hid (Lib.compareBytes (Dg.u8 (l.drop 0)) (Dg.u8 (m.drop 0)) = z) := Lib.hid hz; clear hz
  have H := Ow.start w
  go_enter Tryd.func27, Tryd.ntmps27
  go_upto_region 0 with fail
  refine Kr.seqStartW ?_
  refine Kr.seqR (by rfl) (fun K hK => ?_)
  refine wp_runV rfl boxH ?_
  obtain ⟨y1, hy⟩ : ∃ y, w.alloc (.cells (l.map w8).toArray 25) = y := ⟨_, rfl⟩
  obtain ⟨ba, hb⟩ : ∃ b, w.heap.size = b := ⟨_, rfl⟩
  rw [hy, hb]
  have hg : Gr w y1 := hy ▸ (Gr.refl _).alloc _
  replace H := H.alloc hy hb
  clear hy hb hg
  (refine Kr.outS hK (a' := ?_) ?_ ?_; rotate_left; (focus ((try simp only [Kr.PT]); first | done | rfl))); clear hK K
  refine Kr.seqR (by rfl) (fun K hK => ?_)
  refine wp_runV rfl boxH ?_
  obtain ⟨y2, hy⟩ : ∃ y, y1.alloc (.cells (m.map w8).toArray 25) = y := ⟨_, rfl⟩
  obtain ⟨bc, hb⟩ : ∃ b, y1.heap.size = b := ⟨_, rfl⟩
  rw [hy, hb]
  have hg : Gr y1 y2 := hy ▸ (Gr.refl _).alloc _
  replace H := H.alloc hy hb
  clear hy hb hg
  (refine Kr.outS hK (a' := ?_) ?_ ?_; rotate_left; (focus ((try simp only [Kr.PT]); first | done | rfl))); clear hK K
  (refine Kr.seqQ (v := ?_) (a' := ?_) (by rfl) ?_ ?_ ?_; rotate_left 2; (focus (go_simp; first | done | rfl)); (focus ((try simp only [Kr.PT]); first | done | rfl)))
  refine Kr.seqDoneW ?_
  go_upto_region 1 with fail
  refine Kr.seqStartW ?_
  (refine Kr.seqQ (v := ?_) (a' := ?_) (by rfl) ?_ ?_ ?_; rotate_left 2; (focus (go_simp; first | done | rfl)); (focus ((try simp only [Kr.PT]); first | done | rfl)))
  refine Kr.seqDoneW ?_
  have H2 := Lib.hid H; clear H
  go_wp2_with fail
  go_loopw [5] (fun iv wr => ∃ i : Nat, i ≤ 32 ∧ iv = .int .i64 (i : Int) ∧ Hid (Lib.compareBytes (Dg.u8 (l.drop i)) (Dg.u8 (m.drop i)) = z) ∧ Hid (Ow w wr [(bc, 25, m.map w8), (ba, 25, l.map w8)])) (fun iv _ => 32 - (intOf iv).toNat)
  case atStart => exact ⟨0, Nat.zero_le _, rfl, HZ0, H2⟩
  case round =>
    clear H2 HZ0; obtain ⟨i, hi, rfl, HZ, HH⟩ := hrel; have H := HH.out; clear HH
    by_cases hie : i = 32
    · have HC : decide ((i : Int) < 32) = false := decide_eq_false (by omega)
      have hz0 : z = 0 := by rw [← HZ.out, List.drop_of_length_le (by omega), List.drop_of_length_le (by omega)]; rfl
      subst hz0; clear hie
      go_upto_region 2 with fail
      refine Kr.seqStartW ?_
      (refine Kr.seqQ (v := ?_) (a' := ?_) (by rfl) ?_ ?_ ?_; rotate_left 2; (focus (go_simp; first | done | rfl)); (focus ((try simp only [Kr.PT]); first | done | rfl)))
      (refine Kr.seqQ (v := .bool false) (a' := ?_) (by rfl) ?_ ?_ ?_; rotate_left 1; (focus (exact Kr.valOf rfl (lssT HC))); (focus ((try simp only [Kr.PT]); first | done | rfl)))
      refine Kr.seqDoneW ?_
      go_upto_region 8 with fail
      refine Kr.seqStartW ?_
      (refine Kr.seqQ (v := ?_) (a' := ?_) (by rfl) ?_ ?_ ?_; rotate_left 2; (focus (go_simp; first | done | rfl)); (focus ((try simp only [Kr.PT]); first | done | rfl)))
      refine Kr.seqDoneW ?_
      have hk := trivial
      go_wp2
      refine bodyPost_ret (v := .int .i64 0) (by simp [results, Tryd.results27, go_sem, hk]) rfl ⟨rfl, H.g⟩
    · have hil : i < 32 := by omega
      have HC : decide ((i : Int) < 32) = true := decide_eq_true (by omega)
      obtain ⟨x, hx⟩ : ∃ x, l[i]? = some x := ⟨_, List.getElem?_eq_getElem (by omega)⟩; obtain ⟨y, hy⟩ : ∃ x, m[i]? = some x := ⟨_, List.getElem?_eq_getElem (by omega)⟩
      have hst := cmp_step hx hy; rw [HZ.out] at hst; have HX := Lib.hid (map_get8 hx); have HY := Lib.hid (map_get8 hy); have HST := Lib.hid hst; clear hx hy hst
      go_upto_region 2 with fail
      refine Kr.seqStartW ?_
      (refine Kr.seqQ (v := ?_) (a' := ?_) (by rfl) ?_ ?_ ?_; rotate_left 2; (focus (go_simp; first | done | rfl)); (focus ((try simp only [Kr.PT]); first | done | rfl)))
      (refine Kr.seqQ (v := .bool true) (a' := ?_) (by rfl) ?_ ?_ ?_; rotate_left 1; (focus (exact Kr.valOf rfl (lssT HC))); (focus ((try simp only [Kr.PT]); first | done | rfl)))
      refine Kr.seqDoneW ?_
      by_cases hxy : x.toNat < y.toNat
      · have C1 : decide ((x.toNat : Int) < (y.toNat : Int)) = true := decide_eq_true (by omega)
        have hz0 : z = -1 := by rw [HST.out, if_pos hxy]
        subst hz0
        go_upto_region 4 with fail
        refine Kr.startL (fun W' => (W'.heap[ba]? = some (.cells (l.map w8).toArray 25 (0, 0))) ∧ (W'.heap[bc]? = some (.cells (m.map w8).toArray 25 (0, 0))) ∧ True) [] (by kernel_rfl) ?_
        have gd : Gr wr wr.drew := (Gr.refl _).drew
        generalize wr.drew = d3 at gd ⊢
        replace H := H.grow gd
        clear gd
        (refine Kr.tPQ 0 (v := ?_) (a' := ?_) rfl (by kernel_rfl) (fun _ _ _ h => h) (by rfl) (fun _ => ⟨(H.at 1 rfl), (H.at 0 rfl), trivial⟩) (fun wx => ?_) ?_ ?_; rotate_left 2; (focus (go_simp; first | done | rfl)); (focus ((try simp only [Kr.PT]); first | done | rfl)))
        (refine Kr.tPQ 1 (v := .pointer (some ⟨ba, i, none⟩)) (a' := ?_) rfl (by kernel_rfl) (fun _ _ _ h => h) (by rfl) (fun _ => ⟨(H.at 1 rfl), (H.at 0 rfl), trivial⟩) (fun wx => ?_) ?_ ?_; rotate_left 1; (focus (exact Kr.valOf rfl (ixH hil))); (focus ((try simp only [Kr.PT]); first | done | rfl)))
        (refine Kr.tSQ 2 [] (v := .int .u8 ((x).toNat : Int)) (a' := ?_) rfl (by kernel_rfl) (fun _ _ _ h => h) (by rfl) ⟨(H.at 1 rfl), (H.at 0 rfl), trivial⟩ (fun wx hSx => ?_) ?_ ?_; rotate_left 1; (focus (exact Kr.valOf rfl (ldE8 (rowCell hSx.1 HX.out)))); (focus ((try simp only [Kr.PT]); first | done | rfl)))
        (refine Kr.tPQ 3 (v := ?_) (a' := ?_) rfl (by kernel_rfl) (fun _ _ _ h => h) (by rfl) (fun _ => ⟨(H.at 1 rfl), (H.at 0 rfl), trivial⟩) (fun wx => ?_) ?_ ?_; rotate_left 2; (focus (go_simp; first | done | rfl)); (focus ((try simp only [Kr.PT]); first | done | rfl)))
        (refine Kr.tPQ 4 (v := .pointer (some ⟨bc, i, none⟩)) (a' := ?_) rfl (by kernel_rfl) (fun _ _ _ h => h) (by rfl) (fun _ => ⟨(H.at 1 rfl), (H.at 0 rfl), trivial⟩) (fun wx => ?_) ?_ ?_; rotate_left 1; (focus (exact Kr.valOf rfl (ixH hil))); (focus ((try simp only [Kr.PT]); first | done | rfl)))
        (refine Kr.tSQ 5 [] (v := .int .u8 ((y).toNat : Int)) (a' := ?_) rfl (by kernel_rfl) (fun _ _ _ h => h) (by rfl) ⟨(H.at 1 rfl), (H.at 0 rfl), trivial⟩ (fun wx hSx => ?_) ?_ ?_; rotate_left 1; (focus (exact Kr.valOf rfl (ldE8 (rowCell hSx.2.1 HY.out)))); (focus ((try simp only [Kr.PT]); first | done | rfl)))
        (refine Kr.tPQ 6 (v := .bool true) (a' := ?_) rfl (by kernel_rfl) (fun _ _ _ h => h) (by rfl) (fun _ => ⟨(H.at 1 rfl), (H.at 0 rfl), trivial⟩) (fun wx => ?_) ?_ ?_; rotate_left 1; (focus (exact Kr.valOf rfl (lssB C1))); (focus ((try simp only [Kr.PT]); first | done | rfl)))
        refine Kr.doneL (by kernel_rfl) ?_ _
        go_upto_region 5 with fail
        refine Kr.seqStartW ?_
        (refine Kr.seqQ (v := ?_) (a' := ?_) (by rfl) ?_ ?_ ?_; rotate_left 2; (focus (go_simp; first | done | rfl)); (focus ((try simp only [Kr.PT]); first | done | rfl)))
        refine Kr.seqDoneW ?_
        have hk := trivial
        go_wp2
        refine bodyPost_ret (v := .int .i64 (-1)) (by simp [results, Tryd.results27, go_sem, hk]) rfl ⟨rfl, H.g⟩
      · have C1 : decide ((x.toNat : Int) < (y.toNat : Int)) = false := decide_eq_false (by omega)
        by_cases hyx : y.toNat < x.toNat
        · have C2 : decide ((y.toNat : Int) < (x.toNat : Int)) = true := decide_eq_true (by omega)
          have hz0 : z = 1 := by rw [HST.out, if_neg hxy, if_pos hyx]
          subst hz0
          go_upto_region 4 with fail
          refine Kr.startL (fun W' => (W'.heap[ba]? = some (.cells (l.map w8).toArray 25 (0, 0))) ∧ (W'.heap[bc]? = some (.cells (m.map w8).toArray 25 (0, 0))) ∧ True) [] (by kernel_rfl) ?_
          have gd : Gr wr wr.drew := (Gr.refl _).drew
          generalize wr.drew = d4 at gd ⊢
          replace H := H.grow gd
          clear gd
          (refine Kr.tPQ 0 (v := ?_) (a' := ?_) rfl (by kernel_rfl) (fun _ _ _ h => h) (by rfl) (fun _ => ⟨(H.at 1 rfl), (H.at 0 rfl), trivial⟩) (fun wx => ?_) ?_ ?_; rotate_left 2; (focus (go_simp; first | done | rfl)); (focus ((try simp only [Kr.PT]); first | done | rfl)))
          (refine Kr.tPQ 1 (v := .pointer (some ⟨ba, i, none⟩)) (a' := ?_) rfl (by kernel_rfl) (fun _ _ _ h => h) (by rfl) (fun _ => ⟨(H.at 1 rfl), (H.at 0 rfl), trivial⟩) (fun wx => ?_) ?_ ?_; rotate_left 1; (focus (exact Kr.valOf rfl (ixH hil))); (focus ((try simp only [Kr.PT]); first | done | rfl)))
          (refine Kr.tSQ 2 [] (v := .int .u8 ((x).toNat : Int)) (a' := ?_) rfl (by kernel_rfl) (fun _ _ _ h => h) (by rfl) ⟨(H.at 1 rfl), (H.at 0 rfl), trivial⟩ (fun wx hSx => ?_) ?_ ?_; rotate_left 1; (focus (exact Kr.valOf rfl (ldE8 (rowCell hSx.1 HX.out)))); (focus ((try simp only [Kr.PT]); first | done | rfl)))
          (refine Kr.tPQ 3 (v := ?_) (a' := ?_) rfl (by kernel_rfl) (fun _ _ _ h => h) (by rfl) (fun _ => ⟨(H.at 1 rfl), (H.at 0 rfl), trivial⟩) (fun wx => ?_) ?_ ?_; rotate_left 2; (focus (go_simp; first | done | rfl)); (focus ((try simp only [Kr.PT]); first | done | rfl)))
          (refine Kr.tPQ 4 (v := .pointer (some ⟨bc, i, none⟩)) (a' := ?_) rfl (by kernel_rfl) (fun _ _ _ h => h) (by rfl) (fun _ => ⟨(H.at 1 rfl), (H.at 0 rfl), trivial⟩) (fun wx => ?_) ?_ ?_; rotate_left 1; (focus (exact Kr.valOf rfl (ixH hil))); (focus ((try simp only [Kr.PT]); first | done | rfl)))
          (refine Kr.tSQ 5 [] (v := .int .u8 ((y).toNat : Int)) (a' := ?_) rfl (by kernel_rfl) (fun _ _ _ h => h) (by rfl) ⟨(H.at 1 rfl), (H.at 0 rfl), trivial⟩ (fun wx hSx => ?_) ?_ ?_; rotate_left 1; (focus (exact Kr.valOf rfl (ldE8 (rowCell hSx.2.1 HY.out)))); (focus ((try simp only [Kr.PT]); first | done | rfl)))
          (refine Kr.tPQ 6 (v := .bool false) (a' := ?_) rfl (by kernel_rfl) (fun _ _ _ h => h) (by rfl) (fun _ => ⟨(H.at 1 rfl), (H.at 0 rfl), trivial⟩) (fun wx => ?_) ?_ ?_; rotate_left 1; (focus (exact Kr.valOf rfl (lssB C1))); (focus ((try simp only [Kr.PT]); first | done | rfl)))
          refine Kr.doneL (by kernel_rfl) ?_ _
          go_upto_region 6 with fail
          refine Kr.startL (fun W' => (W'.heap[ba]? = some (.cells (l.map w8).toArray 25 (0, 0))) ∧ (W'.heap[bc]? = some (.cells (m.map w8).toArray 25 (0, 0))) ∧ True) [] (by kernel_rfl) ?_
          have gd : Gr d4 d4.drew := (Gr.refl _).drew
          generalize d4.drew = d5 at gd ⊢
          replace H := H.grow gd
          clear gd
          (refine Kr.tPQ 0 (v := ?_) (a' := ?_) rfl (by kernel_rfl) (fun _ _ _ h => h) (by rfl) (fun _ => ⟨(H.at 1 rfl), (H.at 0 rfl), trivial⟩) (fun wx => ?_) ?_ ?_; rotate_left 2; (focus (go_simp; first | done | rfl)); (focus ((try simp only [Kr.PT]); first | done | rfl)))
          (refine Kr.tPQ 1 (v := .pointer (some ⟨ba, i, none⟩)) (a' := ?_) rfl (by kernel_rfl) (fun _ _ _ h => h) (by rfl) (fun _ => ⟨(H.at 1 rfl), (H.at 0 rfl), trivial⟩) (fun wx => ?_) ?_ ?_; rotate_left 1; (focus (exact Kr.valOf rfl (ixH hil))); (focus ((try simp only [Kr.PT]); first | done | rfl)))
          (refine Kr.tSQ 2 [] (v := .int .u8 ((x).toNat : Int)) (a' := ?_) rfl (by kernel_rfl) (fun _ _ _ h => h) (by rfl) ⟨(H.at 1 rfl), (H.at 0 rfl), trivial⟩ (fun wx hSx => ?_) ?_ ?_; rotate_left 1; (focus (exact Kr.valOf rfl (ldE8 (rowCell hSx.1 HX.out)))); (focus ((try simp only [Kr.PT]); first | done | rfl)))
          (refine Kr.tPQ 3 (v := ?_) (a' := ?_) rfl (by kernel_rfl) (fun _ _ _ h => h) (by rfl) (fun _ => ⟨(H.at 1 rfl), (H.at 0 rfl), trivial⟩) (fun wx => ?_) ?_ ?_; rotate_left 2; (focus (go_simp; first | done | rfl)); (focus ((try simp only [Kr.PT]); first | done | rfl)))
          (refine Kr.tPQ 4 (v := .pointer (some ⟨bc, i, none⟩)) (a' := ?_) rfl (by kernel_rfl) (fun _ _ _ h => h) (by rfl) (fun _ => ⟨(H.at 1 rfl), (H.at 0 rfl), trivial⟩) (fun wx => ?_) ?_ ?_; rotate_left 1; (focus (exact Kr.valOf rfl (ixH hil))); (focus ((try simp only [Kr.PT]); first | done | rfl)))
          (refine Kr.tSQ 5 [] (v := .int .u8 ((y).toNat : Int)) (a' := ?_) rfl (by kernel_rfl) (fun _ _ _ h => h) (by rfl) ⟨(H.at 1 rfl), (H.at 0 rfl), trivial⟩ (fun wx hSx => ?_) ?_ ?_; rotate_left 1; (focus (exact Kr.valOf rfl (ldE8 (rowCell hSx.2.1 HY.out)))); (focus ((try simp only [Kr.PT]); first | done | rfl)))
          (refine Kr.tPQ 6 (v := .bool true) (a' := ?_) rfl (by kernel_rfl) (fun _ _ _ h => h) (by rfl) (fun _ => ⟨(H.at 1 rfl), (H.at 0 rfl), trivial⟩) (fun wx => ?_) ?_ ?_; rotate_left 1; (focus (exact Kr.valOf rfl (gtrB C2))); (focus ((try simp only [Kr.PT]); first | done | rfl)))
          refine Kr.doneL (by kernel_rfl) ?_ _
          go_upto_region 7 with fail
          refine Kr.seqStartW ?_
          (refine Kr.seqQ (v := ?_) (a' := ?_) (by rfl) ?_ ?_ ?_; rotate_left 2; (focus (go_simp; first | done | rfl)); (focus ((try simp only [Kr.PT]); first | done | rfl)))
          refine Kr.seqDoneW ?_
          have hk := trivial
          go_wp2
          refine bodyPost_ret (v := .int .i64 1) (by simp [results, Tryd.results27, go_sem, hk]) rfl ⟨rfl, H.g⟩
        · have C2 : decide ((y.toNat : Int) < (x.toNat : Int)) = false := decide_eq_false (by omega)
          have HZ2 : Hid (Lib.compareBytes (Dg.u8 (l.drop (i + 1))) (Dg.u8 (m.drop (i + 1))) = z) := Lib.hid (by rw [HST.out, if_neg hxy, if_neg hyx])
          go_upto_region 4 with fail
          refine Kr.startL (fun W' => (W'.heap[ba]? = some (.cells (l.map w8).toArray 25 (0, 0))) ∧ (W'.heap[bc]? = some (.cells (m.map w8).toArray 25 (0, 0))) ∧ True) [] (by kernel_rfl) ?_
          have gd : Gr wr wr.drew := (Gr.refl _).drew
          generalize wr.drew = d6 at gd ⊢
          replace H := H.grow gd
          clear gd
          (refine Kr.tPQ 0 (v := ?_) (a' := ?_) rfl (by kernel_rfl) (fun _ _ _ h => h) (by rfl) (fun _ => ⟨(H.at 1 rfl), (H.at 0 rfl), trivial⟩) (fun wx => ?_) ?_ ?_; rotate_left 2; (focus (go_simp; first | done | rfl)); (focus ((try simp only [Kr.PT]); first | done | rfl)))
          (refine Kr.tPQ 1 (v := .pointer (some ⟨ba, i, none⟩)) (a' := ?_) rfl (by kernel_rfl) (fun _ _ _ h => h) (by rfl) (fun _ => ⟨(H.at 1 rfl), (H.at 0 rfl), trivial⟩) (fun wx => ?_) ?_ ?_; rotate_left 1; (focus (exact Kr.valOf rfl (ixH hil))); (focus ((try simp only [Kr.PT]); first | done | rfl)))
          (refine Kr.tSQ 2 [] (v := .int .u8 ((x).toNat : Int)) (a' := ?_) rfl (by kernel_rfl) (fun _ _ _ h => h) (by rfl) ⟨(H.at 1 rfl), (H.at 0 rfl), trivial⟩ (fun wx hSx => ?_) ?_ ?_; rotate_left 1; (focus (exact Kr.valOf rfl (ldE8 (rowCell hSx.1 HX.out)))); (focus ((try simp only [Kr.PT]); first | done | rfl)))
          (refine Kr.tPQ 3 (v := ?_) (a' := ?_) rfl (by kernel_rfl) (fun _ _ _ h => h) (by rfl) (fun _ => ⟨(H.at 1 rfl), (H.at 0 rfl), trivial⟩) (fun wx => ?_) ?_ ?_; rotate_left 2; (focus (go_simp; first | done | rfl)); (focus ((try simp only [Kr.PT]); first | done | rfl)))
          (refine Kr.tPQ 4 (v := .pointer (some ⟨bc, i, none⟩)) (a' := ?_) rfl (by kernel_rfl) (fun _ _ _ h => h) (by rfl) (fun _ => ⟨(H.at 1 rfl), (H.at 0 rfl), trivial⟩) (fun wx => ?_) ?_ ?_; rotate_left 1; (focus (exact Kr.valOf rfl (ixH hil))); (focus ((try simp only [Kr.PT]); first | done | rfl)))
          (refine Kr.tSQ 5 [] (v := .int .u8 ((y).toNat : Int)) (a' := ?_) rfl (by kernel_rfl) (fun _ _ _ h => h) (by rfl) ⟨(H.at 1 rfl), (H.at 0 rfl), trivial⟩ (fun wx hSx => ?_) ?_ ?_; rotate_left 1; (focus (exact Kr.valOf rfl (ldE8 (rowCell hSx.2.1 HY.out)))); (focus ((try simp only [Kr.PT]); first | done | rfl)))
          (refine Kr.tPQ 6 (v := .bool false) (a' := ?_) rfl (by kernel_rfl) (fun _ _ _ h => h) (by rfl) (fun _ => ⟨(H.at 1 rfl), (H.at 0 rfl), trivial⟩) (fun wx => ?_) ?_ ?_; rotate_left 1; (focus (exact Kr.valOf rfl (lssB C1))); (focus ((try simp only [Kr.PT]); first | done | rfl)))
          refine Kr.doneL (by kernel_rfl) ?_ _
          go_upto_region 6 with fail
          refine Kr.startL (fun W' => (W'.heap[ba]? = some (.cells (l.map w8).toArray 25 (0, 0))) ∧ (W'.heap[bc]? = some (.cells (m.map w8).toArray 25 (0, 0))) ∧ True) [] (by kernel_rfl) ?_
          have gd : Gr d6 d6.drew := (Gr.refl _).drew
          generalize d6.drew = d7 at gd ⊢
          replace H := H.grow gd
          clear gd
          (refine Kr.tPQ 0 (v := ?_) (a' := ?_) rfl (by kernel_rfl) (fun _ _ _ h => h) (by rfl) (fun _ => ⟨(H.at 1 rfl), (H.at 0 rfl), trivial⟩) (fun wx => ?_) ?_ ?_; rotate_left 2; (focus (go_simp; first | done | rfl)); (focus ((try simp only [Kr.PT]); first | done | rfl)))
          (refine Kr.tPQ 1 (v := .pointer (some ⟨ba, i, none⟩)) (a' := ?_) rfl (by kernel_rfl) (fun _ _ _ h => h) (by rfl) (fun _ => ⟨(H.at 1 rfl), (H.at 0 rfl), trivial⟩) (fun wx => ?_) ?_ ?_; rotate_left 1; (focus (exact Kr.valOf rfl (ixH hil))); (focus ((try simp only [Kr.PT]); first | done | rfl)))
          (refine Kr.tSQ 2 [] (v := .int .u8 ((x).toNat : Int)) (a' := ?_) rfl (by kernel_rfl) (fun _ _ _ h => h) (by rfl) ⟨(H.at 1 rfl), (H.at 0 rfl), trivial⟩ (fun wx hSx => ?_) ?_ ?_; rotate_left 1; (focus (exact Kr.valOf rfl (ldE8 (rowCell hSx.1 HX.out)))); (focus ((try simp only [Kr.PT]); first | done | rfl)))
          (refine Kr.tPQ 3 (v := ?_) (a' := ?_) rfl (by kernel_rfl) (fun _ _ _ h => h) (by rfl) (fun _ => ⟨(H.at 1 rfl), (H.at 0 rfl), trivial⟩) (fun wx => ?_) ?_ ?_; rotate_left 2; (focus (go_simp; first | done | rfl)); (focus ((try simp only [Kr.PT]); first | done | rfl)))
          (refine Kr.tPQ 4 (v := .pointer (some ⟨bc, i, none⟩)) (a' := ?_) rfl (by kernel_rfl) (fun _ _ _ h => h) (by rfl) (fun _ => ⟨(H.at 1 rfl), (H.at 0 rfl), trivial⟩) (fun wx => ?_) ?_ ?_; rotate_left 1; (focus (exact Kr.valOf rfl (ixH hil))); (focus ((try simp only [Kr.PT]); first | done | rfl)))
          (refine Kr.tSQ 5 [] (v := .int .u8 ((y).toNat : Int)) (a' := ?_) rfl (by kernel_rfl) (fun _ _ _ h => h) (by rfl) ⟨(H.at 1 rfl), (H.at 0 rfl), trivial⟩ (fun wx hSx => ?_) ?_ ?_; rotate_left 1; (focus (exact Kr.valOf rfl (ldE8 (rowCell hSx.2.1 HY.out)))); (focus ((try simp only [Kr.PT]); first | done | rfl)))
          (refine Kr.tPQ 6 (v := .bool false) (a' := ?_) rfl (by kernel_rfl) (fun _ _ _ h => h) (by rfl) (fun _ => ⟨(H.at 1 rfl), (H.at 0 rfl), trivial⟩) (fun wx => ?_) ?_ ?_; rotate_left 1; (focus (exact Kr.valOf rfl (gtrB C2))); (focus ((try simp only [Kr.PT]); first | done | rfl)))
          refine Kr.doneL (by kernel_rfl) ?_ _
          have HADD : IntKind.i64.wrap ((i : Int) + 1) = ((i + 1 : Nat) : Int) := wrap_nat (by omega) (by omega)
          go_upto_region 3 with fail
          refine Kr.seqStartW ?_
          (refine Kr.seqQ (v := ?_) (a' := ?_) (by rfl) ?_ ?_ ?_; rotate_left 2; (focus (go_simp; first | done | rfl)); (focus ((try simp only [Kr.PT]); first | done | rfl)))
          (refine Kr.seqQ (v := .int .i64 ((i + 1 : Nat) : Int)) (a' := ?_) (by rfl) ?_ ?_ ?_; rotate_left 1; (focus (exact Kr.valOf rfl (addI HADD))); (focus ((try simp only [Kr.PT]); first | done | rfl)))
          (refine Kr.seqQ (v := ?_) (a' := ?_) (by rfl) ?_ ?_ ?_; rotate_left 2; (focus (go_simp; first | done | rfl)); (focus ((try simp only [Kr.PT]); first | done | rfl)))
          refine Kr.seqDoneW ?_
          go_wp2; go_roundw
          case rel => first | exact ⟨i + 1, by omega, rfl, HZ2, Lib.hid H⟩ | (trace_state; fail)
          case measure => simp [intOf]; omega
end Go.Proofs.YtilbojcghladjaaDoor.Dg
