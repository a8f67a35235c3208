/- hash, New, Digest. -/
import Derived.Test.YtldgjhmefaapeaaDoorQTc
import Derived.Deep.Cut
namespace Go.Proofs.YtldgjhmefaapeaaDoor.Dg
open Go Go.RowKit Go.Proofs.YtldgjhmefaapeaaDoor.Ne Go.Proofs.YtldgjhmefaapeaaDoor.Kr

theorem bldHp {w : World} {P : Array (Nat × Value)} (h : P = #[]) : (Instr.build 23 P).run Tryd.prog w = .ok (.agg (zH.map w8).toArray) w := h ▸ buildH
theorem bldT0p {w : World} {P : Array (Nat × Value)} (h : P = #[]) : (Instr.build 25 P).run Tryd.prog w = .ok (.agg (tr zH 0).toArray) w := h ▸ bldT0
theorem bldT1p {w : World} {l : List (BitVec 8)} {P : Array (Nat × Value)} (h : P = #[(0, .agg (l.map w8).toArray)]) (hl : l.length = 32) : (Instr.build 25 P).run Tryd.prog w = .ok (.agg (tr l 0).toArray) w := h ▸ bldT1 hl
theorem bldT2p {w : World} {l : List (BitVec 8)} {c : Int} {P : Array (Nat × Value)} (h : P = #[(0, .agg (l.map w8).toArray), (1, .int .i64 c)]) (hl : l.length = 32) : (Instr.build 25 P).run Tryd.prog w = .ok (.agg (tr l c).toArray) w := h ▸ bldT2 hl

set_option linter.unusedSimpArgs false in
set_option maxRecDepth 100000 in
set_option maxHeartbeats 16000000 in
theorem hash_bad {tag lb : ByteArray} {st : List (BitVec 8)} {c : Int} {f : Value} {w : World} (hst : st.length = 32) (h : okT c = false ∨ isL lb = false) :
    Calls Tryd.prog 17 #[.string tag, .agg (tr st c).toArray, .string lb, f] w fun e w' => e = .returned (.tuple #[.agg (zH.map w8).toArray, .int .i64 1]) ∧ Gr w w' := by
  have H := Ow.start w
  go_enter Tryd.func17, Tryd.ntmps17
  go_upto_region 0 with fail
  refine Kr.seqStartW ?_
  refine Kr.seqR (by rfl) (fun K hK => ?_)
  refine wp_runV rfl boxT ?_
  obtain ⟨y1, hy⟩ : ∃ y, w.alloc (.cells (tr st c).toArray 25) = y := ⟨_, rfl⟩
  obtain ⟨bt, hb⟩ : ∃ b, w.heap.size = b := ⟨_, rfl⟩
  rw [hy, hb]
  have hg : Gr w y1 := hy ▸ (Gr.refl _).alloc _
  replace H := H.alloc hy hb
  clear hy hb hg
  (refine Kr.outS hK (a' := ?_) ?_ ?_; rotate_left; (focus ((try simp only [Kr.PT]); first | done | rfl))); clear hK K
  refine Kr.seqR (by rfl) (fun K hK => ?_)
  refine wp_runV rfl newHz ?_
  obtain ⟨y2, hy⟩ : ∃ y, y1.alloc (.cells (zH.map w8).toArray 23) = y := ⟨_, rfl⟩
  obtain ⟨br, hb⟩ : ∃ b, y1.heap.size = b := ⟨_, rfl⟩
  rw [hy, hb]
  have hg : Gr y1 y2 := hy ▸ (Gr.refl _).alloc _
  replace H := H.alloc hy hb
  clear hy hb hg
  (refine Kr.outS hK (a' := ?_) ?_ ?_; rotate_left; (focus ((try simp only [Kr.PT]); first | done | rfl))); clear hK K
  (refine Kr.seqQ (v := ?_) (a' := ?_) (by rfl) ?_ ?_ ?_; rotate_left 2; (focus (go_simp; first | done | rfl)); (focus ((try simp only [Kr.PT]); first | done | rfl)))
  refine Kr.seqDoneW ?_
  obtain ⟨bc, hc⟩ : ∃ z, okT c = z := ⟨_, rfl⟩; rw [hc] at h; have HC := Lib.hid hc; clear hc; cases bc
  · clear h
    go_upto_region 1 with fail
    refine Kr.seqStartW ?_
    (refine Kr.seqQ (v := .agg (tr st c).toArray) (a' := ?_) (by rfl) ?_ ?_ ?_; rotate_left 1; (focus (exact Kr.valOf rfl (ldT (H.at 1 rfl) (tr_len _ hst)))); (focus ((try simp only [Kr.PT]); first | done | rfl)))
    refine Kr.seqR (by rfl) (fun K hK => ?_)
    go_simp
    go_at_call 26
    have hP := ValidT_v (st := st) (c := c) (w := y2) hst; rw [HC.out] at hP
    refine (hP).mono ?_
    rintro e y3 ⟨rfl, hg⟩
    replace H := H.grow hg
    clear hg
    clear hP
    (refine Kr.outS hK (a' := ?_) ?_ ?_; rotate_left; (focus ((try simp only [Kr.PT]); first | done | rfl))); clear hK K
    (refine Kr.seqQ (v := ?_) (a' := ?_) (by rfl) ?_ ?_ ?_; rotate_left 2; (focus (go_simp; first | done | rfl)); (focus ((try simp only [Kr.PT]); first | done | rfl)))
    (refine Kr.seqQ (v := ?_) (a' := ?_) (by rfl) ?_ ?_ ?_; rotate_left 2; (focus (go_simp; first | done | rfl)); (focus ((try simp only [Kr.PT]); first | done | rfl)))
    (refine Kr.seqSkipQ (a' := ?_) (by rfl) ?_ ?_; rotate_left; (focus ((try simp only [Kr.PT]); first | done | rfl)))
    (refine Kr.seqSkipQ (a' := ?_) (by rfl) ?_ ?_; rotate_left; (focus ((try simp only [Kr.PT]); first | done | rfl)))
    (refine Kr.seqSkipQ (a' := ?_) (by rfl) ?_ ?_; rotate_left; (focus ((try simp only [Kr.PT]); first | done | rfl)))
    (refine Kr.seqQ (v := ?_) (a' := ?_) (by rfl) ?_ ?_ ?_; rotate_left 2; (focus (go_simp; first | done | rfl)); (focus ((try simp only [Kr.PT]); first | done | rfl)))
    refine Kr.seqDoneW ?_
    go_upto_region 2 with fail
    refine Kr.seqStartW ?_
    (refine Kr.seqQ (v := .agg (zH.map w8).toArray) (a' := ?_) (by rfl) ?_ ?_ ?_; rotate_left 1; (focus (exact Kr.valOf rfl (bldHp (by go_simp)))); (focus ((try simp only [Kr.PT]); first | done | rfl)))
    refine Kr.seqR (by rfl) (fun K hK => ?_)
    refine wp_run rfl (stH (H.at 0 rfl) (by rw [List.length_map]; exact zH_length) (by rw [List.length_map]; exact zH_length) (oneCell_bytes _)) ?_
    obtain ⟨y4, hy⟩ : ∃ y, y3.setRow br (zH.map w8).toArray = y := ⟨_, rfl⟩
    rw [hy]
    replace H := H.put 0 hy rfl
    dsimp only [List.set] at H
    clear hy
    (refine Kr.outS hK (a' := ?_) ?_ ?_; rotate_left; (focus ((try simp only [Kr.PT]); first | done | rfl))); clear hK K
    (refine Kr.seqQ (v := ?_) (a' := ?_) (by rfl) ?_ ?_ ?_; rotate_left 2; (focus (go_simp; first | done | rfl)); (focus ((try simp only [Kr.PT]); first | done | rfl)))
    refine Kr.seqDoneW ?_
    go_wp2
    refine bodyPost_ret (v := .tuple #[.agg (zH.map w8).toArray, .int .i64 1]) (results_row_tmp rfl _ _ br 23 _ _ _ (by rfl) (H.at 0 rfl) Tryd.underlying23 rfl (by rw [List.size_toArray, List.length_map, zH_length]; exact infoH) (by rfl)) rfl ⟨rfl, H.g⟩
  · have hl : isL lb = false := h.resolve_left (by decide)
    have HL := Lib.hid hl; clear h hl
    go_upto_region 1 with fail
    refine Kr.seqStartW ?_
    (refine Kr.seqQ (v := .agg (tr st c).toArray) (a' := ?_) (by rfl) ?_ ?_ ?_; rotate_left 1; (focus (exact Kr.valOf rfl (ldT (H.at 1 rfl) (tr_len _ hst)))); (focus ((try simp only [Kr.PT]); first | done | rfl)))
    refine Kr.seqR (by rfl) (fun K hK => ?_)
    go_simp
    go_at_call 26
    have hP := ValidT_v (st := st) (c := c) (w := y2) hst; rw [HC.out] at hP
    refine (hP).mono ?_
    rintro e y5 ⟨rfl, hg⟩
    replace H := H.grow hg
    clear hg
    clear hP
    (refine Kr.outS hK (a' := ?_) ?_ ?_; rotate_left; (focus ((try simp only [Kr.PT]); first | done | rfl))); clear hK K
    (refine Kr.seqQ (v := ?_) (a' := ?_) (by rfl) ?_ ?_ ?_; rotate_left 2; (focus (go_simp; first | done | rfl)); (focus ((try simp only [Kr.PT]); first | done | rfl)))
    (refine Kr.seqQ (v := ?_) (a' := ?_) (by rfl) ?_ ?_ ?_; rotate_left 2; (focus (go_simp; first | done | rfl)); (focus ((try simp only [Kr.PT]); first | done | rfl)))
    (refine Kr.seqQ (v := ?_) (a' := ?_) (by rfl) ?_ ?_ ?_; rotate_left 2; (focus (go_simp; first | done | rfl)); (focus ((try simp only [Kr.PT]); first | done | rfl)))
    refine Kr.seqR (by rfl) (fun K hK => ?_)
    go_simp
    go_at_call 24
    have hP := isLabel_v (s := lb) (w := y5); rw [HL.out] at hP
    refine (hP).mono ?_
    rintro e y6 ⟨rfl, hg⟩
    replace H := H.grow hg
    clear hg
    clear hP
    (refine Kr.outS hK (a' := ?_) ?_ ?_; rotate_left; (focus ((try simp only [Kr.PT]); first | done | rfl))); clear hK K
    (refine Kr.seqQ (v := ?_) (a' := ?_) (by rfl) ?_ ?_ ?_; rotate_left 2; (focus (go_simp; first | done | rfl)); (focus ((try simp only [Kr.PT]); first | done | rfl)))
    (refine Kr.seqQ (v := ?_) (a' := ?_) (by rfl) ?_ ?_ ?_; rotate_left 2; (focus (go_simp; first | done | rfl)); (focus ((try simp only [Kr.PT]); first | done | rfl)))
    refine Kr.seqDoneW ?_
    go_upto_region 2 with fail
    refine Kr.seqStartW ?_
    (refine Kr.seqQ (v := .agg (zH.map w8).toArray) (a' := ?_) (by rfl) ?_ ?_ ?_; rotate_left 1; (focus (exact Kr.valOf rfl (bldHp (by go_simp)))); (focus ((try simp only [Kr.PT]); first | done | rfl)))
    refine Kr.seqR (by rfl) (fun K hK => ?_)
    refine wp_run rfl (stH (H.at 0 rfl) (by rw [List.length_map]; exact zH_length) (by rw [List.length_map]; exact zH_length) (oneCell_bytes _)) ?_
    obtain ⟨y7, hy⟩ : ∃ y, y6.setRow br (zH.map w8).toArray = y := ⟨_, rfl⟩
    rw [hy]
    replace H := H.put 0 hy rfl
    dsimp only [List.set] at H
    clear hy
    (refine Kr.outS hK (a' := ?_) ?_ ?_; rotate_left; (focus ((try simp only [Kr.PT]); first | done | rfl))); clear hK K
    (refine Kr.seqQ (v := ?_) (a' := ?_) (by rfl) ?_ ?_ ?_; rotate_left 2; (focus (go_simp; first | done | rfl)); (focus ((try simp only [Kr.PT]); first | done | rfl)))
    refine Kr.seqDoneW ?_
    go_wp2
    refine bodyPost_ret (v := .tuple #[.agg (zH.map w8).toArray, .int .i64 1]) (results_row_tmp rfl _ _ br 23 _ _ _ (by rfl) (H.at 0 rfl) Tryd.underlying23 rfl (by rw [List.size_toArray, List.length_map, zH_length]; exact infoH) (by rfl)) rfl ⟨rfl, H.g⟩
set_option linter.unusedSimpArgs false in
set_option maxRecDepth 100000 in
set_option maxHeartbeats 16000000 in
theorem hash_ok {tag lb : ByteArray} {st : List (BitVec 8)} {c : Int} {f : Value} {xs : List It} {w : World} (hst : st.length = 32) (hc : okT c = true) (hl : isL lb = true) (ht1 : 1 ≤ tag.size) (ht2 : tag.size ≤ 100) (hF : Fur w f xs) (hv : ∀ x ∈ xs, vld 7 x = true) (hln : (xs.flatMap (enc 7)).length ≤ 16000) (hC : Con w) (hT : Sta0 w) :
    Calls Tryd.prog 17 #[.string tag, .agg (tr st c).toArray, .string lb, f] w fun e w' => e = .returned (.tuple #[.agg ((tg tag (enc 8 (fr st (s8 lb) xs))).map w8).toArray, .int .i64 0]) ∧ Gr w w' := by
  have HF := Lib.hid hF; clear hF; have HV := Lib.hid hv; clear hv; have HLN := Lib.hid hln; clear hln; have HCN := Lib.hid hC; have HT0 := Lib.hid hT; clear hC hT; have HL := Lib.hid hl; clear hl
  obtain ⟨E, hE⟩ : ∃ z, enc 8 (fr st (s8 lb) xs) = z := ⟨_, rfl⟩; have hEn : E.length ≤ 16384 := by rw [← hE, enc_fr_len, hst, s8_length]; have := isL_size HL.out; have := HLN.out; omega
  rw [hE]; have HE := Lib.hid hE; clear hE; obtain ⟨R, hR⟩ : ∃ z, tg tag E = z := ⟨_, rfl⟩; have hRl : R.length = 32 := hR ▸ tg_length _ _; rw [hR]; have HR := Lib.hid hR; clear hR
  have H := Ow.start w
  go_enter Tryd.func17, Tryd.ntmps17
  go_upto_region 0 with fail
  refine Kr.seqStartW ?_
  refine Kr.seqR (by rfl) (fun K hK => ?_)
  refine wp_runV rfl boxT ?_
  obtain ⟨y1, hy⟩ : ∃ y, w.alloc (.cells (tr st c).toArray 25) = y := ⟨_, rfl⟩
  obtain ⟨bt, hb⟩ : ∃ b, w.heap.size = b := ⟨_, rfl⟩
  rw [hy, hb]
  have hg : Gr w y1 := hy ▸ (Gr.refl _).alloc _
  replace H := H.alloc hy hb
  clear hy hb hg
  (refine Kr.outS hK (a' := ?_) ?_ ?_; rotate_left; (focus ((try simp only [Kr.PT]); first | done | rfl))); clear hK K
  refine Kr.seqR (by rfl) (fun K hK => ?_)
  refine wp_runV rfl newHz ?_
  obtain ⟨y2, hy⟩ : ∃ y, y1.alloc (.cells (zH.map w8).toArray 23) = y := ⟨_, rfl⟩
  obtain ⟨br, hb⟩ : ∃ b, y1.heap.size = b := ⟨_, rfl⟩
  rw [hy, hb]
  have hg : Gr y1 y2 := hy ▸ (Gr.refl _).alloc _
  replace H := H.alloc hy hb
  clear hy hb hg
  (refine Kr.outS hK (a' := ?_) ?_ ?_; rotate_left; (focus ((try simp only [Kr.PT]); first | done | rfl))); clear hK K
  (refine Kr.seqQ (v := ?_) (a' := ?_) (by rfl) ?_ ?_ ?_; rotate_left 2; (focus (go_simp; first | done | rfl)); (focus ((try simp only [Kr.PT]); first | done | rfl)))
  refine Kr.seqDoneW ?_
  have HC := Lib.hid hc; clear hc
  go_upto_region 1 with fail
  refine Kr.seqStartW ?_
  (refine Kr.seqQ (v := .agg (tr st c).toArray) (a' := ?_) (by rfl) ?_ ?_ ?_; rotate_left 1; (focus (exact Kr.valOf rfl (ldT (H.at 1 rfl) (tr_len _ hst)))); (focus ((try simp only [Kr.PT]); first | done | rfl)))
  refine Kr.seqR (by rfl) (fun K hK => ?_)
  go_simp
  go_at_call 26
  have hP := ValidT_v (st := st) (c := c) (w := y2) hst; rw [HC.out] at hP
  refine (hP).mono ?_
  rintro e y3 ⟨rfl, hg⟩
  replace H := H.grow hg
  clear hg
  clear hP
  (refine Kr.outS hK (a' := ?_) ?_ ?_; rotate_left; (focus ((try simp only [Kr.PT]); first | done | rfl))); clear hK K
  (refine Kr.seqQ (v := ?_) (a' := ?_) (by rfl) ?_ ?_ ?_; rotate_left 2; (focus (go_simp; first | done | rfl)); (focus ((try simp only [Kr.PT]); first | done | rfl)))
  (refine Kr.seqQ (v := ?_) (a' := ?_) (by rfl) ?_ ?_ ?_; rotate_left 2; (focus (go_simp; first | done | rfl)); (focus ((try simp only [Kr.PT]); first | done | rfl)))
  (refine Kr.seqQ (v := ?_) (a' := ?_) (by rfl) ?_ ?_ ?_; rotate_left 2; (focus (go_simp; first | done | rfl)); (focus ((try simp only [Kr.PT]); first | done | rfl)))
  refine Kr.seqR (by rfl) (fun K hK => ?_)
  go_simp
  go_at_call 24
  have hP := isLabel_v (s := lb) (w := y3); rw [HL.out] at hP
  refine (hP).mono ?_
  rintro e y4 ⟨rfl, hg⟩
  replace H := H.grow hg
  clear hg
  clear hP
  (refine Kr.outS hK (a' := ?_) ?_ ?_; rotate_left; (focus ((try simp only [Kr.PT]); first | done | rfl))); clear hK K
  (refine Kr.seqQ (v := ?_) (a' := ?_) (by rfl) ?_ ?_ ?_; rotate_left 2; (focus (go_simp; first | done | rfl)); (focus ((try simp only [Kr.PT]); first | done | rfl)))
  (refine Kr.seqQ (v := ?_) (a' := ?_) (by rfl) ?_ ?_ ?_; rotate_left 2; (focus (go_simp; first | done | rfl)); (focus ((try simp only [Kr.PT]); first | done | rfl)))
  refine Kr.seqDoneW ?_
  go_upto_region 3 with fail
  refine Kr.seqStartW ?_
  (refine Kr.seqQ (v := .agg (tr st c).toArray) (a' := ?_) (by rfl) ?_ ?_ ?_; rotate_left 1; (focus (exact Kr.valOf rfl (ldT (H.at 1 rfl) (tr_len _ hst)))); (focus ((try simp only [Kr.PT]); first | done | rfl)))
  (refine Kr.seqQ (v := ?_) (a' := ?_) (by rfl) ?_ ?_ ?_; rotate_left 2; (focus (go_simp; first | done | rfl)); (focus ((try simp only [Kr.PT]); first | done | rfl)))
  (refine Kr.seqQ (v := ?_) (a' := ?_) (by rfl) ?_ ?_ ?_; rotate_left 2; (focus (go_simp; first | done | rfl)); (focus ((try simp only [Kr.PT]); first | done | rfl)))
  refine Kr.seqR (by rfl) (fun K hK => ?_)
  go_simp
  go_at_call 27
  have hP := frame_v (c := c) hst HL.out (HF.out.grow H.g) HV.out HLN.out; rw [HE.out] at hP; refine hP.mono ?_; clear hP
  rintro e y5 ⟨p, n, cE, rfl, hn, hp, hsr, hg⟩
  have HSR := Lib.hid hsr; have HPN := Lib.hid hp; clear hsr hp
  replace H := H.grow hg
  clear hg
  (refine Kr.outS hK (a' := ?_) ?_ ?_; rotate_left; (focus ((try simp only [Kr.PT]); first | done | rfl))); clear hK K
  (refine Kr.seqQ (v := ?_) (a' := ?_) (by rfl) ?_ ?_ ?_; rotate_left 2; (focus (go_simp; first | done | rfl)); (focus ((try simp only [Kr.PT]); first | done | rfl)))
  (refine Kr.seqQ (v := ?_) (a' := ?_) (by rfl) ?_ ?_ ?_; rotate_left 2; (focus (go_simp; first | done | rfl)); (focus ((try simp only [Kr.PT]); first | done | rfl)))
  (refine Kr.seqQ (v := ?_) (a' := ?_) (by rfl) ?_ ?_ ?_; rotate_left 2; (focus (go_simp; first | done | rfl)); (focus ((try simp only [Kr.PT]); first | done | rfl)))
  (refine Kr.seqQ (v := ?_) (a' := ?_) (by rfl) ?_ ?_ ?_; rotate_left 2; (focus (go_simp; first | done | rfl)); (focus ((try simp only [Kr.PT]); first | done | rfl)))
  (refine Kr.seqQ (v := ?_) (a' := ?_) (by rfl) ?_ ?_ ?_; rotate_left 2; (focus (go_simp; first | done | rfl)); (focus ((try simp only [Kr.PT]); first | done | rfl)))
  refine Kr.seqDoneW ?_
  go_upto_region 4 with fail
  refine Kr.seqStartW ?_
  (refine Kr.seqQ (v := ?_) (a' := ?_) (by rfl) ?_ ?_ ?_; rotate_left 2; (focus (go_simp; first | done | rfl)); (focus ((try simp only [Kr.PT]); first | done | rfl)))
  (refine Kr.seqQ (v := .bool false) (a' := ?_) (by rfl) ?_ ?_ ?_; rotate_left 1; (focus (exact Kr.valOf rfl (neqI (x := 0) (y := 0) (by decide)))); (focus ((try simp only [Kr.PT]); first | done | rfl)))
  refine Kr.seqDoneW ?_
  go_upto_region 6 with fail
  refine Kr.seqStartW ?_
  (refine Kr.seqQ (v := ?_) (a' := ?_) (by rfl) ?_ ?_ ?_; rotate_left 2; (focus (go_simp; first | done | rfl)); (focus ((try simp only [Kr.PT]); first | done | rfl)))
  (refine Kr.seqQ (v := ?_) (a' := ?_) (by rfl) ?_ ?_ ?_; rotate_left 2; (focus (go_simp; first | done | rfl)); (focus ((try simp only [Kr.PT]); first | done | rfl)))
  refine Kr.seqR (by rfl) (fun K hK => ?_)
  go_simp
  go_at_call 25
  have hP := Tagged_ok (c := cE) ht1 ht2 (HSR.out) hn HPN.out (by omega) (HCN.out.grow H.g) (HT0.out.grow H.g); rw [HR.out] at hP
  refine (hP).mono ?_
  rintro e y6 ⟨rfl, hg⟩
  replace H := H.grow hg
  clear hg
  clear hP
  (refine Kr.outS hK (a' := ?_) ?_ ?_; rotate_left; (focus ((try simp only [Kr.PT]); first | done | rfl))); clear hK K
  (refine Kr.seqQ (v := ?_) (a' := ?_) (by rfl) ?_ ?_ ?_; rotate_left 2; (focus (go_simp; first | done | rfl)); (focus ((try simp only [Kr.PT]); first | done | rfl)))
  (refine Kr.seqQ (v := ?_) (a' := ?_) (by rfl) ?_ ?_ ?_; rotate_left 2; (focus (go_simp; first | done | rfl)); (focus ((try simp only [Kr.PT]); first | done | rfl)))
  refine Kr.seqR (by rfl) (fun K hK => ?_)
  refine wp_run rfl (stH (H.at 0 rfl) (by rw [List.length_map]; exact zH_length) (by rw [List.length_map]; exact hRl) (oneCell_bytes _)) ?_
  obtain ⟨y7, hy⟩ : ∃ y, y6.setRow br (R.map w8).toArray = y := ⟨_, rfl⟩
  rw [hy]
  replace H := H.put 0 hy rfl
  dsimp only [List.set] at H
  clear hy
  (refine Kr.outS hK (a' := ?_) ?_ ?_; rotate_left; (focus ((try simp only [Kr.PT]); first | done | rfl))); clear hK K
  (refine Kr.seqQ (v := ?_) (a' := ?_) (by rfl) ?_ ?_ ?_; rotate_left 2; (focus (go_simp; first | done | rfl)); (focus ((try simp only [Kr.PT]); first | done | rfl)))
  refine Kr.seqDoneW ?_
  go_wp2
  refine bodyPost_ret (v := .tuple #[.agg (R.map w8).toArray, .int .i64 0]) (results_row_tmp rfl _ _ br 23 _ _ _ (by rfl) (H.at 0 rfl) Tryd.underlying23 rfl (by rw [List.size_toArray, List.length_map, hRl]; exact infoH) (by rfl)) rfl ⟨rfl, H.g⟩
set_option linter.unusedSimpArgs false in
set_option maxRecDepth 100000 in
set_option maxHeartbeats 16000000 in
theorem New_bad {s : ByteArray} {w : World} (hl : isL s = false) :
    Calls Tryd.prog 13 #[.string s] w fun e w' => e = .returned (.tuple #[.agg (tr zH 0).toArray, .int .i64 1]) ∧ Gr w w' := by
  have HL := Lib.hid hl; clear hl
  have H := Ow.start w
  go_enter Tryd.func13, Tryd.ntmps13
  go_upto_region 0 with fail
  refine Kr.seqStartW ?_
  refine Kr.seqR (by rfl) (fun K hK => ?_)
  refine wp_runV rfl newT ?_
  obtain ⟨y1, hy⟩ : ∃ y, w.alloc (.cells (tr zH 0).toArray 25) = y := ⟨_, rfl⟩
  obtain ⟨br, hb⟩ : ∃ b, w.heap.size = b := ⟨_, rfl⟩
  rw [hy, hb]
  have hg : Gr w y1 := hy ▸ (Gr.refl _).alloc _
  replace H := H.alloc hy hb
  clear hy hb hg
  (refine Kr.outS hK (a' := ?_) ?_ ?_; rotate_left; (focus ((try simp only [Kr.PT]); first | done | rfl))); clear hK K
  (refine Kr.seqQ (v := ?_) (a' := ?_) (by rfl) ?_ ?_ ?_; rotate_left 2; (focus (go_simp; first | done | rfl)); (focus ((try simp only [Kr.PT]); first | done | rfl)))
  refine Kr.seqDoneW ?_
  go_upto_region 1 with fail
  refine Kr.seqStartW ?_
  (refine Kr.seqQ (v := ?_) (a' := ?_) (by rfl) ?_ ?_ ?_; rotate_left 2; (focus (go_simp; first | done | rfl)); (focus ((try simp only [Kr.PT]); first | done | rfl)))
  refine Kr.seqR (by rfl) (fun K hK => ?_)
  go_simp
  go_at_call 24
  have hP := isLabel_v (s := s) (w := y1); rw [HL.out] at hP
  refine (hP).mono ?_
  rintro e y2 ⟨rfl, hg⟩
  replace H := H.grow hg
  clear hg
  clear hP
  (refine Kr.outS hK (a' := ?_) ?_ ?_; rotate_left; (focus ((try simp only [Kr.PT]); first | done | rfl))); clear hK K
  (refine Kr.seqQ (v := ?_) (a' := ?_) (by rfl) ?_ ?_ ?_; rotate_left 2; (focus (go_simp; first | done | rfl)); (focus ((try simp only [Kr.PT]); first | done | rfl)))
  refine Kr.seqDoneW ?_
  go_upto_region 2 with fail
  refine Kr.seqStartW ?_
  (refine Kr.seqQ (v := .agg (tr zH 0).toArray) (a' := ?_) (by rfl) ?_ ?_ ?_; rotate_left 1; (focus (exact Kr.valOf rfl (bldT0p (by go_simp)))); (focus ((try simp only [Kr.PT]); first | done | rfl)))
  refine Kr.seqR (by rfl) (fun K hK => ?_)
  refine wp_run rfl (stT (H.at 0 rfl) (tr_len _ zH_length) (tr_len _ zH_length) (tr_one _ _)) ?_
  obtain ⟨y3, hy⟩ : ∃ y, y2.setRow br (tr zH 0).toArray = y := ⟨_, rfl⟩
  rw [hy]
  replace H := H.put 0 hy rfl
  dsimp only [List.set] at H
  clear hy
  (refine Kr.outS hK (a' := ?_) ?_ ?_; rotate_left; (focus ((try simp only [Kr.PT]); first | done | rfl))); clear hK K
  (refine Kr.seqQ (v := ?_) (a' := ?_) (by rfl) ?_ ?_ ?_; rotate_left 2; (focus (go_simp; first | done | rfl)); (focus ((try simp only [Kr.PT]); first | done | rfl)))
  refine Kr.seqDoneW ?_
  go_wp2
  refine bodyPost_ret (v := .tuple #[.agg (tr zH 0).toArray, .int .i64 1]) (results_row_tmp rfl _ _ br 25 _ _ _ (by rfl) (H.at 0 rfl) Tryd.underlying25 rfl (by rw [List.size_toArray, tr_len _ zH_length]; exact infoT) (by rfl)) rfl ⟨rfl, H.g⟩
set_option linter.unusedSimpArgs false in
set_option maxRecDepth 100000 in
set_option maxHeartbeats 16000000 in
theorem New_ok {s : ByteArray} {w : World} (hl : isL s = true) (hC : Con w) (hT : Sta0 w) :
    Calls Tryd.prog 13 #[.string s] w fun e w' => e = .returned (.tuple #[.agg (tr (tg sBegin (s8 s)) 0).toArray, .int .i64 0]) ∧ Gr w w' := by
  have HL := Lib.hid hl; clear hl
  have HCN := Lib.hid hC; have HT0 := Lib.hid hT; clear hC hT; obtain ⟨R, hR⟩ : ∃ z, tg sBegin (s8 s) = z := ⟨_, rfl⟩; have hRl : R.length = 32 := hR ▸ tg_length _ _; rw [hR]; have HR := Lib.hid hR; clear hR; have hs24 := (isL_size HL.out).2
  have H := Ow.start w
  go_enter Tryd.func13, Tryd.ntmps13
  go_upto_region 0 with fail
  refine Kr.seqStartW ?_
  refine Kr.seqR (by rfl) (fun K hK => ?_)
  refine wp_runV rfl newT ?_
  obtain ⟨y1, hy⟩ : ∃ y, w.alloc (.cells (tr zH 0).toArray 25) = y := ⟨_, rfl⟩
  obtain ⟨br, hb⟩ : ∃ b, w.heap.size = b := ⟨_, rfl⟩
  rw [hy, hb]
  have hg : Gr w y1 := hy ▸ (Gr.refl _).alloc _
  replace H := H.alloc hy hb
  clear hy hb hg
  (refine Kr.outS hK (a' := ?_) ?_ ?_; rotate_left; (focus ((try simp only [Kr.PT]); first | done | rfl))); clear hK K
  (refine Kr.seqQ (v := ?_) (a' := ?_) (by rfl) ?_ ?_ ?_; rotate_left 2; (focus (go_simp; first | done | rfl)); (focus ((try simp only [Kr.PT]); first | done | rfl)))
  refine Kr.seqDoneW ?_
  go_upto_region 1 with fail
  refine Kr.seqStartW ?_
  (refine Kr.seqQ (v := ?_) (a' := ?_) (by rfl) ?_ ?_ ?_; rotate_left 2; (focus (go_simp; first | done | rfl)); (focus ((try simp only [Kr.PT]); first | done | rfl)))
  refine Kr.seqR (by rfl) (fun K hK => ?_)
  go_simp
  go_at_call 24
  have hP := isLabel_v (s := s) (w := y1); rw [HL.out] at hP
  refine (hP).mono ?_
  rintro e y2 ⟨rfl, hg⟩
  replace H := H.grow hg
  clear hg
  clear hP
  (refine Kr.outS hK (a' := ?_) ?_ ?_; rotate_left; (focus ((try simp only [Kr.PT]); first | done | rfl))); clear hK K
  (refine Kr.seqQ (v := ?_) (a' := ?_) (by rfl) ?_ ?_ ?_; rotate_left 2; (focus (go_simp; first | done | rfl)); (focus ((try simp only [Kr.PT]); first | done | rfl)))
  refine Kr.seqDoneW ?_
  go_upto_region 3 with fail
  refine Kr.seqStartW ?_
  (refine Kr.seqQ (v := ?_) (a' := ?_) (by rfl) ?_ ?_ ?_; rotate_left 2; (focus (go_simp; first | done | rfl)); (focus ((try simp only [Kr.PT]); first | done | rfl)))
  refine Kr.seqR (by rfl) (fun K hK => ?_)
  obtain ⟨cap, y3, bs, hbk, hrun, hcp, hba, hgr⟩ := conv_str y2 s
  refine wp_runV rfl hrun ?_
  have HB := Lib.hid hba; have HBc := Lib.hid hcp; clear hrun hbk hba hcp
  replace H := H.grow hgr
  clear hgr
  (refine Kr.outS hK (a' := ?_) ?_ ?_; rotate_left; (focus ((try simp only [Kr.PT]); first | done | rfl))); clear hK K
  refine Kr.seqR (by rfl) (fun K hK => ?_)
  go_simp
  go_at_call 25
  have hP := Tagged_ok (t := sBegin) (c := cap) (by decide) (by decide) (.inr ⟨bs, 0, rfl, HB.out⟩) (s8_length s) (fun e => by cases e) (by omega) (HCN.out.grow H.g) (HT0.out.grow H.g); rw [HR.out] at hP
  refine (hP).mono ?_
  rintro e y4 ⟨rfl, hg⟩
  replace H := H.grow hg
  clear hg
  clear hP
  (refine Kr.outS hK (a' := ?_) ?_ ?_; rotate_left; (focus ((try simp only [Kr.PT]); first | done | rfl))); clear hK K
  (refine Kr.seqQ (v := ?_) (a' := ?_) (by rfl) ?_ ?_ ?_; rotate_left 2; (focus (go_simp; first | done | rfl)); (focus ((try simp only [Kr.PT]); first | done | rfl)))
  (refine Kr.seqQ (v := ?_) (a' := ?_) (by rfl) ?_ ?_ ?_; rotate_left 2; (focus (go_simp; first | done | rfl)); (focus ((try simp only [Kr.PT]); first | done | rfl)))
  (refine Kr.seqQ (v := ?_) (a' := ?_) (by rfl) ?_ ?_ ?_; rotate_left 2; (focus (go_simp; first | done | rfl)); (focus ((try simp only [Kr.PT]); first | done | rfl)))
  refine Kr.seqR (by rfl) (fun K hK => ?_)
  refine wp_runV rfl newHz ?_
  obtain ⟨y5, hy⟩ : ∃ y, y4.alloc (.cells (zH.map w8).toArray 23) = y := ⟨_, rfl⟩
  obtain ⟨bh, hb⟩ : ∃ b, y4.heap.size = b := ⟨_, rfl⟩
  rw [hy, hb]
  have hg : Gr y4 y5 := hy ▸ (Gr.refl _).alloc _
  replace H := H.alloc hy hb
  clear hy hb hg
  (refine Kr.outS hK (a' := ?_) ?_ ?_; rotate_left; (focus ((try simp only [Kr.PT]); first | done | rfl))); clear hK K
  refine Kr.seqR (by rfl) (fun K hK => ?_)
  refine wp_run rfl (stH (H.at 0 rfl) (by rw [List.length_map]; exact zH_length) (by rw [List.length_map]; exact hRl) (oneCell_bytes _)) ?_
  obtain ⟨y6, hy⟩ : ∃ y, y5.setRow bh (R.map w8).toArray = y := ⟨_, rfl⟩
  rw [hy]
  replace H := H.put 0 hy rfl
  dsimp only [List.set] at H
  clear hy
  (refine Kr.outS hK (a' := ?_) ?_ ?_; rotate_left; (focus ((try simp only [Kr.PT]); first | done | rfl))); clear hK K
  (refine Kr.seqQ (v := ?_) (a' := ?_) (by rfl) ?_ ?_ ?_; rotate_left 2; (focus (go_simp; first | done | rfl)); (focus ((try simp only [Kr.PT]); first | done | rfl)))
  refine Kr.seqDoneW ?_
  go_upto_region 4 with fail
  refine Kr.seqStartW ?_
  (refine Kr.seqQ (v := .agg (R.map w8).toArray) (a' := ?_) (by rfl) ?_ ?_ ?_; rotate_left 1; (focus (exact Kr.valOf rfl (ldH (H.at 0 rfl) (by rw [List.length_map]; exact hRl)))); (focus ((try simp only [Kr.PT]); first | done | rfl)))
  (refine Kr.seqQ (v := .agg (tr R 0).toArray) (a' := ?_) (by rfl) ?_ ?_ ?_; rotate_left 1; (focus (exact Kr.valOf rfl (bldT1p (by go_simp) hRl))); (focus ((try simp only [Kr.PT]); first | done | rfl)))
  (refine Kr.seqQ (v := ?_) (a' := ?_) (by rfl) ?_ ?_ ?_; rotate_left 2; (focus (go_simp; first | done | rfl)); (focus ((try simp only [Kr.PT]); first | done | rfl)))
  refine Kr.seqR (by rfl) (fun K hK => ?_)
  refine wp_run rfl (stT (H.at 1 rfl) (tr_len _ zH_length) (tr_len _ hRl) (tr_one _ _)) ?_
  obtain ⟨y7, hy⟩ : ∃ y, y6.setRow br (tr R 0).toArray = y := ⟨_, rfl⟩
  rw [hy]
  replace H := H.put 1 hy rfl
  dsimp only [List.set] at H
  clear hy
  (refine Kr.outS hK (a' := ?_) ?_ ?_; rotate_left; (focus ((try simp only [Kr.PT]); first | done | rfl))); clear hK K
  (refine Kr.seqQ (v := ?_) (a' := ?_) (by rfl) ?_ ?_ ?_; rotate_left 2; (focus (go_simp; first | done | rfl)); (focus ((try simp only [Kr.PT]); first | done | rfl)))
  refine Kr.seqDoneW ?_
  go_wp2
  refine bodyPost_ret (v := .tuple #[.agg (tr R 0).toArray, .int .i64 0]) (results_row_tmp rfl _ _ br 25 _ _ _ (by rfl) (H.at 1 rfl) Tryd.underlying25 rfl (by rw [List.size_toArray, tr_len _ hRl]; exact infoT) (by rfl)) rfl ⟨rfl, H.g⟩
set_option linter.unusedSimpArgs false in
set_option maxRecDepth 100000 in
set_option maxHeartbeats 16000000 in
theorem Digest_bad {st : List (BitVec 8)} {c : Int} {lb : ByteArray} {w : World} (hst : st.length = 32) (h : okT c = false ∨ isL lb = false) :
    Calls Tryd.prog 9 #[.agg (tr st c).toArray, .string lb] w fun e w' => e = .returned (.tuple #[.agg (zH.map w8).toArray, .int .i64 1]) ∧ Gr w w' := by
  have HH := Lib.hid h; clear h
  have H := Ow.start w
  go_enter Tryd.func9, Tryd.ntmps9
  go_upto_region 0 with fail
  refine Kr.seqStartW ?_
  refine Kr.seqR (by rfl) (fun K hK => ?_)
  refine wp_runV rfl boxT ?_
  obtain ⟨y1, hy⟩ : ∃ y, w.alloc (.cells (tr st c).toArray 25) = y := ⟨_, rfl⟩
  obtain ⟨bt, hb⟩ : ∃ b, w.heap.size = b := ⟨_, rfl⟩
  rw [hy, hb]
  have hg : Gr w y1 := hy ▸ (Gr.refl _).alloc _
  replace H := H.alloc hy hb
  clear hy hb hg
  (refine Kr.outS hK (a' := ?_) ?_ ?_; rotate_left; (focus ((try simp only [Kr.PT]); first | done | rfl))); clear hK K
  refine Kr.seqR (by rfl) (fun K hK => ?_)
  refine wp_runV rfl newHz ?_
  obtain ⟨y2, hy⟩ : ∃ y, y1.alloc (.cells (zH.map w8).toArray 23) = y := ⟨_, rfl⟩
  obtain ⟨br, hb⟩ : ∃ b, y1.heap.size = b := ⟨_, rfl⟩
  rw [hy, hb]
  have hg : Gr y1 y2 := hy ▸ (Gr.refl _).alloc _
  replace H := H.alloc hy hb
  clear hy hb hg
  (refine Kr.outS hK (a' := ?_) ?_ ?_; rotate_left; (focus ((try simp only [Kr.PT]); first | done | rfl))); clear hK K
  (refine Kr.seqQ (v := ?_) (a' := ?_) (by rfl) ?_ ?_ ?_; rotate_left 2; (focus (go_simp; first | done | rfl)); (focus ((try simp only [Kr.PT]); first | done | rfl)))
  refine Kr.seqDoneW ?_
  go_upto_region 1 with fail
  refine Kr.seqStartW ?_
  (refine Kr.seqQ (v := .agg (tr st c).toArray) (a' := ?_) (by rfl) ?_ ?_ ?_; rotate_left 1; (focus (exact Kr.valOf rfl (ldT (H.at 1 rfl) (tr_len _ hst)))); (focus ((try simp only [Kr.PT]); first | done | rfl)))
  (refine Kr.seqQ (v := ?_) (a' := ?_) (by rfl) ?_ ?_ ?_; rotate_left 2; (focus (go_simp; first | done | rfl)); (focus ((try simp only [Kr.PT]); first | done | rfl)))
  refine Kr.seqR (by rfl) (fun K hK => ?_)
  go_simp
  go_at_call 17
  have hP := hash_bad (tag := sDig) (f := .slice none 0 0) (w := y2) hst HH.out
  refine (hP).mono ?_
  rintro e y3 ⟨rfl, hg⟩
  replace H := H.grow hg
  clear hg
  clear hP
  (refine Kr.outS hK (a' := ?_) ?_ ?_; rotate_left; (focus ((try simp only [Kr.PT]); first | done | rfl))); clear hK K
  (refine Kr.seqQ (v := ?_) (a' := ?_) (by rfl) ?_ ?_ ?_; rotate_left 2; (focus (go_simp; first | done | rfl)); (focus ((try simp only [Kr.PT]); first | done | rfl)))
  (refine Kr.seqQ (v := ?_) (a' := ?_) (by rfl) ?_ ?_ ?_; rotate_left 2; (focus (go_simp; first | done | rfl)); (focus ((try simp only [Kr.PT]); first | done | rfl)))
  refine Kr.seqR (by rfl) (fun K hK => ?_)
  refine wp_run rfl (stH (H.at 0 rfl) (by rw [List.length_map]; exact zH_length) (by rw [List.length_map]; exact zH_length) (oneCell_bytes _)) ?_
  obtain ⟨y4, hy⟩ : ∃ y, y3.setRow br (zH.map w8).toArray = y := ⟨_, rfl⟩
  rw [hy]
  replace H := H.put 0 hy rfl
  dsimp only [List.set] at H
  clear hy
  (refine Kr.outS hK (a' := ?_) ?_ ?_; rotate_left; (focus ((try simp only [Kr.PT]); first | done | rfl))); clear hK K
  (refine Kr.seqQ (v := ?_) (a' := ?_) (by rfl) ?_ ?_ ?_; rotate_left 2; (focus (go_simp; first | done | rfl)); (focus ((try simp only [Kr.PT]); first | done | rfl)))
  refine Kr.seqDoneW ?_
  go_wp2
  refine bodyPost_ret (v := .tuple #[.agg (zH.map w8).toArray, .int .i64 1]) (results_row_tmp rfl _ _ br 23 _ _ _ (by rfl) (H.at 0 rfl) Tryd.underlying23 rfl (by rw [List.size_toArray, List.length_map, zH_length]; exact infoH) (by rfl)) rfl ⟨rfl, H.g⟩
set_option linter.unusedSimpArgs false in
set_option maxRecDepth 100000 in
set_option maxHeartbeats 16000000 in
theorem Digest_ok {st : List (BitVec 8)} {c : Int} {lb : ByteArray} {w : World} (hst : st.length = 32) (hc : okT c = true) (hl : isL lb = true) (hC : Con w) (hT : Sta0 w) :
    Calls Tryd.prog 9 #[.agg (tr st c).toArray, .string lb] w fun e w' => e = .returned (.tuple #[.agg ((tg sDig (enc 8 (fr st (s8 lb) []))).map w8).toArray, .int .i64 0]) ∧ Gr w w' := by
  have HL := Lib.hid hl; have HC := Lib.hid hc; clear hl hc; have HCN := Lib.hid hC; have HT0 := Lib.hid hT; clear hC hT; obtain ⟨R, hR⟩ : ∃ z, tg sDig (enc 8 (fr st (s8 lb) [])) = z := ⟨_, rfl⟩; have hRl : R.length = 32 := hR ▸ tg_length _ _; rw [hR]; have HR := Lib.hid hR; clear hR
  have H := Ow.start w
  go_enter Tryd.func9, Tryd.ntmps9
  go_upto_region 0 with fail
  refine Kr.seqStartW ?_
  refine Kr.seqR (by rfl) (fun K hK => ?_)
  refine wp_runV rfl boxT ?_
  obtain ⟨y1, hy⟩ : ∃ y, w.alloc (.cells (tr st c).toArray 25) = y := ⟨_, rfl⟩
  obtain ⟨bt, hb⟩ : ∃ b, w.heap.size = b := ⟨_, rfl⟩
  rw [hy, hb]
  have hg : Gr w y1 := hy ▸ (Gr.refl _).alloc _
  replace H := H.alloc hy hb
  clear hy hb hg
  (refine Kr.outS hK (a' := ?_) ?_ ?_; rotate_left; (focus ((try simp only [Kr.PT]); first | done | rfl))); clear hK K
  refine Kr.seqR (by rfl) (fun K hK => ?_)
  refine wp_runV rfl newHz ?_
  obtain ⟨y2, hy⟩ : ∃ y, y1.alloc (.cells (zH.map w8).toArray 23) = y := ⟨_, rfl⟩
  obtain ⟨br, hb⟩ : ∃ b, y1.heap.size = b := ⟨_, rfl⟩
  rw [hy, hb]
  have hg : Gr y1 y2 := hy ▸ (Gr.refl _).alloc _
  replace H := H.alloc hy hb
  clear hy hb hg
  (refine Kr.outS hK (a' := ?_) ?_ ?_; rotate_left; (focus ((try simp only [Kr.PT]); first | done | rfl))); clear hK K
  (refine Kr.seqQ (v := ?_) (a' := ?_) (by rfl) ?_ ?_ ?_; rotate_left 2; (focus (go_simp; first | done | rfl)); (focus ((try simp only [Kr.PT]); first | done | rfl)))
  refine Kr.seqDoneW ?_
  go_upto_region 1 with fail
  refine Kr.seqStartW ?_
  (refine Kr.seqQ (v := .agg (tr st c).toArray) (a' := ?_) (by rfl) ?_ ?_ ?_; rotate_left 1; (focus (exact Kr.valOf rfl (ldT (H.at 1 rfl) (tr_len _ hst)))); (focus ((try simp only [Kr.PT]); first | done | rfl)))
  (refine Kr.seqQ (v := ?_) (a' := ?_) (by rfl) ?_ ?_ ?_; rotate_left 2; (focus (go_simp; first | done | rfl)); (focus ((try simp only [Kr.PT]); first | done | rfl)))
  refine Kr.seqR (by rfl) (fun K hK => ?_)
  go_simp
  go_at_call 17
  have hP := hash_ok (tag := sDig) (xs := []) (w := y2) hst HC.out HL.out (by decide) (by decide) (.inl ⟨rfl, rfl⟩) (fun x hx => by cases hx) (Nat.zero_le _) (HCN.out.grow H.g) (HT0.out.grow H.g); rw [HR.out] at hP
  refine (hP).mono ?_
  rintro e y3 ⟨rfl, hg⟩
  replace H := H.grow hg
  clear hg
  clear hP
  (refine Kr.outS hK (a' := ?_) ?_ ?_; rotate_left; (focus ((try simp only [Kr.PT]); first | done | rfl))); clear hK K
  (refine Kr.seqQ (v := ?_) (a' := ?_) (by rfl) ?_ ?_ ?_; rotate_left 2; (focus (go_simp; first | done | rfl)); (focus ((try simp only [Kr.PT]); first | done | rfl)))
  (refine Kr.seqQ (v := ?_) (a' := ?_) (by rfl) ?_ ?_ ?_; rotate_left 2; (focus (go_simp; first | done | rfl)); (focus ((try simp only [Kr.PT]); first | done | rfl)))
  refine Kr.seqR (by rfl) (fun K hK => ?_)
  refine wp_run rfl (stH (H.at 0 rfl) (by rw [List.length_map]; exact zH_length) (by rw [List.length_map]; exact hRl) (oneCell_bytes _)) ?_
  obtain ⟨y4, hy⟩ : ∃ y, y3.setRow br (R.map w8).toArray = y := ⟨_, rfl⟩
  rw [hy]
  replace H := H.put 0 hy rfl
  dsimp only [List.set] at H
  clear hy
  (refine Kr.outS hK (a' := ?_) ?_ ?_; rotate_left; (focus ((try simp only [Kr.PT]); first | done | rfl))); clear hK K
  (refine Kr.seqQ (v := ?_) (a' := ?_) (by rfl) ?_ ?_ ?_; rotate_left 2; (focus (go_simp; first | done | rfl)); (focus ((try simp only [Kr.PT]); first | done | rfl)))
  refine Kr.seqDoneW ?_
  go_wp2
  refine bodyPost_ret (v := .tuple #[.agg (R.map w8).toArray, .int .i64 0]) (results_row_tmp rfl _ _ br 23 _ _ _ (by rfl) (H.at 0 rfl) Tryd.underlying23 rfl (by rw [List.size_toArray, List.length_map, hRl]; exact infoH) (by rfl)) rfl ⟨rfl, H.g⟩
end Go.Proofs.YtldgjhmefaapeaaDoor.Dg
