/- The reference's Digest, Absorb. -/
import Derived.Test.YtldgjhmefaapeaaDoorQTo
import Derived.Deep.Cut
namespace Go.Proofs.YtldgjhmefaapeaaDoor.Dg
open Go Go.RowKit Go.Proofs.YtldgjhmefaapeaaDoor.Ne Go.Proofs.YtldgjhmefaapeaaDoor.Kr

set_option linter.unusedSimpArgs false in
set_option maxRecDepth 100000 in
set_option maxHeartbeats 16000000 in
theorem rDigest_v {st : List (BitVec 8)} {c : Int} {lb : ByteArray} {w : World} (hst : st.length = 32) (hl : isL lb = true) :
    Calls Tryd.prog 12 #[.agg (tr st c).toArray, .string lb] w fun e w' => e = .returned (.agg ((tg sDig (enc 8 (fr st (s8 lb) []))).map w8).toArray) ∧ Gr w w' := by
  have HL := Lib.hid hl; clear hl; obtain ⟨E, hE⟩ : ∃ z, enc 8 (fr st (s8 lb) []) = z := ⟨_, rfl⟩; have hEl : E.length ≤ 2000 := by rw [← hE]; exact Nat.le_of_lt_succ (by rw [enc_fr_len, hst, s8_length]; have := isL_size HL.out; simp; omega)
  have HE := Lib.hid hE; obtain ⟨R, hR⟩ : ∃ z, tg sDig E = z := ⟨_, rfl⟩; have hRl : R.length = 32 := hR ▸ tg_length _ _; rw [hE, hR]; have HR := Lib.hid hR; clear hR hE
  have H := Ow.start w
  go_enter Tryd.func12, Tryd.ntmps12
  go_upto_region 0 with fail
  refine Kr.seqStartW ?_
  refine Kr.seqR (by rfl) (fun K hK => ?_)
  refine wp_runV rfl boxT ?_
  obtain ⟨y1, hy⟩ : ∃ y, w.alloc (.cells (tr st c).toArray 25) = y := ⟨_, rfl⟩
  obtain ⟨bt, hb⟩ : ∃ b, w.heap.size = b := ⟨_, rfl⟩
  rw [hy, hb]
  have hg : Gr w y1 := hy ▸ (Gr.refl _).alloc _
  replace H := H.alloc hy hb
  clear hy hb hg
  (refine Kr.outS hK (a' := ?_) ?_ ?_; rotate_left; (focus ((try simp only [Kr.PT]); first | done | rfl))); clear hK K
  refine Kr.seqR (by rfl) (fun K hK => ?_)
  refine wp_runV rfl newHz ?_
  obtain ⟨y2, hy⟩ : ∃ y, y1.alloc (.cells (zH.map w8).toArray 23) = y := ⟨_, rfl⟩
  obtain ⟨br, hb⟩ : ∃ b, y1.heap.size = b := ⟨_, rfl⟩
  rw [hy, hb]
  have hg : Gr y1 y2 := hy ▸ (Gr.refl _).alloc _
  replace H := H.alloc hy hb
  clear hy hb hg
  (refine Kr.outS hK (a' := ?_) ?_ ?_; rotate_left; (focus ((try simp only [Kr.PT]); first | done | rfl))); clear hK K
  refine Kr.seqDoneW ?_
  go_upto_region 1 with fail
  refine Kr.seqStartW ?_
  (refine Kr.seqQ (v := .agg (tr st c).toArray) (a' := ?_) (by rfl) ?_ ?_ ?_; rotate_left 1; (focus (exact Kr.valOf rfl (ldT (H.at 1 rfl) (tr_len _ hst)))); (focus ((try simp only [Kr.PT]); first | done | rfl)))
  (refine Kr.seqQ (v := ?_) (a' := ?_) (by rfl) ?_ ?_ ?_; rotate_left 2; (focus (go_simp; first | done | rfl)); (focus ((try simp only [Kr.PT]); first | done | rfl)))
  refine Kr.seqR (by rfl) (fun K hK => ?_)
  go_simp
  go_at_call 22
  refine (rframe0_v (c := c) (w := y2) hst (isL_size HL.out).1 (isL_size HL.out).2).mono ?_
  rintro e y3 ⟨f0, f1, f2, f3, kf, rfl, hone, hit, hg⟩; have HFI := Lib.hid hit; have HFO := Lib.hid hone; clear hit hone
  replace H := H.grow hg
  clear hg
  (refine Kr.outS hK (a' := ?_) ?_ ?_; rotate_left; (focus ((try simp only [Kr.PT]); first | done | rfl))); clear hK K
  refine Kr.seqR (by rfl) (fun K hK => ?_)
  go_simp
  go_at_call 21
  have hP := rEncode_v 8 (w := y3) HFI.out (vld_fr0 _ _) (by rw [enc_fr_len, hst, s8_length]; have := isL_size HL.out; simp; omega); rw [HE.out] at hP; refine hP.mono ?_; clear hP
  rintro e y4 ⟨pe, ne, ce, rfl, hne, hpe, hse, hg⟩; have HSE := Lib.hid hse; have HPE := Lib.hid hpe; clear hse hpe
  replace H := H.grow hg
  replace HFI := Lib.hid (HFI.out.grow hg)
  clear hg
  (refine Kr.outS hK (a' := ?_) ?_ ?_; rotate_left; (focus ((try simp only [Kr.PT]); first | done | rfl))); clear hK K
  refine Kr.seqR (by rfl) (fun K hK => ?_)
  go_simp
  go_at_call 20
  have hP := rTagged_v (t := sDig) (c := ce) (w := y4) (by decide) HSE.out hne HPE.out (by omega); rw [HR.out] at hP
  refine (hP).mono ?_
  rintro e y5 ⟨rfl, hg⟩
  replace H := H.grow hg
  clear hg
  clear hP
  (refine Kr.outS hK (a' := ?_) ?_ ?_; rotate_left; (focus ((try simp only [Kr.PT]); first | done | rfl))); clear hK K
  refine Kr.seqR (by rfl) (fun K hK => ?_)
  refine wp_run rfl (stH (H.at 0 rfl) (by rw [List.length_map]; exact zH_length) (by rw [List.length_map]; exact hRl) (oneCell_bytes _)) ?_
  obtain ⟨y6, hy⟩ : ∃ y, y5.setRow br (R.map w8).toArray = y := ⟨_, rfl⟩
  rw [hy]
  replace H := H.put 0 hy rfl
  dsimp only [List.set] at H
  clear hy
  (refine Kr.outS hK (a' := ?_) ?_ ?_; rotate_left; (focus ((try simp only [Kr.PT]); first | done | rfl))); clear hK K
  refine Kr.seqDoneW ?_
  go_wp2
  refine bodyPost_ret (v := .agg (R.map w8).toArray) (results_cell_row rfl _ _ br 23 _ _ _ (by rfl) (H.at 0 rfl) Tryd.underlying23 rfl (by rw [List.size_toArray, List.length_map, hRl]; exact infoH)) rfl ⟨rfl, H.g⟩
theorem ItV.low {W : World} : ∀ {d : Nat} {F : Nat → Prop} {v : Value} {t : It}, ItV W d F v t → ItV W d (fun b => b < W.heap.size) v t
  | 0, _, _, _, h => h.elim
  | d + 1, F, v, t, ⟨pb, cb, pl, cl, e, h1, h2, h3, h4, h5, h6, hb, hl⟩ =>
    ⟨pb, cb, pl, cl, e, h1, h2, h3, h4, h5, h6, by
      rcases hb with h | ⟨b, off, e, f, h⟩
      · exact .inl h
      · by_cases h0 : t.b = []
        · exact .inl h0
        · exact .inr ⟨b, off, e, src_lt (.inr ⟨b, off, rfl, h⟩) rfl (List.length_pos_iff.2 h0), h⟩, fun j x hx => by
      obtain ⟨b, off, v0, v1, v2, v3, e, f, c0, c1, c2, c3, h⟩ := hl j x hx
      refine ⟨b, off, v0, v1, v2, v3, e, ?_, c0, c1, c2, c3, h.low⟩
      rcases Nat.lt_or_ge b W.heap.size with h' | h'
      · exact h'
      · simp [World.cell?, Array.getElem?_eq_none h'] at c0⟩
set_option linter.unusedSimpArgs false in
set_option maxRecDepth 100000 in
set_option maxHeartbeats 16000000 in
theorem rAbsorb_ok {k : Nat} {x : It} {v0 v1 v2 v3 : Value} {st : List (BitVec 8)} {c : Int} {lb : ByteArray} {w : World} (hst : st.length = 32) (hone : ∀ u ∈ ([v0, v1, v2, v3] : List Value), u.oneCell' = true) (hc : okT c = true) (hl : isL lb = true) (hix : ItV w k (fun _ => True) (.agg #[v0, v1, v2, v3]) x) (hv : vld 7 x = true) (hln : (enc 7 x).length ≤ 16000) (hful : ¬ c = 1000) :
    Calls Tryd.prog 23 #[.agg (tr st c).toArray, .string lb, .agg #[v0, v1, v2, v3]] w fun e w' => e = .returned (.tuple #[.agg (tr (tg sAbsorb (enc 8 (fr st (s8 lb) [x]))) (c + 1)).toArray, .int .i64 0]) ∧ Gr w w' := by
  have HL := Lib.hid hl; have HC := Lib.hid hc; clear hl hc; have HV := Lib.hid hv; have HLN := Lib.hid hln; have HIX := Lib.hid hix; have HONE := Lib.hid hone; clear hv hln hix hone; obtain ⟨E, hE⟩ : ∃ z, enc 8 (fr st (s8 lb) [x]) = z := ⟨_, rfl⟩
  have hEl : E.length ≤ 16384 := by
    rw [← hE, enc_fr_len, hst, s8_length, List.flatMap_cons, List.flatMap_nil, List.append_nil]
    have := isL_size HL.out; have := HLN.out; omega
  have HE := Lib.hid hE; obtain ⟨R, hR⟩ : ∃ z, tg sAbsorb E = z := ⟨_, rfl⟩; have hRl : R.length = 32 := hR ▸ tg_length _ _; rw [hE, hR]; have HR := Lib.hid hR; clear hR hE
  obtain ⟨c2, hc2⟩ : ∃ z, c + 1 = z := ⟨_, rfl⟩; rw [hc2]
  have hadd : IntKind.i64.wrap (c + 1) = c2 := by rw [hc2]; have hh := HC.out; simp only [okT, Bool.and_eq_true, decide_eq_true_eq] at hh; exact IntWalk.i64_in _ (by omega)
  have HADD := Lib.hid hadd; clear hc2 hadd
  have D1 : decide (c = 1000) = false := decide_eq_false (by exact hful)
  clear hful
  have H := Ow.start w
  go_enter Tryd.func23, Tryd.ntmps23
  go_upto_region 0 with fail
  refine Kr.seqStartW ?_
  refine Kr.seqR (by rfl) (fun K hK => ?_)
  refine wp_runV rfl boxT ?_
  obtain ⟨y1, hy⟩ : ∃ y, w.alloc (.cells (tr st c).toArray 25) = y := ⟨_, rfl⟩
  obtain ⟨bt, hb⟩ : ∃ b, w.heap.size = b := ⟨_, rfl⟩
  rw [hy, hb]
  have hg : Gr w y1 := hy ▸ (Gr.refl _).alloc _
  replace H := H.alloc hy hb
  clear hy hb hg
  (refine Kr.outS hK (a' := ?_) ?_ ?_; rotate_left; (focus ((try simp only [Kr.PT]); first | done | rfl))); clear hK K
  refine Kr.seqR (by rfl) (fun K hK => ?_)
  refine wp_runV rfl boxI ?_
  obtain ⟨y2, hy⟩ : ∃ y, y1.alloc (.cells ([v0, v1, v2, v3]).toArray 49) = y := ⟨_, rfl⟩
  obtain ⟨bi, hb⟩ : ∃ b, y1.heap.size = b := ⟨_, rfl⟩
  rw [hy, hb]
  have hg : Gr y1 y2 := hy ▸ (Gr.refl _).alloc _
  replace H := H.alloc hy hb
  clear hy hb hg
  (refine Kr.outS hK (a' := ?_) ?_ ?_; rotate_left; (focus ((try simp only [Kr.PT]); first | done | rfl))); clear hK K
  refine Kr.seqR (by rfl) (fun K hK => ?_)
  refine wp_runV rfl newT ?_
  obtain ⟨y3, hy⟩ : ∃ y, y2.alloc (.cells (tr zH 0).toArray 25) = y := ⟨_, rfl⟩
  obtain ⟨br, hb⟩ : ∃ b, y2.heap.size = b := ⟨_, rfl⟩
  rw [hy, hb]
  have hg : Gr y2 y3 := hy ▸ (Gr.refl _).alloc _
  replace H := H.alloc hy hb
  clear hy hb hg
  (refine Kr.outS hK (a' := ?_) ?_ ?_; rotate_left; (focus ((try simp only [Kr.PT]); first | done | rfl))); clear hK K
  (refine Kr.seqQ (v := ?_) (a' := ?_) (by rfl) ?_ ?_ ?_; rotate_left 2; (focus (go_simp; first | done | rfl)); (focus ((try simp only [Kr.PT]); first | done | rfl)))
  refine Kr.seqDoneW ?_
  go_upto_region 1 with fail
  refine Kr.seqStartW ?_
  (refine Kr.seqQ (v := .agg (tr st c).toArray) (a' := ?_) (by rfl) ?_ ?_ ?_; rotate_left 1; (focus (exact Kr.valOf rfl (ldT (H.at 2 rfl) (tr_len _ hst)))); (focus ((try simp only [Kr.PT]); first | done | rfl)))
  refine Kr.seqR (by rfl) (fun K hK => ?_)
  go_simp
  go_at_call 10
  have hP := rValidT_v (st := st) (c := c) (w := y3) hst; rw [HC.out] at hP
  refine (hP).mono ?_
  rintro e y4 ⟨rfl, hg⟩
  replace H := H.grow hg
  clear hg
  clear hP
  (refine Kr.outS hK (a' := ?_) ?_ ?_; rotate_left; (focus ((try simp only [Kr.PT]); first | done | rfl))); clear hK K
  (refine Kr.seqQ (v := ?_) (a' := ?_) (by rfl) ?_ ?_ ?_; rotate_left 2; (focus (go_simp; first | done | rfl)); (focus ((try simp only [Kr.PT]); first | done | rfl)))
  (refine Kr.seqQ (v := ?_) (a' := ?_) (by rfl) ?_ ?_ ?_; rotate_left 2; (focus (go_simp; first | done | rfl)); (focus ((try simp only [Kr.PT]); first | done | rfl)))
  (refine Kr.seqQ (v := ?_) (a' := ?_) (by rfl) ?_ ?_ ?_; rotate_left 2; (focus (go_simp; first | done | rfl)); (focus ((try simp only [Kr.PT]); first | done | rfl)))
  refine Kr.seqR (by rfl) (fun K hK => ?_)
  go_simp
  go_at_call 11
  have hP := rLabel_v (s := lb) (w := y4); rw [HL.out] at hP
  refine (hP).mono ?_
  rintro e y5 ⟨rfl, hg⟩
  replace H := H.grow hg
  clear hg
  clear hP
  (refine Kr.outS hK (a' := ?_) ?_ ?_; rotate_left; (focus ((try simp only [Kr.PT]); first | done | rfl))); clear hK K
  (refine Kr.seqQ (v := ?_) (a' := ?_) (by rfl) ?_ ?_ ?_; rotate_left 2; (focus (go_simp; first | done | rfl)); (focus ((try simp only [Kr.PT]); first | done | rfl)))
  (refine Kr.seqQ (v := ?_) (a' := ?_) (by rfl) ?_ ?_ ?_; rotate_left 2; (focus (go_simp; first | done | rfl)); (focus ((try simp only [Kr.PT]); first | done | rfl)))
  refine Kr.seqDoneW ?_
  go_upto_region 3 with fail
  refine Kr.seqStartW ?_
  (refine Kr.seqQ (v := .agg (tr st c).toArray) (a' := ?_) (by rfl) ?_ ?_ ?_; rotate_left 1; (focus (exact Kr.valOf rfl (ldT (H.at 2 rfl) (tr_len _ hst)))); (focus ((try simp only [Kr.PT]); first | done | rfl)))
  (refine Kr.seqQ (v := ?_) (a' := ?_) (by rfl) ?_ ?_ ?_; rotate_left 2; (focus (go_simp; first | done | rfl)); (focus ((try simp only [Kr.PT]); first | done | rfl)))
  (refine Kr.seqQ (v := .agg #[v0, v1, v2, v3]) (a' := ?_) (by rfl) ?_ ?_ ?_; rotate_left 1; (focus (exact Kr.valOf rfl (ldI (H.at 1 rfl)))); (focus ((try simp only [Kr.PT]); first | done | rfl)))
  refine Kr.seqR (by rfl) (fun K hK => ?_)
  go_simp
  obtain ⟨y6, hy⟩ : ∃ y, y5.alloc (.cells #[v0, v1, v2, v3] 49) = y := ⟨_, rfl⟩
  obtain ⟨bone, hbn⟩ : ∃ b, y5.heap.size = b := ⟨_, rfl⟩
  rw [hy, hbn]
  have hy2 : y5.alloc (.cells ([v0, v1, v2, v3] : List Value).toArray 49) = y6 := hy
  have hg : Gr y5 y6 := hy ▸ (Gr.refl _).alloc _
  have HLIT := Lib.hid (hbn ▸ hy2 ▸ lit_src (W := y5) (T := 49) [v0, v1, v2, v3]); clear hy2
  replace H := H.grow hg
  clear hg hy hbn
  (refine Kr.outS hK (a' := ?_) ?_ ?_; rotate_left; (focus ((try simp only [Kr.PT]); first | done | rfl))); clear hK K
  refine Kr.seqR (by rfl) (fun K hK => ?_)
  go_simp
  go_at_call 22
  refine (rframe1_v (c := c) (w := y6) hst (isL_size HL.out).1 (isL_size HL.out).2 HLIT.out HONE.out (HIX.out.grow H.g)).mono ?_
  rintro e y7 ⟨f0, f1, f2, f3, kf, rfl, hone, hit, hg⟩; have HFI := Lib.hid hit; have HFO := Lib.hid hone; clear hit hone
  replace H := H.grow hg
  clear hg
  obtain ⟨wf, hwf⟩ : ∃ z, y7 = z := ⟨_, rfl⟩; have hlow := ItV.low HFI.out; rw [hwf] at hlow; have HFI0 := Lib.hid hlow; have HGF : Hid (Gr wf y7) := Lib.hid (hwf ▸ Gr.refl _); clear hlow HFI hwf
  (refine Kr.outS hK (a' := ?_) ?_ ?_; rotate_left; (focus ((try simp only [Kr.PT]); first | done | rfl))); clear hK K
  refine Kr.seqR (by rfl) (fun K hK => ?_)
  refine wp_runV rfl newI ?_
  obtain ⟨y8, hy⟩ : ∃ y, y7.alloc (.cells ([.int .i64 0, .int .i64 0, .slice none 0 0, .slice none 0 0]).toArray 49) = y := ⟨_, rfl⟩
  obtain ⟨bf, hb⟩ : ∃ b, y7.heap.size = b := ⟨_, rfl⟩
  rw [hy, hb]
  have HGF2 : Hid (Gr wf y8) := Lib.hid (HGF.out.trans (hy ▸ (Gr.refl _).alloc _)); have HBF : Hid (wf.heap.size ≤ bf) := Lib.hid (hb ▸ HGF.out.size); clear HGF; have HGF := HGF2; clear HGF2
  have hg : Gr y7 y8 := hy ▸ (Gr.refl _).alloc _
  replace H := H.alloc hy hb
  clear hy hb hg
  (refine Kr.outS hK (a' := ?_) ?_ ?_; rotate_left; (focus ((try simp only [Kr.PT]); first | done | rfl))); clear hK K
  refine Kr.seqR (by rfl) (fun K hK => ?_)
  refine wp_run rfl (stI (H.at 0 rfl) HFO.out) ?_
  have hk := HFI0.out.kept (W' := y8.setRow bf ([f0, f1, f2, f3] : List Value).toArray) (fun b hb => (setRow_other y8 bf b _ (fun e => by have h1 := HBF.out; have h2 : b < wf.heap.size := hb; omega)).trans (HGF.out.block b hb))
  obtain ⟨y9, hy⟩ : ∃ y, y8.setRow bf ([f0, f1, f2, f3] : List Value).toArray = y := ⟨_, rfl⟩; rw [hy]; rw [hy] at hk; have HFI := Lib.hid hk; clear hk
  replace H := H.put 0 hy rfl; dsimp only [List.set] at H; clear hy
  (refine Kr.outS hK (a' := ?_) ?_ ?_; rotate_left; (focus ((try simp only [Kr.PT]); first | done | rfl))); clear hK K
  refine Kr.seqDoneW ?_
  go_upto_region 4 with fail
  refine Kr.seqStartW ?_
  (refine Kr.seqQ (v := .agg #[f0, f1, f2, f3]) (a' := ?_) (by rfl) ?_ ?_ ?_; rotate_left 1; (focus (exact Kr.valOf rfl (ldI (H.at 0 rfl)))); (focus ((try simp only [Kr.PT]); first | done | rfl)))
  refine Kr.seqR (by rfl) (fun K hK => ?_)
  go_simp
  go_at_call 37
  have hP := rValid_v (w := y9) HFI.out; rw [vld_fr1 st (s8 lb) HV.out] at hP
  refine (hP).mono ?_
  rintro e y10 ⟨rfl, hg⟩
  replace H := H.grow hg
  replace HFI := Lib.hid (HFI.out.grow hg)
  clear hg
  clear hP
  (refine Kr.outS hK (a' := ?_) ?_ ?_; rotate_left; (focus ((try simp only [Kr.PT]); first | done | rfl))); clear hK K
  (refine Kr.seqQ (v := ?_) (a' := ?_) (by rfl) ?_ ?_ ?_; rotate_left 2; (focus (go_simp; first | done | rfl)); (focus ((try simp only [Kr.PT]); first | done | rfl)))
  refine Kr.seqDoneW ?_
  go_upto_region 6 with fail
  refine Kr.seqStartW ?_
  (refine Kr.seqQ (v := .agg #[f0, f1, f2, f3]) (a' := ?_) (by rfl) ?_ ?_ ?_; rotate_left 1; (focus (exact Kr.valOf rfl (ldI (H.at 0 rfl)))); (focus ((try simp only [Kr.PT]); first | done | rfl)))
  refine Kr.seqR (by rfl) (fun K hK => ?_)
  go_simp
  go_at_call 21
  have hP := rEncode_v 8 (w := y10) HFI.out (vld_fr1 _ _ HV.out) (by rw [HE.out]; omega); rw [HE.out] at hP; refine hP.mono ?_; clear hP
  rintro e y11 ⟨pe, ne, ce, rfl, hne, hpe, hse, hg⟩; have HSE := Lib.hid hse; have HPE := Lib.hid hpe; clear hse hpe
  replace H := H.grow hg
  replace HFI := Lib.hid (HFI.out.grow hg)
  clear hg
  (refine Kr.outS hK (a' := ?_) ?_ ?_; rotate_left; (focus ((try simp only [Kr.PT]); first | done | rfl))); clear hK K
  (refine Kr.seqQ (v := ?_) (a' := ?_) (by rfl) ?_ ?_ ?_; rotate_left 2; (focus (go_simp; first | done | rfl)); (focus ((try simp only [Kr.PT]); first | done | rfl)))
  refine Kr.seqDoneW ?_
  have D2 : decide ((16384 : Int) < (ne : Int)) = false := decide_eq_false (by omega)
  go_upto_region 7 with fail
  refine Kr.seqStartW ?_
  (refine Kr.seqQ (v := .pointer (some ⟨bt, 32, none⟩)) (a' := ?_) (by rfl) ?_ ?_ ?_; rotate_left 1; (focus (go_simp; first | done | rfl)); (focus ((try simp only [Kr.PT]); first | done | rfl)))
  (refine Kr.seqQ (v := .int .i64 c) (a' := ?_) (by rfl) ?_ ?_ ?_; rotate_left 1; (focus (exact Kr.valOf rfl (ldInt (rowCell (j := 32) (H.at 3 rfl) (tr_cnt _ hst))))); (focus ((try simp only [Kr.PT]); first | done | rfl)))
  (refine Kr.seqQ (v := .bool false) (a' := ?_) (by rfl) ?_ ?_ ?_; rotate_left 1; (focus (exact Kr.valOf rfl (eqlI D1))); (focus ((try simp only [Kr.PT]); first | done | rfl)))
  (refine Kr.seqQ (v := ?_) (a' := ?_) (by rfl) ?_ ?_ ?_; rotate_left 2; (focus (go_simp; first | done | rfl)); (focus ((try simp only [Kr.PT]); first | done | rfl)))
  (refine Kr.seqQ (v := ?_) (a' := ?_) (by rfl) ?_ ?_ ?_; rotate_left 2; (focus (go_simp; first | done | rfl)); (focus ((try simp only [Kr.PT]); first | done | rfl)))
  (refine Kr.seqQ (v := .int .i64 (ne : Int)) (a' := ?_) (by rfl) ?_ ?_ ?_; rotate_left 1; (focus (exact Kr.valOf rfl ((by go_simp)))); (focus ((try simp only [Kr.PT]); first | done | rfl)))
  (refine Kr.seqQ (v := .bool false) (a' := ?_) (by rfl) ?_ ?_ ?_; rotate_left 1; (focus (exact Kr.valOf rfl (gtrI D2))); (focus ((try simp only [Kr.PT]); first | done | rfl)))
  (refine Kr.seqQ (v := ?_) (a' := ?_) (by rfl) ?_ ?_ ?_; rotate_left 2; (focus (go_simp; first | done | rfl)); (focus ((try simp only [Kr.PT]); first | done | rfl)))
  refine Kr.seqDoneW ?_
  go_upto_region 9 with fail
  refine Kr.startL (fun W' => (W'.heap[bt]? = some (.cells (tr st c).toArray 25 (0, 0))) ∧ True) [6] (by kernel_rfl) ?_
  have gd : Gr y11 y11.drew := (Gr.refl _).drew
  generalize y11.drew = d12 at gd ⊢
  replace H := H.grow gd
  replace HSE := Lib.hid (HSE.out.grow gd)
  clear gd
  (refine Kr.tPQ 0 (v := ?_) (a' := ?_) rfl (by kernel_rfl) (fun _ _ _ h => h) (by rfl) (fun _ => ⟨(H.at 3 rfl), trivial⟩) (fun wx => ?_) ?_ ?_; rotate_left 2; (focus (go_simp; first | done | rfl)); (focus ((try simp only [Kr.PT]); first | done | rfl)))
  (refine Kr.tPQ 2 (v := ?_) (a' := ?_) rfl (by kernel_rfl) (fun _ _ _ h => h) (by rfl) (fun _ => ⟨(H.at 3 rfl), trivial⟩) (fun wx => ?_) ?_ ?_; rotate_left 2; (focus (go_simp; first | done | rfl)); (focus ((try simp only [Kr.PT]); first | done | rfl)))
  (refine Kr.tSQ 3 [4, 5, 6, 7] (v := .int .i64 c) (a' := ?_) rfl (by kernel_rfl) (fun _ _ _ h => h) (by rfl) ⟨(H.at 3 rfl), trivial⟩ (fun wx hSx => ?_) ?_ ?_; rotate_left 1; (focus (exact Kr.valOf rfl (ldInt (rowCell (j := 32) hSx.1 (tr_cnt _ hst))))); (focus ((try simp only [Kr.PT]); first | done | rfl)))
  (refine Kr.tPQ 4 (v := .int .i64 c2) (a' := ?_) rfl (by kernel_rfl) (fun _ _ _ h => h) (by rfl) (fun _ => ⟨(H.at 3 rfl), trivial⟩) (fun wx => ?_) ?_ ?_; rotate_left 1; (focus (exact Kr.valOf rfl (addI HADD.out))); (focus ((try simp only [Kr.PT]); first | done | rfl)))
  refine Kr.readyL (rs := [1]) (by kernel_rfl) (by simp) ?_
  refine Kr.AllL.cons rfl (fun K hK => ?_) Kr.AllL.nil
  go_simp
  go_at_call 20
  have hP := rTagged_v (t := sAbsorb) (c := ce) (w := d12) (by decide) HSE.out hne HPE.out (by omega); rw [HR.out] at hP
  refine (hP).mono ?_
  rintro e y13 ⟨rfl, hg⟩
  replace H := H.grow hg
  clear hg
  clear hP
  (refine Kr.outL hK (a' := ?_) ?_ (fun _ => ⟨(H.at 3 rfl), trivial⟩) ?_; rotate_left; (focus ((try simp only [Kr.PT]); first | done | rfl))); clear hK K
  (refine Kr.tPQ 5 (v := .agg (tr R c2).toArray) (a' := ?_) rfl (by kernel_rfl) (fun _ _ _ h => h) (by rfl) (fun _ => ⟨(H.at 3 rfl), trivial⟩) (fun wx => ?_) ?_ ?_; rotate_left 1; (focus (exact Kr.valOf rfl (bldT2p (by go_simp) hRl))); (focus ((try simp only [Kr.PT]); first | done | rfl)))
  refine Kr.readyL (rs := [6]) (by kernel_rfl) (by simp) ?_
  refine Kr.AllL.cons rfl (fun K hK => ?_) Kr.AllL.nil
  rw [if_pos (by rfl)]
  refine wp_run rfl (stT (H.at 1 rfl) (tr_len _ zH_length) (tr_len _ hRl) (tr_one _ _)) ?_
  obtain ⟨y14, hy⟩ : ∃ y, y13.setRow br (tr R c2).toArray = y := ⟨_, rfl⟩
  rw [hy]
  replace H := H.put 1 hy rfl
  dsimp only [List.set] at H
  clear hy
  (refine Kr.outL hK (a' := ?_) ?_ (Kr.noStill (by kernel_rfl)) ?_; rotate_left; (focus ((try simp only [Kr.PT]); first | done | rfl))); clear hK K
  (refine Kr.tPQ 7 (v := ?_) (a' := ?_) rfl (by kernel_rfl) (fun _ _ _ h => h) (by rfl) (Kr.noStill (by kernel_rfl)) (fun wx => ?_) ?_ ?_; rotate_left 2; (focus (go_simp; first | done | rfl)); (focus ((try simp only [Kr.PT]); first | done | rfl)))
  refine Kr.doneL (by kernel_rfl) ?_ _
  go_wp2
  refine bodyPost_ret (v := .tuple #[.agg (tr R c2).toArray, .int .i64 0]) (results_row_tmp rfl _ _ br 25 _ _ _ (by rfl) (H.at 1 rfl) Tryd.underlying25 rfl (by rw [List.size_toArray, tr_len _ hRl]; exact infoT) (by rfl)) rfl ⟨rfl, H.g⟩
end Go.Proofs.YtldgjhmefaapeaaDoor.Dg
