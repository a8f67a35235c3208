/- The reference's frame. -/
import Derived.Test.YtldgjhmefaapeaaDoorQTn
import Derived.Deep.Cut
namespace Go.Proofs.YtldgjhmefaapeaaDoor.Dg
open Go Go.RowKit Go.Proofs.YtldgjhmefaapeaaDoor.Ne Go.Proofs.YtldgjhmefaapeaaDoor.Kr

theorem itv_src {W : World} {p : Option Addr} {n c : Nat} {l : List (BitVec 8)} (h : SrcB p l W) (hl : l.length = n) (hc : n ≤ c) (hp : p = none → c = 0) (hn : n ≤ 4611686018427387904) :
    ItV W 1 (fun _ => True) (.agg #[.int .i64 2, .int .i64 0, .slice p n c, .slice none 0 0]) (.mk 2 0 l []) :=
  ⟨p, c, none, 0, by rw [← hl]; rfl, inR2, inR0, hp, by rw [← hl] at hc; exact hc, by rw [← hl] at hn; exact hn, Nat.zero_le _, h.imp id (fun ⟨b, off, e, h⟩ => ⟨b, off, e, trivial, h⟩), fun j x hx => by cases hx⟩
theorem bytes_off {W W' : World} {b off : Nat} {l : List (BitVec 8)} (h : BytesAt b off l W) (g : W'.heap[b]? = W.heap[b]?) : BytesAt b off l W' := fun j x hx => (World.cell?_of_block (a := ⟨b, off + j, none⟩) g).trans (h j x hx)
/-- The bytes of a row of one's own: where they lie. -/
theorem rowG_at {W : World} {B : Nat} {v : Value} {l : List (BitVec 8)} (h : RowG 5 B v (l.map w8) W) (h0 : 0 < l.length) : ∃ b c, v = .slice (some ⟨b, 0, none⟩) l.length c ∧ v.ownBlock = some b ∧ l.length ≤ c ∧ BytesAt b 0 l W ∧ B ≤ b ∧ b < W.heap.size := by
  have hlt := h.lt
  rcases h.2 with ⟨e1, e2⟩ | ⟨g, cap, cur, e1, e2, e3, e4, _, _, e7⟩
  · rw [List.length_map] at e2; omega
  · rw [List.length_map] at e1 e4 e7
    subst e1
    refine ⟨g, cap, rfl, rfl, e4, fun j x hx => ?_, (hlt g rfl).1, (hlt g rfl).2⟩
    have hj : j < l.length := (List.getElem?_eq_some_iff.1 hx).1
    rw [Nat.zero_add, cell_of_row W g j cur _ _ e3]
    have h2 : (l.map w8)[j]? = some (w8 x) := map_get8 hx
    rw [← e7, Nat.mul_one, List.getElem?_take, if_pos hj] at h2
    simpa using h2
/-- What a call says that hands back the list. -/
def RfP (w : World) (t : It) (e : Ending) (w' : World) : Prop := ∃ v0 v1 v2 v3 k, e = .returned (.agg #[v0, v1, v2, v3]) ∧ (∀ u ∈ ([v0, v1, v2, v3] : List Value), u.oneCell' = true) ∧ ItV w' k (fun _ => True) (.agg #[v0, v1, v2, v3]) t ∧ Gr w w'

set_option linter.unusedSimpArgs false in
set_option maxRecDepth 100000 in
set_option maxHeartbeats 16000000 in
theorem rframe0_v {st : List (BitVec 8)} {c : Int} {lb : ByteArray} {w : World} (hst : st.length = 32) (hl1 : 1 ≤ lb.size) (hl2 : lb.size ≤ 24) :
    Calls Tryd.prog 22 #[.agg (tr st c).toArray, .string lb, .slice none 0 0] w (RfP w (fr st (s8 lb) [])) := by
  have HST := Lib.hid hst; clear hst
  have H := Ow.start w
  go_enter Tryd.func22, Tryd.ntmps22
  go_upto_region 0 with fail
  refine Kr.seqStartW ?_
  refine Kr.seqR (by rfl) (fun K hK => ?_)
  refine wp_runV rfl boxT ?_
  obtain ⟨y1, hy⟩ : ∃ y, w.alloc (.cells (tr st c).toArray 25) = y := ⟨_, rfl⟩
  obtain ⟨bt, hb⟩ : ∃ b, w.heap.size = b := ⟨_, rfl⟩
  rw [hy, hb]
  have hg : Gr w y1 := hy ▸ (Gr.refl _).alloc _
  replace H := H.alloc hy hb
  clear hy hb hg
  (refine Kr.outS hK (a' := ?_) ?_ ?_; rotate_left; (focus ((try simp only [Kr.PT]); first | done | rfl))); clear hK K
  refine Kr.seqR (by rfl) (fun K hK => ?_)
  refine wp_runV rfl newI ?_
  obtain ⟨y2, hy⟩ : ∃ y, y1.alloc (.cells ([.int .i64 0, .int .i64 0, .slice none 0 0, .slice none 0 0]).toArray 49) = y := ⟨_, rfl⟩
  obtain ⟨bz, hb⟩ : ∃ b, y1.heap.size = b := ⟨_, rfl⟩
  rw [hy, hb]
  have hg : Gr y1 y2 := hy ▸ (Gr.refl _).alloc _
  replace H := H.alloc hy hb
  clear hy hb hg
  (refine Kr.outS hK (a' := ?_) ?_ ?_; rotate_left; (focus ((try simp only [Kr.PT]); first | done | rfl))); clear hK K
  refine Kr.seqDoneW ?_
  go_upto_region 1 with fail
  refine Kr.seqStartW ?_
  refine Kr.seqR (by rfl) (fun K hK => ?_)
  go_simp
  have hR0 := rowG_lit (W := y2) (T := 5) (B := y2.heap.size) (xs := []) (Nat.le_refl _) (by decide)
  have hA0 := apt_rowG H hR0
  obtain ⟨y3, hy⟩ : ∃ y, y2.alloc (.cells #[] 5) = y := ⟨_, rfl⟩; obtain ⟨bone, hbn⟩ : ∃ b, y2.heap.size = b := ⟨_, rfl⟩; rw [hy, hbn]
  have hR1 : RowG 5 w.heap.size (.slice (some ⟨bone, 0, none⟩) 0 0) [] y3 := by
    have h := rowG_low H.g.size hR0
    rw [show y2.alloc (.cells ([] : List Value).toArray 5) = y3 from hy, hbn] at h; exact h
  rw [hbn] at hA0; have HR := Lib.hid hR1; have HA := Lib.hid hA0; have hg : Gr y2 y3 := hy ▸ (Gr.refl _).alloc _; clear hR0 hR1 hA0
  replace H := H.grow hg
  clear hg hy hbn
  (refine Kr.outS hK (a' := ?_) ?_ ?_; rotate_left; (focus ((try simp only [Kr.PT]); first | done | rfl))); clear hK K
  (refine Kr.seqQ (v := .pointer (some ⟨bt, 0, none⟩)) (a' := ?_) (by rfl) ?_ ?_ ?_; rotate_left 1; (focus (go_simp; first | done | rfl)); (focus ((try simp only [Kr.PT]); first | done | rfl)))
  (refine Kr.seqQ (v := .slice (some ⟨bt, 0, none⟩) 32 32) (a' := ?_) (by rfl) ?_ ?_ ?_; rotate_left 1; (focus (exact Kr.valOf rfl (slH))); (focus ((try simp only [Kr.PT]); first | done | rfl)))
  refine Kr.seqR (by rfl) (fun K hK => ?_)
  refine wp_appG (T := 5) (TS := 46) Tryd.underlying46 info8 rfl (.tmp 8) (.tmp 10) rfl (v := .slice (some ⟨bone, 0, none⟩) 0 0) (r := []) (d := (st.map w8)) (p := (some ⟨bt, 0, none⟩)) (m := 32) (c := 32) (rs := [(bz, 49, [.int .i64 0, .int .i64 0, .slice none 0 0, .slice none 0 0]), (bt, 25, tr st c)]) rfl rfl (by rw [List.length_map]; exact HST.out) ((SrcB.srcG (.inr ⟨bt, 0, rfl, bytesAt_tr (H.at 1 rfl)⟩))) (one_lit8 _) (fun e => by cases e) H HR.out HA.out (by show 0 + 32 ≤ _; decide) (by decide) ?_
  intro q5 y4 H3 hR3 hA3
  clear H HR HA; have H := H3; have HR := Lib.hid hR3; have HA := Lib.hid hA3; clear H3 hR3 hA3
  rw [List.nil_append] at HR; obtain ⟨bA, cA, hvA, hoA, hcA, hba, _, hlA⟩ := rowG_at HR.out (by rw [HST.out]; decide); have hnA := HA.out bA hoA; rw [HST.out] at hvA hcA; subst hvA
  have hA1 : bz ≠ bA := hnA (bz, _, _) (List.mem_cons_self ..); have hA2 : bt ≠ bA := hnA (bt, _, _) (List.mem_cons_of_mem _ (List.mem_cons_self ..))
  have HBA := Lib.hid hba; have HLA := Lib.hid hlA; have HCA := Lib.hid hcA; have HNA := Lib.hid hA1; clear HR HA hnA hoA hba hlA hcA hA1 hA2
  (refine Kr.outS hK (a' := ?_) ?_ ?_; rotate_left; (focus ((try simp only [Kr.PT]); first | done | rfl))); clear hK K
  (refine Kr.seqQ (v := .agg #[.int .i64 2, .int .i64 0, .slice (some ⟨bA, 0, none⟩) 32 cA, .slice none 0 0]) (a' := ?_) (by rfl) ?_ ?_ ?_; rotate_left 1; (focus (go_simp; first | done | rfl)); (focus ((try simp only [Kr.PT]); first | done | rfl)))
  (refine Kr.seqQ (v := ?_) (a' := ?_) (by rfl) ?_ ?_ ?_; rotate_left 2; (focus (go_simp; first | done | rfl)); (focus ((try simp only [Kr.PT]); first | done | rfl)))
  refine Kr.seqR (by rfl) (fun K hK => ?_)
  obtain ⟨cap, y6, bs, hbk, hrun, hcp, hba, hgr⟩ := conv_str y4 lb
  refine wp_runV rfl hrun ?_
  have hzs : bz ≠ bs := by
    have := lt_of_heap (H.at 0 rfl)
    omega
  have HB := Lib.hid hba; have HBc := Lib.hid hcp; have HZS := Lib.hid hzs; have HLA2 : Hid (bA < y6.heap.size) := Lib.hid (Nat.lt_of_lt_of_le HLA.out hgr.size); clear hrun hbk hba hcp hzs HLA
  replace H := H.grow hgr
  replace HBA := Lib.hid (HBA.out.grow hgr)
  clear hgr
  (refine Kr.outS hK (a' := ?_) ?_ ?_; rotate_left; (focus ((try simp only [Kr.PT]); first | done | rfl))); clear hK K
  (refine Kr.seqQ (v := .agg #[.int .i64 2, .int .i64 0, .slice (some ⟨bs, 0, none⟩) lb.size cap, .slice none 0 0]) (a' := ?_) (by rfl) ?_ ?_ ?_; rotate_left 1; (focus (go_simp; first | done | rfl)); (focus ((try simp only [Kr.PT]); first | done | rfl)))
  refine Kr.seqR (by rfl) (fun K hK => ?_)
  go_simp
  have hltz : bz < y6.heap.size := lt_of_heap (H.at 0 rfl); have hlts : bs < y6.heap.size := src_lt (.inr ⟨bs, 0, rfl, HB.out⟩) rfl (by rw [s8_length]; omega); have hlta := HLA2.out
  obtain ⟨y7, hy⟩ : ∃ y, y6.alloc (.cells #[.int .i64 2, .int .i64 0, .slice (some ⟨bA, 0, none⟩) 32 cA, .slice none 0 0, .int .i64 2, .int .i64 0, .slice (some ⟨bs, 0, none⟩) lb.size cap, .slice none 0 0] 49) = y := ⟨_, rfl⟩; obtain ⟨bl, hbl⟩ : ∃ b, y6.heap.size = b := ⟨_, rfl⟩
  have hrow : y7.ownsRow w.heap.size 49 4 (.slice (some ⟨bl, 0, none⟩) 2 2) 2 [.int .i64 2, .int .i64 0, .slice (some ⟨bA, 0, none⟩) 32 cA, .slice none 0 0, .int .i64 2, .int .i64 0, .slice (some ⟨bs, 0, none⟩) lb.size cap, .slice none 0 0] := by rw [← hy, ← hbl]; exact row_lit H.g.size rfl (by decide)
  rw [hy, hbl]; rw [hbl] at hltz hlts hlta; have hlow : w.heap.size ≤ bl := hbl ▸ H.g.size; have hltt : bt < bl := hbl ▸ lt_of_heap (H.at 1 rfl); have HROW := Lib.hid hrow; have HLTZ := Lib.hid hltz; have HLTS := Lib.hid hlts; have HLTA := Lib.hid hlta; have HLTT := Lib.hid hltt; have HLOW := Lib.hid hlow; have hg : Gr y6 y7 := hy ▸ (Gr.refl _).alloc _
  replace H := H.grow hg
  replace HBA := Lib.hid (HBA.out.grow hg)
  replace HB := Lib.hid (HB.out.grow hg)
  clear hg hy hbl hrow hltz hlts hlta hltt hlow HLA2
  (refine Kr.outS hK (a' := ?_) ?_ ?_; rotate_left; (focus ((try simp only [Kr.PT]); first | done | rfl))); clear hK K
  (refine Kr.seqQ (v := ?_) (a' := ?_) (by rfl) ?_ ?_ ?_; rotate_left 2; (focus (go_simp; first | done | rfl)); (focus ((try simp only [Kr.PT]); first | done | rfl)))
  refine Kr.seqDoneW ?_
  go_upto_region 2 with fail
  refine Kr.seqStartW ?_
  (refine Kr.seqQ (v := ?_) (a' := ?_) (by rfl) ?_ ?_ ?_; rotate_left 2; (focus (go_simp; first | done | rfl)); (focus ((try simp only [Kr.PT]); first | done | rfl)))
  (refine Kr.seqQ (v := ?_) (a' := ?_) (by rfl) ?_ ?_ ?_; rotate_left 2; (focus (go_simp; first | done | rfl)); (focus ((try simp only [Kr.PT]); first | done | rfl)))
  refine Kr.seqR (by rfl) (fun K hK => ?_)
  refine wp_appJ0 (B := w.heap.size) (.tmp 17) (.tmp 18) rfl (v := .slice (some ⟨bl, 0, none⟩) 2 2) (k := 2) (xs := [.int .i64 2, .int .i64 0, .slice (some ⟨bA, 0, none⟩) 32 cA, .slice none 0 0, .int .i64 2, .int .i64 0, .slice (some ⟨bs, 0, none⟩) lb.size cap, .slice none 0 0]) rfl rfl HROW.out ?_
  (refine Kr.outS hK (a' := ?_) ?_ ?_; rotate_left; (focus ((try simp only [Kr.PT]); first | done | rfl))); clear hK K
  (refine Kr.seqQ (v := .agg #[.int .i64 3, .int .i64 0, .slice none 0 0, .slice (some ⟨bl, 0, none⟩) 2 2]) (a' := ?_) (by rfl) ?_ ?_ ?_; rotate_left 1; (focus (go_simp; first | done | rfl)); (focus ((try simp only [Kr.PT]); first | done | rfl)))
  refine Kr.seqR (by rfl) (fun K hK => ?_)
  refine wp_run rfl (stI (H.at 0 rfl) one_sl) ?_
  have hro := rowI_grow (W' := y7.setRow bz ([.int .i64 3, .int .i64 0, .slice none 0 0, .slice (some ⟨bl, 0, none⟩) 2 2] : List Value).toArray) HROW.out (fun z hz => setRow_other y7 bz z _ (fun e => ((by have h1 : bl = z := Option.some.inj hz; have h2 := HLTZ.out; omega) : bz ≠ z) e.symm))
  have hb7 := bytes_same (W' := y7.setRow bz ([.int .i64 3, .int .i64 0, .slice none 0 0, .slice (some ⟨bl, 0, none⟩) 2 2] : List Value).toArray) HB.out (setRow_other y7 bz bs _ (fun e => HZS.out e.symm)); have ha7 := bytes_same (W' := y7.setRow bz ([.int .i64 3, .int .i64 0, .slice none 0 0, .slice (some ⟨bl, 0, none⟩) 2 2] : List Value).toArray) HBA.out (setRow_other y7 bz bA _ (fun e => HNA.out e.symm))
  obtain ⟨y8, hy⟩ : ∃ y, y7.setRow bz ([.int .i64 3, .int .i64 0, .slice none 0 0, .slice (some ⟨bl, 0, none⟩) 2 2] : List Value).toArray = y := ⟨_, rfl⟩; rw [hy]; rw [hy] at hro hb7 ha7; have HRO := Lib.hid hro; have HB7 := Lib.hid hb7; have HA7 := Lib.hid ha7; clear hro hb7 ha7 HB HBA
  replace H := H.put 0 hy rfl; dsimp only [List.set] at H; clear hy
  (refine Kr.outS hK (a' := ?_) ?_ ?_; rotate_left; (focus ((try simp only [Kr.PT]); first | done | rfl))); clear hK K
  refine Kr.seqDoneW ?_
  have hkt : KidT y8 1 [.int .i64 2, .int .i64 0, .slice (some ⟨bA, 0, none⟩) 32 cA, .slice none 0 0, .int .i64 2, .int .i64 0, .slice (some ⟨bs, 0, none⟩) lb.size cap, .slice none 0 0] [.mk 2 0 st [], .mk 2 0 (s8 lb) []] := ((KidT.nil y8 1).snoc rfl rfl (itv_bytes (n := 32) HA7.out HST.out HCA.out (by decide))).snoc rfl rfl (itv_bytes HB7.out (s8_length lb) HBc.out (by omega))
  have hit := itv_row HRO.out rfl (by decide) hkt
  have HIT := Lib.hid hit; clear hit hkt
  go_wp2
  refine bodyPost_ret (v := .agg ([.int .i64 3, .int .i64 0, .slice none 0 0, .slice (some ⟨bl, 0, none⟩) 2 2] : List Value).toArray) (results_cell_row rfl _ _ bz 49 _ _ _ (by rfl) (H.at 0 rfl) Tryd.underlying49 rfl (show _ = some 4 from infoI)) rfl ⟨_, _, _, _, _, rfl, one_sl, HIT.out, H.g⟩
set_option linter.unusedSimpArgs false in
set_option maxRecDepth 100000 in
set_option maxHeartbeats 16000000 in
theorem rframe1_v {st : List (BitVec 8)} {c : Int} {lb : ByteArray} {bf k0 : Nat} {v0 v1 v2 v3 : Value} {x : It} {w : World} (hst : st.length = 32) (hl1 : 1 ≤ lb.size) (hl2 : lb.size ≤ 24) (hsrc : SrcG (some ⟨bf, 0, none⟩) [v0, v1, v2, v3] w) (hone : ∀ u ∈ ([v0, v1, v2, v3] : List Value), u.oneCell' = true) (hix : ItV w k0 (fun _ => True) (.agg #[v0, v1, v2, v3]) x) :
    Calls Tryd.prog 22 #[.agg (tr st c).toArray, .string lb, .slice (some ⟨bf, 0, none⟩) 1 1] w (RfP w (fr st (s8 lb) [x])) := by
  have HST := Lib.hid hst; clear hst
  have HSRC := Lib.hid hsrc; have HONE := Lib.hid hone; have HIX := Lib.hid hix; clear hsrc hone hix
  have H := Ow.start w
  go_enter Tryd.func22, Tryd.ntmps22
  go_upto_region 0 with fail
  refine Kr.seqStartW ?_
  refine Kr.seqR (by rfl) (fun K hK => ?_)
  refine wp_runV rfl boxT ?_
  obtain ⟨y1, hy⟩ : ∃ y, w.alloc (.cells (tr st c).toArray 25) = y := ⟨_, rfl⟩
  obtain ⟨bt, hb⟩ : ∃ b, w.heap.size = b := ⟨_, rfl⟩
  rw [hy, hb]
  have hg : Gr w y1 := hy ▸ (Gr.refl _).alloc _
  replace H := H.alloc hy hb
  clear hy hb hg
  (refine Kr.outS hK (a' := ?_) ?_ ?_; rotate_left; (focus ((try simp only [Kr.PT]); first | done | rfl))); clear hK K
  refine Kr.seqR (by rfl) (fun K hK => ?_)
  refine wp_runV rfl newI ?_
  obtain ⟨y2, hy⟩ : ∃ y, y1.alloc (.cells ([.int .i64 0, .int .i64 0, .slice none 0 0, .slice none 0 0]).toArray 49) = y := ⟨_, rfl⟩
  obtain ⟨bz, hb⟩ : ∃ b, y1.heap.size = b := ⟨_, rfl⟩
  rw [hy, hb]
  have hg : Gr y1 y2 := hy ▸ (Gr.refl _).alloc _
  replace H := H.alloc hy hb
  clear hy hb hg
  (refine Kr.outS hK (a' := ?_) ?_ ?_; rotate_left; (focus ((try simp only [Kr.PT]); first | done | rfl))); clear hK K
  refine Kr.seqDoneW ?_
  go_upto_region 1 with fail
  refine Kr.seqStartW ?_
  refine Kr.seqR (by rfl) (fun K hK => ?_)
  go_simp
  have hR0 := rowG_lit (W := y2) (T := 5) (B := y2.heap.size) (xs := []) (Nat.le_refl _) (by decide)
  have hA0 := apt_rowG H hR0
  obtain ⟨y3, hy⟩ : ∃ y, y2.alloc (.cells #[] 5) = y := ⟨_, rfl⟩; obtain ⟨bone, hbn⟩ : ∃ b, y2.heap.size = b := ⟨_, rfl⟩; rw [hy, hbn]
  have hR1 : RowG 5 w.heap.size (.slice (some ⟨bone, 0, none⟩) 0 0) [] y3 := by
    have h := rowG_low H.g.size hR0
    rw [show y2.alloc (.cells ([] : List Value).toArray 5) = y3 from hy, hbn] at h; exact h
  rw [hbn] at hA0; have HR := Lib.hid hR1; have HA := Lib.hid hA0; have hg : Gr y2 y3 := hy ▸ (Gr.refl _).alloc _; clear hR0 hR1 hA0
  replace H := H.grow hg
  clear hg hy hbn
  (refine Kr.outS hK (a' := ?_) ?_ ?_; rotate_left; (focus ((try simp only [Kr.PT]); first | done | rfl))); clear hK K
  (refine Kr.seqQ (v := .pointer (some ⟨bt, 0, none⟩)) (a' := ?_) (by rfl) ?_ ?_ ?_; rotate_left 1; (focus (go_simp; first | done | rfl)); (focus ((try simp only [Kr.PT]); first | done | rfl)))
  (refine Kr.seqQ (v := .slice (some ⟨bt, 0, none⟩) 32 32) (a' := ?_) (by rfl) ?_ ?_ ?_; rotate_left 1; (focus (exact Kr.valOf rfl (slH))); (focus ((try simp only [Kr.PT]); first | done | rfl)))
  refine Kr.seqR (by rfl) (fun K hK => ?_)
  refine wp_appG (T := 5) (TS := 46) Tryd.underlying46 info8 rfl (.tmp 8) (.tmp 10) rfl (v := .slice (some ⟨bone, 0, none⟩) 0 0) (r := []) (d := (st.map w8)) (p := (some ⟨bt, 0, none⟩)) (m := 32) (c := 32) (rs := [(bz, 49, [.int .i64 0, .int .i64 0, .slice none 0 0, .slice none 0 0]), (bt, 25, tr st c)]) rfl rfl (by rw [List.length_map]; exact HST.out) ((SrcB.srcG (.inr ⟨bt, 0, rfl, bytesAt_tr (H.at 1 rfl)⟩))) (one_lit8 _) (fun e => by cases e) H HR.out HA.out (by show 0 + 32 ≤ _; decide) (by decide) ?_
  intro q5 y4 H3 hR3 hA3
  clear H HR HA; have H := H3; have HR := Lib.hid hR3; have HA := Lib.hid hA3; clear H3 hR3 hA3
  rw [List.nil_append] at HR; obtain ⟨bA, cA, hvA, hoA, hcA, hba, _, hlA⟩ := rowG_at HR.out (by rw [HST.out]; decide); have hnA := HA.out bA hoA; rw [HST.out] at hvA hcA; subst hvA
  have hA1 : bz ≠ bA := hnA (bz, _, _) (List.mem_cons_self ..); have hA2 : bt ≠ bA := hnA (bt, _, _) (List.mem_cons_of_mem _ (List.mem_cons_self ..))
  have HBA := Lib.hid hba; have HLA := Lib.hid hlA; have HCA := Lib.hid hcA; have HNA := Lib.hid hA1; clear HR HA hnA hoA hba hlA hcA hA1 hA2
  (refine Kr.outS hK (a' := ?_) ?_ ?_; rotate_left; (focus ((try simp only [Kr.PT]); first | done | rfl))); clear hK K
  (refine Kr.seqQ (v := .agg #[.int .i64 2, .int .i64 0, .slice (some ⟨bA, 0, none⟩) 32 cA, .slice none 0 0]) (a' := ?_) (by rfl) ?_ ?_ ?_; rotate_left 1; (focus (go_simp; first | done | rfl)); (focus ((try simp only [Kr.PT]); first | done | rfl)))
  (refine Kr.seqQ (v := ?_) (a' := ?_) (by rfl) ?_ ?_ ?_; rotate_left 2; (focus (go_simp; first | done | rfl)); (focus ((try simp only [Kr.PT]); first | done | rfl)))
  refine Kr.seqR (by rfl) (fun K hK => ?_)
  obtain ⟨cap, y6, bs, hbk, hrun, hcp, hba, hgr⟩ := conv_str y4 lb
  refine wp_runV rfl hrun ?_
  have hzs : bz ≠ bs := by
    have := lt_of_heap (H.at 0 rfl)
    omega
  have HB := Lib.hid hba; have HBc := Lib.hid hcp; have HZS := Lib.hid hzs; have HLA2 : Hid (bA < y6.heap.size) := Lib.hid (Nat.lt_of_lt_of_le HLA.out hgr.size); clear hrun hbk hba hcp hzs HLA
  replace H := H.grow hgr
  replace HBA := Lib.hid (HBA.out.grow hgr)
  clear hgr
  (refine Kr.outS hK (a' := ?_) ?_ ?_; rotate_left; (focus ((try simp only [Kr.PT]); first | done | rfl))); clear hK K
  (refine Kr.seqQ (v := .agg #[.int .i64 2, .int .i64 0, .slice (some ⟨bs, 0, none⟩) lb.size cap, .slice none 0 0]) (a' := ?_) (by rfl) ?_ ?_ ?_; rotate_left 1; (focus (go_simp; first | done | rfl)); (focus ((try simp only [Kr.PT]); first | done | rfl)))
  refine Kr.seqR (by rfl) (fun K hK => ?_)
  go_simp
  have hltz : bz < y6.heap.size := lt_of_heap (H.at 0 rfl); have hlts : bs < y6.heap.size := src_lt (.inr ⟨bs, 0, rfl, HB.out⟩) rfl (by rw [s8_length]; omega); have hlta := HLA2.out
  obtain ⟨y7, hy⟩ : ∃ y, y6.alloc (.cells #[.int .i64 2, .int .i64 0, .slice (some ⟨bA, 0, none⟩) 32 cA, .slice none 0 0, .int .i64 2, .int .i64 0, .slice (some ⟨bs, 0, none⟩) lb.size cap, .slice none 0 0] 49) = y := ⟨_, rfl⟩; obtain ⟨bl, hbl⟩ : ∃ b, y6.heap.size = b := ⟨_, rfl⟩
  have hrow : y7.ownsRow w.heap.size 49 4 (.slice (some ⟨bl, 0, none⟩) 2 2) 2 [.int .i64 2, .int .i64 0, .slice (some ⟨bA, 0, none⟩) 32 cA, .slice none 0 0, .int .i64 2, .int .i64 0, .slice (some ⟨bs, 0, none⟩) lb.size cap, .slice none 0 0] := by rw [← hy, ← hbl]; exact row_lit H.g.size rfl (by decide)
  rw [hy, hbl]; rw [hbl] at hltz hlts hlta; have hlow : w.heap.size ≤ bl := hbl ▸ H.g.size; have hltt : bt < bl := hbl ▸ lt_of_heap (H.at 1 rfl); have HROW := Lib.hid hrow; have HLTZ := Lib.hid hltz; have HLTS := Lib.hid hlts; have HLTA := Lib.hid hlta; have HLTT := Lib.hid hltt; have HLOW := Lib.hid hlow; have hg : Gr y6 y7 := hy ▸ (Gr.refl _).alloc _
  replace H := H.grow hg
  replace HBA := Lib.hid (HBA.out.grow hg)
  replace HB := Lib.hid (HB.out.grow hg)
  clear hg hy hbl hrow hltz hlts hlta hltt hlow HLA2
  (refine Kr.outS hK (a' := ?_) ?_ ?_; rotate_left; (focus ((try simp only [Kr.PT]); first | done | rfl))); clear hK K
  (refine Kr.seqQ (v := ?_) (a' := ?_) (by rfl) ?_ ?_ ?_; rotate_left 2; (focus (go_simp; first | done | rfl)); (focus ((try simp only [Kr.PT]); first | done | rfl)))
  refine Kr.seqDoneW ?_
  go_upto_region 2 with fail
  refine Kr.seqStartW ?_
  (refine Kr.seqQ (v := ?_) (a' := ?_) (by rfl) ?_ ?_ ?_; rotate_left 2; (focus (go_simp; first | done | rfl)); (focus ((try simp only [Kr.PT]); first | done | rfl)))
  (refine Kr.seqQ (v := ?_) (a' := ?_) (by rfl) ?_ ?_ ?_; rotate_left 2; (focus (go_simp; first | done | rfl)); (focus ((try simp only [Kr.PT]); first | done | rfl)))
  refine Kr.seqR (by rfl) (fun K hK => ?_)
  refine wp_appJ (B := w.heap.size) (.tmp 17) (.tmp 18) rfl (v := .slice (some ⟨bl, 0, none⟩) 2 2) (k := 2) (bone := bf) (xs := [.int .i64 2, .int .i64 0, .slice (some ⟨bA, 0, none⟩) 32 cA, .slice none 0 0, .int .i64 2, .int .i64 0, .slice (some ⟨bs, 0, none⟩) lb.size cap, .slice none 0 0]) (v0 := v0) (v1 := v1) (v2 := v2) (v3 := v3) rfl rfl (HSRC.out.grow H.g) HONE.out H.g.size HROW.out (by decide) ?_
  intro u y8 hrow6 hg6 hub
  have hlow := HLOW.out; have hltt := HLTT.out; have hlts := HLTS.out; have hltz := HLTZ.out; have hlta := HLTA.out; have hbl : ∀ z, (Value.slice (some ⟨bl, 0, none⟩) 2 2).ownBlock = some z → bl = z := fun z hz => Option.some.inj hz
  have hlw : bl < y7.heap.size := (World.ownsRow.lt HROW.out bl rfl).2
  have H6 := H.grown hg6 (fun z hz => by
    have h1 := hbl z hz
    refine ⟨by omega, fun x hx => ?_⟩
    rcases List.mem_cons.1 hx with rfl | hx
    · show bz ≠ z; omega
    rcases List.mem_cons.1 hx with rfl | hx
    · show bt ≠ z; omega
    · cases hx)
  have hb6 := bytes_same HB.out (hg6.block bs (by omega) (fun e => by have := hbl bs e.symm; omega)); have ha6 := bytes_same HBA.out (hg6.block bA (by omega) (fun e => by have := hbl bA e.symm; omega))
  have hzu : ∀ z, u.ownBlock = some z → bz ≠ z := fun z hz => by
    rcases hub with hub | hub
    · rw [hub] at hz; have := hbl z hz; omega
    · rw [hub] at hz; have := Option.some.inj hz; omega
  clear H HB HBA; have H := H6; have HB := Lib.hid hb6; have HBA := Lib.hid ha6; have HZU := Lib.hid hzu; clear H6 hb6 ha6 hzu
  obtain ⟨p9, c9, hv9, _⟩ := sliceI hrow6; subst hv9; have HROW6 := Lib.hid hrow6; clear hrow6 hub hg6 hlow hltt hlts hltz hlta hbl hlw
  (refine Kr.outS hK (a' := ?_) ?_ ?_; rotate_left; (focus ((try simp only [Kr.PT]); first | done | rfl))); clear hK K
  (refine Kr.seqQ (v := .agg #[.int .i64 3, .int .i64 0, .slice none 0 0, .slice p9 3 c9]) (a' := ?_) (by rfl) ?_ ?_ ?_; rotate_left 1; (focus (go_simp; first | done | rfl)); (focus ((try simp only [Kr.PT]); first | done | rfl)))
  refine Kr.seqR (by rfl) (fun K hK => ?_)
  refine wp_run rfl (stI (H.at 0 rfl) one_sl) ?_
  have hro := rowI_grow (W' := y8.setRow bz ([.int .i64 3, .int .i64 0, .slice none 0 0, .slice p9 3 c9] : List Value).toArray) HROW6.out (fun z hz => setRow_other y8 bz z _ (fun e => (HZU.out z hz : bz ≠ z) e.symm))
  have hb7 := bytes_same (W' := y8.setRow bz ([.int .i64 3, .int .i64 0, .slice none 0 0, .slice p9 3 c9] : List Value).toArray) HB.out (setRow_other y8 bz bs _ (fun e => HZS.out e.symm)); have ha7 := bytes_same (W' := y8.setRow bz ([.int .i64 3, .int .i64 0, .slice none 0 0, .slice p9 3 c9] : List Value).toArray) HBA.out (setRow_other y8 bz bA _ (fun e => HNA.out e.symm))
  obtain ⟨y9, hy⟩ : ∃ y, y8.setRow bz ([.int .i64 3, .int .i64 0, .slice none 0 0, .slice p9 3 c9] : List Value).toArray = y := ⟨_, rfl⟩; rw [hy]; rw [hy] at hro hb7 ha7; have HRO := Lib.hid hro; have HB7 := Lib.hid hb7; have HA7 := Lib.hid ha7; clear hro hb7 ha7 HB HBA
  replace H := H.put 0 hy rfl; dsimp only [List.set] at H; clear hy
  (refine Kr.outS hK (a' := ?_) ?_ ?_; rotate_left; (focus ((try simp only [Kr.PT]); first | done | rfl))); clear hK K
  refine Kr.seqDoneW ?_
  have hkt : KidT y9 1 [.int .i64 2, .int .i64 0, .slice (some ⟨bA, 0, none⟩) 32 cA, .slice none 0 0, .int .i64 2, .int .i64 0, .slice (some ⟨bs, 0, none⟩) lb.size cap, .slice none 0 0] [.mk 2 0 st [], .mk 2 0 (s8 lb) []] := ((KidT.nil y9 1).snoc rfl rfl (itv_bytes (n := 32) HA7.out HST.out HCA.out (by decide))).snoc rfl rfl (itv_bytes HB7.out (s8_length lb) HBc.out (by omega))
  have hk3 : KidT y9 (k0 + 1) [.int .i64 2, .int .i64 0, .slice (some ⟨bA, 0, none⟩) 32 cA, .slice none 0 0, .int .i64 2, .int .i64 0, .slice (some ⟨bs, 0, none⟩) lb.size cap, .slice none 0 0, v0, v1, v2, v3] [.mk 2 0 st [], .mk 2 0 (s8 lb) [], x] := KidT.snoc (xs := [.int .i64 2, .int .i64 0, .slice (some ⟨bA, 0, none⟩) 32 cA, .slice none 0 0, .int .i64 2, .int .i64 0, .slice (some ⟨bs, 0, none⟩) lb.size cap, .slice none 0 0]) (ts := [.mk 2 0 st [], .mk 2 0 (s8 lb) []]) (hkt.deep (by omega)) rfl rfl ((HIX.out.grow H.g).deep (by omega))
  have hit := itv_row HRO.out rfl (by decide) hk3
  have HIT := Lib.hid hit; clear hit hkt hk3
  go_wp2
  refine bodyPost_ret (v := .agg ([.int .i64 3, .int .i64 0, .slice none 0 0, .slice p9 3 c9] : List Value).toArray) (results_cell_row rfl _ _ bz 49 _ _ _ (by rfl) (H.at 0 rfl) Tryd.underlying49 rfl (show _ = some 4 from infoI)) rfl ⟨_, _, _, _, _, rfl, one_sl, HIT.out, H.g⟩
end Go.Proofs.YtldgjhmefaapeaaDoor.Dg
