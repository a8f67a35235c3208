/- frame. -/
import Derived.Test.YtldgjhmefaapeaaDoorQTb
import Derived.Deep.Cut
namespace Go.Proofs.YtldgjhmefaapeaaDoor.Dg
open Go Go.RowKit Go.Proofs.YtldgjhmefaapeaaDoor.Ne Go.Proofs.YtldgjhmefaapeaaDoor.Kr

def sBegin : ByteArray := ⟨#[115, 112, 101, 99, 105, 101, 47, 116, 114, 97, 110, 115, 99, 114, 105, 112, 116]⟩
def sAbsorb : ByteArray := ⟨#[115, 112, 101, 99, 105, 101, 47, 97, 98, 115, 111, 114, 98]⟩
def sChal : ByteArray := ⟨#[115, 112, 101, 99, 105, 101, 47, 99, 104, 97, 108, 108, 101, 110, 103, 101]⟩
def sDig : ByteArray := ⟨#[115, 112, 101, 99, 105, 101, 47, 100, 105, 103, 101, 115, 116]⟩
/-- What a call says that frames. -/
def FrP (w : World) (E : List (BitVec 8)) (e : Ending) (w' : World) : Prop :=
  ∃ p n c, e = .returned (.tuple #[.slice p n c, .int .i64 0]) ∧ E.length = n ∧ (p = none → c = 0) ∧ SrcB p E w' ∧ Gr w w'
/-- The further items. -/
def Fur (W : World) (f : Value) (xs : List It) : Prop :=
  (f = .slice none 0 0 ∧ xs = []) ∨ ∃ bf v0 v1 v2 v3 x k, f = .slice (some ⟨bf, 0, none⟩) 1 1 ∧ xs = [x] ∧ SrcG (some ⟨bf, 0, none⟩) [v0, v1, v2, v3] W ∧ (∀ u ∈ ([v0, v1, v2, v3] : List Value), u.oneCell' = true) ∧ ItV W k (fun _ => True) (.agg #[v0, v1, v2, v3]) x
theorem Fur.grow {W W' : World} {f : Value} {xs : List It} (h : Fur W f xs) (g : Gr W W') : Fur W' f xs := by
  rcases h with h | ⟨bf, v0, v1, v2, v3, x, k, e1, e2, h1, h2, h3⟩
  · exact .inl h
  · exact .inr ⟨bf, v0, v1, v2, v3, x, k, e1, e2, h1.grow g, h2, h3.grow g⟩
theorem bytes_same {W W' : World} {b : Nat} {l : List (BitVec 8)} (h : BytesAt b 0 l W) (g : W'.heap[b]? = W.heap[b]?) : BytesAt b 0 l W' := fun j x hx => (World.cell?_of_block (a := ⟨b, 0 + j, none⟩) g).trans (h j x hx)

theorem KidT.deep {W : World} {d e : Nat} {xs : List Value} {ts : List It} (h : KidT W d xs ts) (hd : d ≤ e) : KidT W e xs ts := fun j x hx => by
  obtain ⟨v0, v1, v2, v3, e0, e1, e2, e3, hi⟩ := h j x hx
  exact ⟨v0, v1, v2, v3, e0, e1, e2, e3, hi.deep hd⟩

set_option linter.unusedSimpArgs false in
set_option maxRecDepth 100000 in
set_option maxHeartbeats 16000000 in
theorem frame0_v {st : List (BitVec 8)} {c : Int} {lb : ByteArray} {w : World} (hst : st.length = 32) (hl1 : 1 ≤ lb.size) (hl2 : lb.size ≤ 24) (hv : vld 8 (fr st (s8 lb) []) = true) (hln : (enc 8 (fr st (s8 lb) [])).length ≤ 16384) :
    Calls Tryd.prog 27 #[.agg (tr st c).toArray, .string lb, .slice none 0 0] w (FrP w (enc 8 (fr st (s8 lb) []))) := by
  have HSZ := Lib.hid hl2
  have HST := Lib.hid hst; clear hst; have HV := Lib.hid hv; clear hv; have HLN := Lib.hid hln; clear hln
  obtain ⟨E, hE⟩ : ∃ z, enc 8 (fr st (s8 lb) []) = z := ⟨_, rfl⟩; rw [hE] at HLN ⊢; have HE := Lib.hid hE; clear hE
  have H := Ow.start w
  go_enter Tryd.func27, Tryd.ntmps27
  go_upto_region 0 with fail
  refine Kr.seqStartW ?_
  refine Kr.seqR (by rfl) (fun K hK => ?_)
  refine wp_runV rfl boxT ?_
  obtain ⟨y1, hy⟩ : ∃ y, w.alloc (.cells (tr st c).toArray 25) = y := ⟨_, rfl⟩
  obtain ⟨bt, hb⟩ : ∃ b, w.heap.size = b := ⟨_, rfl⟩
  rw [hy, hb]
  have hg : Gr w y1 := hy ▸ (Gr.refl _).alloc _
  replace H := H.alloc hy hb
  clear hy hb hg
  (refine Kr.outS hK (a' := ?_) ?_ ?_; rotate_left; (focus ((try simp only [Kr.PT]); first | done | rfl))); clear hK K
  (refine Kr.seqQ (v := ?_) (a' := ?_) (by rfl) ?_ ?_ ?_; rotate_left 2; (focus (go_simp; first | done | rfl)); (focus ((try simp only [Kr.PT]); first | done | rfl)))
  (refine Kr.seqQ (v := ?_) (a' := ?_) (by rfl) ?_ ?_ ?_; rotate_left 2; (focus (go_simp; first | done | rfl)); (focus ((try simp only [Kr.PT]); first | done | rfl)))
  refine Kr.seqDoneW ?_
  go_upto_region 1 with fail
  refine Kr.seqStartW ?_
  (refine Kr.seqQ (v := .pointer (some ⟨bt, 0, none⟩)) (a' := ?_) (by rfl) ?_ ?_ ?_; rotate_left 1; (focus (go_simp; first | done | rfl)); (focus ((try simp only [Kr.PT]); first | done | rfl)))
  (refine Kr.seqQ (v := .slice (some ⟨bt, 0, none⟩) 32 32) (a' := ?_) (by rfl) ?_ ?_ ?_; rotate_left 1; (focus (exact Kr.valOf rfl (slH))); (focus ((try simp only [Kr.PT]); first | done | rfl)))
  (refine Kr.seqQ (v := .agg #[.int .i64 2, .int .i64 0, .slice (some ⟨bt, 0, none⟩) 32 32, .slice none 0 0]) (a' := ?_) (by rfl) ?_ ?_ ?_; rotate_left 1; (focus (go_simp; first | done | rfl)); (focus ((try simp only [Kr.PT]); first | done | rfl)))
  (refine Kr.seqQ (v := ?_) (a' := ?_) (by rfl) ?_ ?_ ?_; rotate_left 2; (focus (go_simp; first | done | rfl)); (focus ((try simp only [Kr.PT]); first | done | rfl)))
  refine Kr.seqR (by rfl) (fun K hK => ?_)
  obtain ⟨cap, y2, bs, hbk, hrun, hcp, hba, hgr⟩ := conv_str y1 lb
  refine wp_runV rfl hrun ?_
  have HB := Lib.hid hba; have HBc := Lib.hid hcp; clear hrun hbk hba hcp
  replace H := H.grow hgr
  clear hgr
  (refine Kr.outS hK (a' := ?_) ?_ ?_; rotate_left; (focus ((try simp only [Kr.PT]); first | done | rfl))); clear hK K
  (refine Kr.seqQ (v := .agg #[.int .i64 2, .int .i64 0, .slice (some ⟨bs, 0, none⟩) lb.size cap, .slice none 0 0]) (a' := ?_) (by rfl) ?_ ?_ ?_; rotate_left 1; (focus (go_simp; first | done | rfl)); (focus ((try simp only [Kr.PT]); first | done | rfl)))
  refine Kr.seqR (by rfl) (fun K hK => ?_)
  go_simp
  have hltt : bt < y2.heap.size := lt_of_heap (H.at 0 rfl); have hlts : bs < y2.heap.size := src_lt (.inr ⟨bs, 0, rfl, HB.out⟩) rfl (by rw [s8_length]; omega)
  obtain ⟨y3, hy⟩ : ∃ y, y2.alloc (.cells #[.int .i64 2, .int .i64 0, .slice (some ⟨bt, 0, none⟩) 32 32, .slice none 0 0, .int .i64 2, .int .i64 0, .slice (some ⟨bs, 0, none⟩) lb.size cap, .slice none 0 0] 49) = y := ⟨_, rfl⟩; obtain ⟨bl, hbl⟩ : ∃ b, y2.heap.size = b := ⟨_, rfl⟩
  have hrow : y3.ownsRow w.heap.size 49 4 (.slice (some ⟨bl, 0, none⟩) 2 2) 2 [.int .i64 2, .int .i64 0, .slice (some ⟨bt, 0, none⟩) 32 32, .slice none 0 0, .int .i64 2, .int .i64 0, .slice (some ⟨bs, 0, none⟩) lb.size cap, .slice none 0 0] := by rw [← hy, ← hbl]; exact row_lit H.g.size rfl (by decide)
  rw [hy, hbl]; rw [hbl] at hltt hlts; have hlow : w.heap.size ≤ bl := hbl ▸ H.g.size; have HROW := Lib.hid hrow; have HLTT := Lib.hid hltt; have HLTS := Lib.hid hlts; have HLOW := Lib.hid hlow; have hg : Gr y2 y3 := hy ▸ (Gr.refl _).alloc _
  replace H := H.grow hg
  replace HB := Lib.hid (HB.out.grow hg)
  clear hg hy hbl hrow hltt hlts hlow
  (refine Kr.outS hK (a' := ?_) ?_ ?_; rotate_left; (focus ((try simp only [Kr.PT]); first | done | rfl))); clear hK K
  (refine Kr.seqQ (v := ?_) (a' := ?_) (by rfl) ?_ ?_ ?_; rotate_left 2; (focus (go_simp; first | done | rfl)); (focus ((try simp only [Kr.PT]); first | done | rfl)))
  refine Kr.seqDoneW ?_
  go_upto_region 2 with fail
  refine Kr.seqStartW ?_
  (refine Kr.seqQ (v := ?_) (a' := ?_) (by rfl) ?_ ?_ ?_; rotate_left 2; (focus (go_simp; first | done | rfl)); (focus ((try simp only [Kr.PT]); first | done | rfl)))
  (refine Kr.seqQ (v := ?_) (a' := ?_) (by rfl) ?_ ?_ ?_; rotate_left 2; (focus (go_simp; first | done | rfl)); (focus ((try simp only [Kr.PT]); first | done | rfl)))
  refine Kr.seqR (by rfl) (fun K hK => ?_)
  refine wp_appJ0 (B := w.heap.size) (.tmp 16) (.tmp 17) rfl (v := .slice (some ⟨bl, 0, none⟩) 2 2) (k := 2) (xs := [.int .i64 2, .int .i64 0, .slice (some ⟨bt, 0, none⟩) 32 32, .slice none 0 0, .int .i64 2, .int .i64 0, .slice (some ⟨bs, 0, none⟩) lb.size cap, .slice none 0 0]) rfl rfl HROW.out ?_
  have hkt : KidT y3 1 [.int .i64 2, .int .i64 0, .slice (some ⟨bt, 0, none⟩) 32 32, .slice none 0 0, .int .i64 2, .int .i64 0, .slice (some ⟨bs, 0, none⟩) lb.size cap, .slice none 0 0] [.mk 2 0 st [], .mk 2 0 (s8 lb) []] := ((KidT.nil y3 1).snoc rfl rfl (itv_bytes (n := 32) (c := 32) (bytesAt_tr (H.at 0 rfl)) HST.out (by decide) (by decide))).snoc rfl rfl (itv_bytes HB.out (s8_length lb) HBc.out (by have := HSZ.out; omega))
  have HKT := Lib.hid hkt; clear hkt
  (refine Kr.outS hK (a' := ?_) ?_ ?_; rotate_left; (focus ((try simp only [Kr.PT]); first | done | rfl))); clear hK K
  (refine Kr.seqQ (v := .agg #[.int .i64 3, .int .i64 0, .slice none 0 0, .slice (some ⟨bl, 0, none⟩) 2 2]) (a' := ?_) (by rfl) ?_ ?_ ?_; rotate_left 1; (focus (go_simp; first | done | rfl)); (focus ((try simp only [Kr.PT]); first | done | rfl)))
  refine Kr.seqR (by rfl) (fun K hK => ?_)
  go_simp
  go_at_call 40
  have hit := itv_row HROW.out rfl (by decide) HKT.out; have hP := Encode_ok hit HV.out (HE.out ▸ HLN.out); rw [show enc 8 (.mk 3 0 [] _) = E from HE.out] at hP
  refine hP.mono ?_; clear hP hit
  rintro e y4 ⟨p, cE, rfl, hR, hg⟩
  obtain ⟨q, c2, e1, _, hpn, hsrc⟩ := hR.src; rw [List.length_map] at e1; cases e1; have HPN := Lib.hid hpn; have HSR := Lib.hid (srcB_of hsrc); clear hpn hsrc hR
  replace H := H.grow hg
  clear hg
  (refine Kr.outS hK (a' := ?_) ?_ ?_; rotate_left; (focus ((try simp only [Kr.PT]); first | done | rfl))); clear hK K
  (refine Kr.seqQ (v := ?_) (a' := ?_) (by rfl) ?_ ?_ ?_; rotate_left 2; (focus (go_simp; first | done | rfl)); (focus ((try simp only [Kr.PT]); first | done | rfl)))
  (refine Kr.seqQ (v := ?_) (a' := ?_) (by rfl) ?_ ?_ ?_; rotate_left 2; (focus (go_simp; first | done | rfl)); (focus ((try simp only [Kr.PT]); first | done | rfl)))
  (refine Kr.seqQ (v := ?_) (a' := ?_) (by rfl) ?_ ?_ ?_; rotate_left 2; (focus (go_simp; first | done | rfl)); (focus ((try simp only [Kr.PT]); first | done | rfl)))
  (refine Kr.seqQ (v := ?_) (a' := ?_) (by rfl) ?_ ?_ ?_; rotate_left 2; (focus (go_simp; first | done | rfl)); (focus ((try simp only [Kr.PT]); first | done | rfl)))
  refine Kr.seqDoneW ?_
  have hk := trivial
  go_wp2
  refine bodyPost_ret (v := .tuple #[.slice p E.length cE, .int .i64 0]) (by simp [results, Tryd.results27, go_sem, hk]) rfl ⟨p, E.length, cE, rfl, rfl, HPN.out, HSR.out, H.g⟩
set_option linter.unusedSimpArgs false in
set_option maxRecDepth 100000 in
set_option maxHeartbeats 16000000 in
theorem frame1_v {st : List (BitVec 8)} {c : Int} {lb : ByteArray} {bf k0 : Nat} {v0 v1 v2 v3 : Value} {x : It} {w : World} (hst : st.length = 32) (hl1 : 1 ≤ lb.size) (hl2 : lb.size ≤ 24) (hsrc : SrcG (some ⟨bf, 0, none⟩) [v0, v1, v2, v3] w) (hone : ∀ u ∈ ([v0, v1, v2, v3] : List Value), u.oneCell' = true) (hix : ItV w k0 (fun _ => True) (.agg #[v0, v1, v2, v3]) x) (hv : vld 8 (fr st (s8 lb) [x]) = true) (hln : (enc 8 (fr st (s8 lb) [x])).length ≤ 16384) :
    Calls Tryd.prog 27 #[.agg (tr st c).toArray, .string lb, .slice (some ⟨bf, 0, none⟩) 1 1] w (FrP w (enc 8 (fr st (s8 lb) [x]))) := by
  have HSZ := Lib.hid hl2
  have HST := Lib.hid hst; clear hst; have HV := Lib.hid hv; clear hv; have HLN := Lib.hid hln; clear hln
  have HSRC := Lib.hid hsrc; have HONE := Lib.hid hone; have HIX := Lib.hid hix; clear hsrc hone hix
  obtain ⟨E, hE⟩ : ∃ z, enc 8 (fr st (s8 lb) [x]) = z := ⟨_, rfl⟩; rw [hE] at HLN ⊢; have HE := Lib.hid hE; clear hE
  have H := Ow.start w
  go_enter Tryd.func27, Tryd.ntmps27
  go_upto_region 0 with fail
  refine Kr.seqStartW ?_
  refine Kr.seqR (by rfl) (fun K hK => ?_)
  refine wp_runV rfl boxT ?_
  obtain ⟨y1, hy⟩ : ∃ y, w.alloc (.cells (tr st c).toArray 25) = y := ⟨_, rfl⟩
  obtain ⟨bt, hb⟩ : ∃ b, w.heap.size = b := ⟨_, rfl⟩
  rw [hy, hb]
  have hg : Gr w y1 := hy ▸ (Gr.refl _).alloc _
  replace H := H.alloc hy hb
  clear hy hb hg
  (refine Kr.outS hK (a' := ?_) ?_ ?_; rotate_left; (focus ((try simp only [Kr.PT]); first | done | rfl))); clear hK K
  (refine Kr.seqQ (v := ?_) (a' := ?_) (by rfl) ?_ ?_ ?_; rotate_left 2; (focus (go_simp; first | done | rfl)); (focus ((try simp only [Kr.PT]); first | done | rfl)))
  (refine Kr.seqQ (v := ?_) (a' := ?_) (by rfl) ?_ ?_ ?_; rotate_left 2; (focus (go_simp; first | done | rfl)); (focus ((try simp only [Kr.PT]); first | done | rfl)))
  refine Kr.seqDoneW ?_
  go_upto_region 1 with fail
  refine Kr.seqStartW ?_
  (refine Kr.seqQ (v := .pointer (some ⟨bt, 0, none⟩)) (a' := ?_) (by rfl) ?_ ?_ ?_; rotate_left 1; (focus (go_simp; first | done | rfl)); (focus ((try simp only [Kr.PT]); first | done | rfl)))
  (refine Kr.seqQ (v := .slice (some ⟨bt, 0, none⟩) 32 32) (a' := ?_) (by rfl) ?_ ?_ ?_; rotate_left 1; (focus (exact Kr.valOf rfl (slH))); (focus ((try simp only [Kr.PT]); first | done | rfl)))
  (refine Kr.seqQ (v := .agg #[.int .i64 2, .int .i64 0, .slice (some ⟨bt, 0, none⟩) 32 32, .slice none 0 0]) (a' := ?_) (by rfl) ?_ ?_ ?_; rotate_left 1; (focus (go_simp; first | done | rfl)); (focus ((try simp only [Kr.PT]); first | done | rfl)))
  (refine Kr.seqQ (v := ?_) (a' := ?_) (by rfl) ?_ ?_ ?_; rotate_left 2; (focus (go_simp; first | done | rfl)); (focus ((try simp only [Kr.PT]); first | done | rfl)))
  refine Kr.seqR (by rfl) (fun K hK => ?_)
  obtain ⟨cap, y2, bs, hbk, hrun, hcp, hba, hgr⟩ := conv_str y1 lb
  refine wp_runV rfl hrun ?_
  have HB := Lib.hid hba; have HBc := Lib.hid hcp; clear hrun hbk hba hcp
  replace H := H.grow hgr
  clear hgr
  (refine Kr.outS hK (a' := ?_) ?_ ?_; rotate_left; (focus ((try simp only [Kr.PT]); first | done | rfl))); clear hK K
  (refine Kr.seqQ (v := .agg #[.int .i64 2, .int .i64 0, .slice (some ⟨bs, 0, none⟩) lb.size cap, .slice none 0 0]) (a' := ?_) (by rfl) ?_ ?_ ?_; rotate_left 1; (focus (go_simp; first | done | rfl)); (focus ((try simp only [Kr.PT]); first | done | rfl)))
  refine Kr.seqR (by rfl) (fun K hK => ?_)
  go_simp
  have hltt : bt < y2.heap.size := lt_of_heap (H.at 0 rfl); have hlts : bs < y2.heap.size := src_lt (.inr ⟨bs, 0, rfl, HB.out⟩) rfl (by rw [s8_length]; omega)
  obtain ⟨y3, hy⟩ : ∃ y, y2.alloc (.cells #[.int .i64 2, .int .i64 0, .slice (some ⟨bt, 0, none⟩) 32 32, .slice none 0 0, .int .i64 2, .int .i64 0, .slice (some ⟨bs, 0, none⟩) lb.size cap, .slice none 0 0] 49) = y := ⟨_, rfl⟩; obtain ⟨bl, hbl⟩ : ∃ b, y2.heap.size = b := ⟨_, rfl⟩
  have hrow : y3.ownsRow w.heap.size 49 4 (.slice (some ⟨bl, 0, none⟩) 2 2) 2 [.int .i64 2, .int .i64 0, .slice (some ⟨bt, 0, none⟩) 32 32, .slice none 0 0, .int .i64 2, .int .i64 0, .slice (some ⟨bs, 0, none⟩) lb.size cap, .slice none 0 0] := by rw [← hy, ← hbl]; exact row_lit H.g.size rfl (by decide)
  rw [hy, hbl]; rw [hbl] at hltt hlts; have hlow : w.heap.size ≤ bl := hbl ▸ H.g.size; have HROW := Lib.hid hrow; have HLTT := Lib.hid hltt; have HLTS := Lib.hid hlts; have HLOW := Lib.hid hlow; have hg : Gr y2 y3 := hy ▸ (Gr.refl _).alloc _
  replace H := H.grow hg
  replace HB := Lib.hid (HB.out.grow hg)
  clear hg hy hbl hrow hltt hlts hlow
  (refine Kr.outS hK (a' := ?_) ?_ ?_; rotate_left; (focus ((try simp only [Kr.PT]); first | done | rfl))); clear hK K
  (refine Kr.seqQ (v := ?_) (a' := ?_) (by rfl) ?_ ?_ ?_; rotate_left 2; (focus (go_simp; first | done | rfl)); (focus ((try simp only [Kr.PT]); first | done | rfl)))
  refine Kr.seqDoneW ?_
  go_upto_region 2 with fail
  refine Kr.seqStartW ?_
  (refine Kr.seqQ (v := ?_) (a' := ?_) (by rfl) ?_ ?_ ?_; rotate_left 2; (focus (go_simp; first | done | rfl)); (focus ((try simp only [Kr.PT]); first | done | rfl)))
  (refine Kr.seqQ (v := ?_) (a' := ?_) (by rfl) ?_ ?_ ?_; rotate_left 2; (focus (go_simp; first | done | rfl)); (focus ((try simp only [Kr.PT]); first | done | rfl)))
  refine Kr.seqR (by rfl) (fun K hK => ?_)
  refine wp_appJ (B := w.heap.size) (.tmp 16) (.tmp 17) rfl (v := .slice (some ⟨bl, 0, none⟩) 2 2) (k := 2) (bone := bf) (xs := [.int .i64 2, .int .i64 0, .slice (some ⟨bt, 0, none⟩) 32 32, .slice none 0 0, .int .i64 2, .int .i64 0, .slice (some ⟨bs, 0, none⟩) lb.size cap, .slice none 0 0]) (v0 := v0) (v1 := v1) (v2 := v2) (v3 := v3) rfl rfl (HSRC.out.grow H.g) HONE.out H.g.size HROW.out (by decide) ?_
  intro u y4 hrow6 hg6 hub
  have hlow := HLOW.out; have hltt := HLTT.out; have hlts := HLTS.out; have hbl : ∀ z, (Value.slice (some ⟨bl, 0, none⟩) 2 2).ownBlock = some z → bl = z := fun z hz => Option.some.inj hz
  have hlw : bl < y3.heap.size := (World.ownsRow.lt HROW.out bl rfl).2
  have H6 := H.grown hg6 (fun z hz => by
    have h1 := hbl z hz
    refine ⟨by omega, fun x hx => ?_⟩
    rcases List.mem_cons.1 hx with rfl | hx
    · show bt ≠ z; omega
    · cases hx)
  have hb6 := bytes_same HB.out (hg6.block bs (by omega) (fun e => by have := hbl bs e.symm; omega))
  clear H HB; have H := H6; have HB := Lib.hid hb6; clear H6 hb6
  have hkt : KidT y4 1 [.int .i64 2, .int .i64 0, .slice (some ⟨bt, 0, none⟩) 32 32, .slice none 0 0, .int .i64 2, .int .i64 0, .slice (some ⟨bs, 0, none⟩) lb.size cap, .slice none 0 0] [.mk 2 0 st [], .mk 2 0 (s8 lb) []] := ((KidT.nil y4 1).snoc rfl rfl (itv_bytes (n := 32) (c := 32) (bytesAt_tr (H.at 0 rfl)) HST.out (by decide) (by decide))).snoc rfl rfl (itv_bytes HB.out (s8_length lb) HBc.out (by have := HSZ.out; omega))
  have hk3 : KidT y4 (k0 + 1) [.int .i64 2, .int .i64 0, .slice (some ⟨bt, 0, none⟩) 32 32, .slice none 0 0, .int .i64 2, .int .i64 0, .slice (some ⟨bs, 0, none⟩) lb.size cap, .slice none 0 0, v0, v1, v2, v3] [.mk 2 0 st [], .mk 2 0 (s8 lb) [], x] := KidT.snoc (xs := [.int .i64 2, .int .i64 0, .slice (some ⟨bt, 0, none⟩) 32 32, .slice none 0 0, .int .i64 2, .int .i64 0, .slice (some ⟨bs, 0, none⟩) lb.size cap, .slice none 0 0]) (ts := [.mk 2 0 st [], .mk 2 0 (s8 lb) []]) (hkt.deep (by omega)) rfl rfl ((HIX.out.grow H.g).deep (by omega))
  obtain ⟨p9, c9, hv9, _⟩ := sliceI hrow6; subst hv9; have HROW6 := Lib.hid hrow6; have HKT := Lib.hid hk3; clear hrow6 hk3 hkt hub hg6 hlow hltt hlts hbl hlw
  (refine Kr.outS hK (a' := ?_) ?_ ?_; rotate_left; (focus ((try simp only [Kr.PT]); first | done | rfl))); clear hK K
  (refine Kr.seqQ (v := .agg #[.int .i64 3, .int .i64 0, .slice none 0 0, .slice p9 3 c9]) (a' := ?_) (by rfl) ?_ ?_ ?_; rotate_left 1; (focus (go_simp; first | done | rfl)); (focus ((try simp only [Kr.PT]); first | done | rfl)))
  refine Kr.seqR (by rfl) (fun K hK => ?_)
  go_simp
  go_at_call 40
  have hit := itv_row HROW6.out rfl (by decide) HKT.out; have hP := Encode_ok hit HV.out (HE.out ▸ HLN.out); rw [show enc 8 (.mk 3 0 [] _) = E from HE.out] at hP
  refine hP.mono ?_; clear hP hit
  rintro e y5 ⟨p, cE, rfl, hR, hg⟩
  obtain ⟨q, c2, e1, _, hpn, hsrc⟩ := hR.src; rw [List.length_map] at e1; cases e1; have HPN := Lib.hid hpn; have HSR := Lib.hid (srcB_of hsrc); clear hpn hsrc hR
  replace H := H.grow hg
  clear hg
  (refine Kr.outS hK (a' := ?_) ?_ ?_; rotate_left; (focus ((try simp only [Kr.PT]); first | done | rfl))); clear hK K
  (refine Kr.seqQ (v := ?_) (a' := ?_) (by rfl) ?_ ?_ ?_; rotate_left 2; (focus (go_simp; first | done | rfl)); (focus ((try simp only [Kr.PT]); first | done | rfl)))
  (refine Kr.seqQ (v := ?_) (a' := ?_) (by rfl) ?_ ?_ ?_; rotate_left 2; (focus (go_simp; first | done | rfl)); (focus ((try simp only [Kr.PT]); first | done | rfl)))
  (refine Kr.seqQ (v := ?_) (a' := ?_) (by rfl) ?_ ?_ ?_; rotate_left 2; (focus (go_simp; first | done | rfl)); (focus ((try simp only [Kr.PT]); first | done | rfl)))
  (refine Kr.seqQ (v := ?_) (a' := ?_) (by rfl) ?_ ?_ ?_; rotate_left 2; (focus (go_simp; first | done | rfl)); (focus ((try simp only [Kr.PT]); first | done | rfl)))
  refine Kr.seqDoneW ?_
  have hk := trivial
  go_wp2
  refine bodyPost_ret (v := .tuple #[.slice p E.length cE, .int .i64 0]) (by simp [results, Tryd.results27, go_sem, hk]) rfl ⟨p, E.length, cE, rfl, rfl, HPN.out, HSR.out, H.g⟩
theorem frame_v {st : List (BitVec 8)} {c : Int} {lb : ByteArray} {f : Value} {xs : List It} {w : World} (hst : st.length = 32) (hl : isL lb = true) (hF : Fur w f xs) (hv : ∀ x ∈ xs, vld 7 x = true) (hln : (xs.flatMap (enc 7)).length ≤ 16000) :
    Calls Tryd.prog 27 #[.agg (tr st c).toArray, .string lb, f] w (FrP w (enc 8 (fr st (s8 lb) xs))) := by
  have h1 := isL_size hl
  have h2 : (enc 8 (fr st (s8 lb) xs)).length ≤ 16384 := by rw [enc_fr_len, hst, s8_length]; omega
  rcases hF with ⟨rfl, rfl⟩ | ⟨bf, v0, v1, v2, v3, x, k, rfl, rfl, e1, e2, e3⟩
  · exact frame0_v hst h1.1 h1.2 (vld_fr0 _ _) h2
  · exact frame1_v hst h1.1 h1.2 e1 e2 e3 (vld_fr1 _ _ (hv x (List.mem_singleton.2 rfl))) h2

end Go.Proofs.YtldgjhmefaapeaaDoor.Dg
