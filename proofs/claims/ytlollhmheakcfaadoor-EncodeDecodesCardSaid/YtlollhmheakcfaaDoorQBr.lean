/- awake. -/
import Derived.Test.YtlollhmheakcfaaDoorQBq
import Derived.Deep.Cut
namespace Go.Proofs.YtlollhmheakcfaaDoor.Dg
open Go Go.RowKit Go.Proofs.YtlollhmheakcfaaDoor.Ne Go.Proofs.YtlollhmheakcfaaDoor.Kr

/-- All blocks of an item lie in the memory. -/
theorem ItV.inHeap {W : World} {F G : Nat → Prop} : ∀ {d : Nat} {v : Value} {t : It}, ItV W d F v t → (∀ k, k < W.heap.size → G k) → ItV W d G v t
  | 0, _, _, h, _ => h
  | _ + 1, _, t, ⟨pb, cb, pl, cl, e, h1, h2, h3, h4, h5, h6, hb, hl⟩, g => by
    have lt : ∀ (b o : Nat) (u : Value), W.cell? ⟨b, o, none⟩ = some u → b < W.heap.size := fun b o u h => by
      rcases Nat.lt_or_ge b W.heap.size with h' | h'
      · exact h'
      · simp [World.cell?, Array.getElem?_eq_none h'] at h
    refine ⟨pb, cb, pl, cl, e, h1, h2, h3, h4, h5, h6, ?_, fun j x hx => ?_⟩
    · rcases hb with hb | ⟨b, off, e, f, h⟩
      · exact .inl hb
      · cases hq : t.b with
        | nil => exact .inl rfl
        | cons y r => exact .inr ⟨b, off, e, g b (lt b (off + 0) (w8 y) (h 0 y (by rw [hq]; rfl))), by rw [← hq]; exact h⟩
    · obtain ⟨b, off, v0, v1, v2, v3, e, f, c0, c1, c2, c3, h⟩ := hl j x hx
      exact ⟨b, off, v0, v1, v2, v3, e, g b (lt _ _ _ c0), c0, c1, c2, c3, h.inHeap g⟩

/-- The chapter's item. -/
def exI : It := .mk 3 0 [] [.mk 1 (-1) [] [], .mk 2 0 [5#8] []]
theorem exI_v : vld 8 exI = true := by decide +kernel
theorem exI_e : enc 8 exI = [3#8, 0#8, 0#8, 0#8, 2#8, 1#8, 255#8, 255#8, 255#8, 255#8, 255#8, 255#8, 255#8, 255#8, 2#8, 0#8, 0#8, 0#8, 1#8, 5#8] := by decide +kernel
theorem itoa1 : Lib.itoa (-1) = [45, 49] := by
  unfold Lib.itoa
  rw [if_pos (by decide)]
  show 45 :: Lib.decDigits 1 = _
  unfold Lib.decDigits
  simp
theorem exI_t : strB (txt 8 exI) = ⟨#[40, 45, 49, 32, 120, 48, 53, 41]⟩ := by
  have h : itB (-1) = [45#8, 49#8] := by unfold itB; rw [itoa1]; rfl
  have h1 : txt 7 (.mk 1 (-1) [] []) = [45#8, 49#8] := by rw [txt1 rfl]; exact h
  have h2 : txt 7 (.mk 2 0 [5#8] []) = [120#8, 48#8, 53#8] := by rw [txt2 rfl]; rfl
  have h3 : txt 8 exI = [40#8, 45#8, 49#8, 32#8, 120#8, 48#8, 53#8, 41#8] := by
    unfold exI
    rw [txt3 (show It.k (.mk 3 0 [] [.mk 1 (-1) [] [], .mk 2 0 [5#8] []]) = 3 from rfl) 7]
    show 40 :: (jn (txt 7) [.mk 1 (-1) [] [], .mk 2 0 [5#8] []] 2 ++ [41]) = _
    rw [jn, jn, jn]
    dsimp only [List.getElem?_cons_zero, List.getElem?_cons_succ]
    rw [h1, h2]
    rfl
  rw [h3]; rfl
theorem exI_tl : (txt 8 exI).length ≤ 99999000 := by
  have h := congrArg (fun s : ByteArray => s.data.size) exI_t
  have h2 : (txt 8 exI).length = 8 := by simpa [strB] using h
  omega
theorem exI_rd : rd 8 [2#8, 0#8, 0#8, 0#8, 2#8, 7#8] = .error 4 := by rfl
theorem itv_ex {W : World} {b5 bI : Nat} (h5 : SrcG (some ⟨b5, 0, none⟩) [.int .u8 5] W) (hI : SrcG (some ⟨bI, 0, none⟩) [.int .i64 1, .int .i64 (-1), .slice none 0 0, .slice none 0 0, .int .i64 2, .int .i64 0, .slice (some ⟨b5, 0, none⟩) 1 1, .slice none 0 0] W) : ItV W 3 (fun _ => True) (.agg #[.int .i64 3, .int .i64 0, .slice none 0 0, .slice (some ⟨bI, 0, none⟩) 2 2]) exI := by
  have c := fun j u (hu : ([.int .i64 1, .int .i64 (-1), .slice none 0 0, .slice none 0 0, .int .i64 2, .int .i64 0, .slice (some ⟨b5, 0, none⟩) 1 1, .slice none 0 0] : List Value)[j]? = some u) => srcG_get hI hu
  have hb : BytesAt b5 0 [5#8] W := fun j x hx => by
    have := srcG_get h5 (show [Value.int .u8 5][j]? = some (w8 x) by
      match j, hx with
      | 0, hx => obtain rfl : 5#8 = x := by simpa using hx
                 rfl
      | j + 1, hx => simp at hx)
    exact this
  have hls : LsV W 2 (fun _ => True) (some ⟨bI, 0, none⟩) [.mk 1 (-1) [] [], .mk 2 0 [5#8] []] := fun j x hx => by
    match j, hx with
    | 0, hx =>
      obtain rfl : It.mk 1 (-1) [] [] = x := by simpa using hx
      exact ⟨bI, 0, _, _, _, _, rfl, trivial, c 0 _ rfl, c 1 _ rfl, c 2 _ rfl, c 3 _ rfl, itv_int ⟨by decide, by decide⟩⟩
    | 1, hx =>
      obtain rfl : It.mk 2 0 [5#8] [] = x := by simpa using hx
      exact ⟨bI, 0, _, _, _, _, rfl, trivial, c 4 _ rfl, c 5 _ rfl, c 6 _ rfl, c 7 _ rfl, itv_str rfl (fun e => by cases e) (Nat.le_refl _) (by decide) (.inr ⟨b5, 0, rfl, trivial, hb⟩)⟩
    | j + 2, hx => simp at hx
  exact itv_lst rfl (by decide) hls

theorem itv_ne {W : World} {b : Nat} {d : Nat} {F : Nat → Prop} {v : Value} {t : It} (h : ItV W d F v t) (hb : W.heap.size = b) : ItV W d (fun k => k ≠ b) v t := by
  refine ItV.inHeap h (fun k hk => ?_)
  omega
theorem srcB_ofRow {B : Nat} {W : World} {p : Option Addr} {k c : Nat} {l : List (BitVec 8)} (h : RowG 5 B (.slice p k c) (l.map w8) W) (hl : l.length = k) : SrcB p l W := by
  rcases row_bytes h hl with h | ⟨b, off, e, _, h⟩
  · exact .inl h
  · exact .inr ⟨b, off, e, h⟩
theorem srcB_new {p : Option Addr} {l : List (BitVec 8)} {W : World} {b : Nat} (h : SrcB p l W) (hl : 0 < l.length) (hb : W.heap.size = b) : p ≠ none ∧ ∀ a, p = some a → a.block ≠ b := by
  obtain ⟨b2, off, e, _⟩ := src_some h hl
  have := src_lt h e hl
  subst e
  exact ⟨fun e => (by cases e), fun a ha => by cases ha; show b2 ≠ b; omega⟩
theorem srcB_put {p : Option Addr} {l : List (BitVec 8)} {W : World} {b : Nat} {cs : Array Value} (h : SrcB p l W) (hne : ∀ a, p = some a → a.block ≠ b) : SrcB p l (W.setRow b cs) :=
  h.imp id (fun ⟨b2, off, e, h⟩ => ⟨b2, off, e, fun j x hx => (World.cell?_of_block (a := ⟨b2, off + j, none⟩) (setRow_other W b b2 cs (hne _ e))).trans (h j x hx)⟩)
set_option linter.unusedSimpArgs false in
set_option maxRecDepth 100000 in
set_option maxHeartbeats 16000000 in
theorem awake_v {w : World} (hT : Tab w) :
    Calls Tryd.prog 10 #[] w fun e w' => e = .returned (.bool true) ∧ Gr w w' := by
  have HTAB := Lib.hid hT; clear hT
  have H := Ow.start w
  go_enter Tryd.func10, Tryd.ntmps10
  go_upto_region 0 with fail
  refine Kr.seqStartW ?_
  (refine Kr.seqQ (v := ?_) (a' := ?_) (by rfl) ?_ ?_ ?_; rotate_left 2; (focus (go_simp; first | done | rfl)); (focus ((try simp only [Kr.PT]); first | done | rfl)))
  refine Kr.seqDoneW ?_
  go_upto_region 1 with fail
  refine Kr.seqStartW ?_
  (refine Kr.seqQ (v := .agg #[.int .i64 1, .int .i64 (-1), .slice none 0 0, .slice none 0 0]) (a' := ?_) (by rfl) ?_ ?_ ?_; rotate_left 1; (focus (go_simp; first | done | rfl)); (focus ((try simp only [Kr.PT]); first | done | rfl)))
  refine Kr.seqR (by rfl) (fun K hK => ?_)
  go_simp
  obtain ⟨y1, hy⟩ : ∃ y, w.alloc (.cells #[.int .u8 5] 5) = y := ⟨_, rfl⟩
  obtain ⟨b5, hbn⟩ : ∃ b, w.heap.size = b := ⟨_, rfl⟩
  rw [hy, hbn]
  have hy2 : w.alloc (.cells ([.int .u8 5] : List Value).toArray 5) = y1 := hy
  have hg : Gr w y1 := hy ▸ (Gr.refl _).alloc _
  have HL5 := Lib.hid (hbn ▸ hy2 ▸ lit_src (W := w) (T := 5) [.int .u8 5]); clear hy2
  replace H := H.grow hg
  clear hg hy hbn
  (refine Kr.outS hK (a' := ?_) ?_ ?_; rotate_left; (focus ((try simp only [Kr.PT]); first | done | rfl))); clear hK K
  (refine Kr.seqQ (v := .agg #[.int .i64 2, .int .i64 0, .slice (some ⟨b5, 0, none⟩) 1 1, .slice none 0 0]) (a' := ?_) (by rfl) ?_ ?_ ?_; rotate_left 1; (focus (go_simp; first | done | rfl)); (focus ((try simp only [Kr.PT]); first | done | rfl)))
  refine Kr.seqR (by rfl) (fun K hK => ?_)
  go_simp
  obtain ⟨y2, hy⟩ : ∃ y, y1.alloc (.cells #[.int .i64 1, .int .i64 (-1), .slice none 0 0, .slice none 0 0, .int .i64 2, .int .i64 0, .slice (some ⟨b5, 0, none⟩) 1 1, .slice none 0 0] 25) = y := ⟨_, rfl⟩
  obtain ⟨bI, hbn⟩ : ∃ b, y1.heap.size = b := ⟨_, rfl⟩
  rw [hy, hbn]
  have hy2 : y1.alloc (.cells ([.int .i64 1, .int .i64 (-1), .slice none 0 0, .slice none 0 0, .int .i64 2, .int .i64 0, .slice (some ⟨b5, 0, none⟩) 1 1, .slice none 0 0] : List Value).toArray 25) = y2 := hy
  have hg : Gr y1 y2 := hy ▸ (Gr.refl _).alloc _
  have HLI := Lib.hid (hbn ▸ hy2 ▸ lit_src (W := y1) (T := 25) [.int .i64 1, .int .i64 (-1), .slice none 0 0, .slice none 0 0, .int .i64 2, .int .i64 0, .slice (some ⟨b5, 0, none⟩) 1 1, .slice none 0 0]); clear hy2
  replace H := H.grow hg
  replace HL5 := Lib.hid (HL5.out.grow hg)
  clear hg hy hbn
  have HIT := Lib.hid (itv_ex HL5.out HLI.out); clear HL5 HLI
  (refine Kr.outS hK (a' := ?_) ?_ ?_; rotate_left; (focus ((try simp only [Kr.PT]); first | done | rfl))); clear hK K
  (refine Kr.seqQ (v := .agg #[.int .i64 3, .int .i64 0, .slice none 0 0, .slice (some ⟨bI, 0, none⟩) 2 2]) (a' := ?_) (by rfl) ?_ ?_ ?_; rotate_left 1; (focus (go_simp; first | done | rfl)); (focus ((try simp only [Kr.PT]); first | done | rfl)))
  refine Kr.seqR (by rfl) (fun K hK => ?_)
  refine wp_runV rfl newI ?_
  obtain ⟨y3, hy⟩ : ∃ y, y2.alloc (.cells ([.int .i64 0, .int .i64 0, .slice none 0 0, .slice none 0 0]).toArray 25) = y := ⟨_, rfl⟩
  obtain ⟨ba, hb⟩ : ∃ b, y2.heap.size = b := ⟨_, rfl⟩
  rw [hy, hb]
  have HIT2 := Lib.hid ((itv_ne HIT.out hb).grow (hy ▸ (Gr.refl _).alloc _ : Gr y2 y3))
  have hg : Gr y2 y3 := hy ▸ (Gr.refl _).alloc _
  replace H := H.alloc hy hb
  replace HIT := Lib.hid (HIT.out.grow hg)
  clear hy hb hg
  (refine Kr.outS hK (a' := ?_) ?_ ?_; rotate_left; (focus ((try simp only [Kr.PT]); first | done | rfl))); clear hK K
  refine Kr.seqR (by rfl) (fun K hK => ?_)
  refine wp_run rfl (stI (H.at 0 rfl) one4) ?_
  have hkp : ItV (y3.setRow ba ([.int .i64 3, .int .i64 0, .slice none 0 0, .slice (some ⟨bI, 0, none⟩) 2 2] : List Value).toArray) 3 (fun b => b ≠ ba) (.agg #[.int .i64 3, .int .i64 0, .slice none 0 0, .slice (some ⟨bI, 0, none⟩) 2 2]) exI := ItV.kept (same_put (W := y3) (b := ba) (cs := ([.int .i64 3, .int .i64 0, .slice none 0 0, .slice (some ⟨bI, 0, none⟩) 2 2] : List Value).toArray) (fun h => h rfl)) (HIT2.out)
  obtain ⟨y4, hy⟩ : ∃ y, y3.setRow ba ([.int .i64 3, .int .i64 0, .slice none 0 0, .slice (some ⟨bI, 0, none⟩) 2 2] : List Value).toArray = y := ⟨_, rfl⟩; rw [hy]; rw [hy] at hkp; have HIX := Lib.hid hkp; clear hkp
  replace H := H.put 0 hy rfl; dsimp only [List.set] at H; clear hy
  (refine Kr.outS hK (a' := ?_) ?_ ?_; rotate_left; (focus ((try simp only [Kr.PT]); first | done | rfl))); clear hK K
  refine Kr.seqDoneW ?_
  go_upto_region 2 with fail
  refine Kr.seqStartW ?_
  (refine Kr.seqQ (v := .agg #[.int .i64 3, .int .i64 0, .slice none 0 0, .slice (some ⟨bI, 0, none⟩) 2 2]) (a' := ?_) (by rfl) ?_ ?_ ?_; rotate_left 1; (focus (exact Kr.valOf rfl (ldI (H.at 0 rfl)))); (focus ((try simp only [Kr.PT]); first | done | rfl)))
  refine Kr.seqR (by rfl) (fun K hK => ?_)
  go_simp
  go_at_call 12
  have hP := Encode_ok HIX.out exI_v (by rw [exI_e]; decide); rw [exI_e] at hP
  refine hP.mono ?_; clear hP
  rintro e y5 ⟨p2, c2, rfl, hR, hg⟩
  have HB := Lib.hid (srcB_ofRow hR rfl); clear hR
  replace H := H.grow hg
  replace HIX := Lib.hid (HIX.out.grow hg)
  clear hg
  (refine Kr.outS hK (a' := ?_) ?_ ?_; rotate_left; (focus ((try simp only [Kr.PT]); first | done | rfl))); clear hK K
  (refine Kr.seqQ (v := ?_) (a' := ?_) (by rfl) ?_ ?_ ?_; rotate_left 2; (focus (go_simp; first | done | rfl)); (focus ((try simp only [Kr.PT]); first | done | rfl)))
  (refine Kr.seqQ (v := .slice p2 20 c2) (a' := ?_) (by rfl) ?_ ?_ ?_; rotate_left 1; (focus (go_simp; first | done | rfl)); (focus ((try simp only [Kr.PT]); first | done | rfl)))
  (refine Kr.seqQ (v := .int .i64 0) (a' := ?_) (by rfl) ?_ ?_ ?_; rotate_left 1; (focus (go_simp; first | done | rfl)); (focus ((try simp only [Kr.PT]); first | done | rfl)))
  (refine Kr.seqQ (v := ?_) (a' := ?_) (by rfl) ?_ ?_ ?_; rotate_left 2; (focus (go_simp; first | done | rfl)); (focus ((try simp only [Kr.PT]); first | done | rfl)))
  (refine Kr.seqQ (v := ?_) (a' := ?_) (by rfl) ?_ ?_ ?_; rotate_left 2; (focus (go_simp; first | done | rfl)); (focus ((try simp only [Kr.PT]); first | done | rfl)))
  refine Kr.seqDoneW ?_
  go_upto_region 3 with fail
  refine Kr.seqStartW ?_
  (refine Kr.seqQ (v := .agg #[.int .i64 3, .int .i64 0, .slice none 0 0, .slice (some ⟨bI, 0, none⟩) 2 2]) (a' := ?_) (by rfl) ?_ ?_ ?_; rotate_left 1; (focus (exact Kr.valOf rfl (ldI (H.at 0 rfl)))); (focus ((try simp only [Kr.PT]); first | done | rfl)))
  refine Kr.seqR (by rfl) (fun K hK => ?_)
  go_simp
  go_at_call 22
  have hP := Text_ok HIX.out exI_v (HTAB.out.grow H.g) exI_tl; rw [exI_t] at hP
  refine (hP).mono ?_
  rintro e y6 ⟨rfl, hg⟩
  replace H := H.grow hg
  replace HIX := Lib.hid (HIX.out.grow hg)
  replace HB := Lib.hid (HB.out.grow hg)
  clear hg
  clear hP
  (refine Kr.outS hK (a' := ?_) ?_ ?_; rotate_left; (focus ((try simp only [Kr.PT]); first | done | rfl))); clear hK K
  (refine Kr.seqQ (v := ?_) (a' := ?_) (by rfl) ?_ ?_ ?_; rotate_left 2; (focus (go_simp; first | done | rfl)); (focus ((try simp only [Kr.PT]); first | done | rfl)))
  (refine Kr.seqQ (v := .string ⟨#[40, 45, 49, 32, 120, 48, 53, 41]⟩) (a' := ?_) (by rfl) ?_ ?_ ?_; rotate_left 1; (focus (go_simp; first | done | rfl)); (focus ((try simp only [Kr.PT]); first | done | rfl)))
  (refine Kr.seqQ (v := .int .i64 0) (a' := ?_) (by rfl) ?_ ?_ ?_; rotate_left 1; (focus (go_simp; first | done | rfl)); (focus ((try simp only [Kr.PT]); first | done | rfl)))
  (refine Kr.seqQ (v := ?_) (a' := ?_) (by rfl) ?_ ?_ ?_; rotate_left 2; (focus (go_simp; first | done | rfl)); (focus ((try simp only [Kr.PT]); first | done | rfl)))
  (refine Kr.seqQ (v := ?_) (a' := ?_) (by rfl) ?_ ?_ ?_; rotate_left 2; (focus (go_simp; first | done | rfl)); (focus ((try simp only [Kr.PT]); first | done | rfl)))
  refine Kr.seqDoneW ?_
  go_upto_region 4 with fail
  refine Kr.seqStartW ?_
  refine Kr.seqR (by rfl) (fun K hK => ?_)
  go_simp
  obtain ⟨y7, hy⟩ : ∃ y, y6.alloc (.cells #[.int .u8 2, .int .u8 0, .int .u8 0, .int .u8 0, .int .u8 2, .int .u8 7] 5) = y := ⟨_, rfl⟩
  obtain ⟨b6, hbn⟩ : ∃ b, y6.heap.size = b := ⟨_, rfl⟩
  rw [hy, hbn]
  have hy2 : y6.alloc (.cells ([.int .u8 2, .int .u8 0, .int .u8 0, .int .u8 0, .int .u8 2, .int .u8 7] : List Value).toArray 5) = y7 := hy
  have hg : Gr y6 y7 := hy ▸ (Gr.refl _).alloc _
  have HL6 := Lib.hid (hbn ▸ hy2 ▸ lit_src (W := y6) (T := 5) [.int .u8 2, .int .u8 0, .int .u8 0, .int .u8 0, .int .u8 2, .int .u8 7]); clear hy2
  replace H := H.grow hg
  replace HIX := Lib.hid (HIX.out.grow hg)
  replace HB := Lib.hid (HB.out.grow hg)
  clear hg hy hbn
  (refine Kr.outS hK (a' := ?_) ?_ ?_; rotate_left; (focus ((try simp only [Kr.PT]); first | done | rfl))); clear hK K
  refine Kr.seqR (by rfl) (fun K hK => ?_)
  go_simp
  go_at_call 17
  refine (Decode_v (w := y7) (l := [2#8, 0#8, 0#8, 0#8, 2#8, 7#8]) (srcB_of (show SrcG (some ⟨b6, 0, none⟩) ([2#8, 0#8, 0#8, 0#8, 2#8, 7#8].map w8) _ from HL6.out)) rfl (Nat.le_refl 6)).mono ?_
  rintro e y8 hdec
  obtain ⟨v0, v1, v2, v3, er, rfl, hg, hone, hcs⟩ := hdec
  have her : er = 4 := by
    rcases hcs with ⟨_, t, _, h, _⟩ | ⟨_, _, _, _, _, h⟩
    · rw [exI_rd] at h; cases h
    · rw [if_neg (by decide), exI_rd] at h; exact h
  subst her; have HONE := Lib.hid hone; clear hcs hone HL6
  replace H := H.grow hg
  replace HIX := Lib.hid (HIX.out.grow hg)
  replace HB := Lib.hid (HB.out.grow hg)
  clear hg
  (refine Kr.outS hK (a' := ?_) ?_ ?_; rotate_left; (focus ((try simp only [Kr.PT]); first | done | rfl))); clear hK K
  (refine Kr.seqQ (v := ?_) (a' := ?_) (by rfl) ?_ ?_ ?_; rotate_left 2; (focus (go_simp; first | done | rfl)); (focus ((try simp only [Kr.PT]); first | done | rfl)))
  (refine Kr.seqQ (v := .agg #[v0, v1, v2, v3]) (a' := ?_) (by rfl) ?_ ?_ ?_; rotate_left 1; (focus (go_simp; first | done | rfl)); (focus ((try simp only [Kr.PT]); first | done | rfl)))
  (refine Kr.seqQ (v := .int .i64 4) (a' := ?_) (by rfl) ?_ ?_ ?_; rotate_left 1; (focus (go_simp; first | done | rfl)); (focus ((try simp only [Kr.PT]); first | done | rfl)))
  refine Kr.seqR (by rfl) (fun K hK => ?_)
  refine wp_runV rfl newI ?_
  obtain ⟨y9, hy⟩ : ∃ y, y8.alloc (.cells ([.int .i64 0, .int .i64 0, .slice none 0 0, .slice none 0 0]).toArray 25) = y := ⟨_, rfl⟩
  obtain ⟨bd, hb⟩ : ∃ b, y8.heap.size = b := ⟨_, rfl⟩
  rw [hy, hb]
  have HBD := Lib.hid (srcB_new HB.out (by decide) hb)
  have hg : Gr y8 y9 := hy ▸ (Gr.refl _).alloc _
  replace H := H.alloc hy hb
  replace HIX := Lib.hid (HIX.out.grow hg)
  replace HB := Lib.hid (HB.out.grow hg)
  clear hy hb hg
  (refine Kr.outS hK (a' := ?_) ?_ ?_; rotate_left; (focus ((try simp only [Kr.PT]); first | done | rfl))); clear hK K
  refine Kr.seqR (by rfl) (fun K hK => ?_)
  clear HIX
  have HBk := HB
  refine wp_run rfl (stI (H.at 0 rfl) HONE.out) ?_
  have hbd : p2 ≠ none ∧ ∀ a, p2 = some a → a.block ≠ bd := HBD.out
  have hkp := srcB_put (cs := ([v0, v1, v2, v3] : List Value).toArray) (b := bd) HB.out hbd.2
  obtain ⟨y10, hy⟩ : ∃ y, y9.setRow bd ([v0, v1, v2, v3] : List Value).toArray = y := ⟨_, rfl⟩; rw [hy]; rw [hy] at hkp; replace HB := Lib.hid hkp; clear hkp HBk
  replace H := H.put 0 hy rfl; dsimp only [List.set] at H; clear hy
  (refine Kr.outS hK (a' := ?_) ?_ ?_; rotate_left; (focus ((try simp only [Kr.PT]); first | done | rfl))); clear hK K
  (refine Kr.seqQ (v := ?_) (a' := ?_) (by rfl) ?_ ?_ ?_; rotate_left 2; (focus (go_simp; first | done | rfl)); (focus ((try simp only [Kr.PT]); first | done | rfl)))
  refine Kr.seqDoneW ?_
  go_upto_region 5 with fail
  refine Kr.seqStartW ?_
  (refine Kr.seqQ (v := ?_) (a' := ?_) (by rfl) ?_ ?_ ?_; rotate_left 2; (focus (go_simp; first | done | rfl)); (focus ((try simp only [Kr.PT]); first | done | rfl)))
  refine Kr.seqR (by rfl) (fun K hK => ?_)
  go_simp
  obtain ⟨y11, hy⟩ : ∃ y, y10.alloc (.cells #[.int .u8 3, .int .u8 0, .int .u8 0, .int .u8 0, .int .u8 2, .int .u8 1, .int .u8 255, .int .u8 255, .int .u8 255, .int .u8 255, .int .u8 255, .int .u8 255, .int .u8 255, .int .u8 255, .int .u8 2, .int .u8 0, .int .u8 0, .int .u8 0, .int .u8 1, .int .u8 5] 5) = y := ⟨_, rfl⟩
  obtain ⟨b20, hbn⟩ : ∃ b, y10.heap.size = b := ⟨_, rfl⟩
  rw [hy, hbn]
  have hy2 : y10.alloc (.cells ([.int .u8 3, .int .u8 0, .int .u8 0, .int .u8 0, .int .u8 2, .int .u8 1, .int .u8 255, .int .u8 255, .int .u8 255, .int .u8 255, .int .u8 255, .int .u8 255, .int .u8 255, .int .u8 255, .int .u8 2, .int .u8 0, .int .u8 0, .int .u8 0, .int .u8 1, .int .u8 5] : List Value).toArray 5) = y11 := hy
  have hg : Gr y10 y11 := hy ▸ (Gr.refl _).alloc _
  have HL20 := Lib.hid (hbn ▸ hy2 ▸ lit_src (W := y10) (T := 5) [.int .u8 3, .int .u8 0, .int .u8 0, .int .u8 0, .int .u8 2, .int .u8 1, .int .u8 255, .int .u8 255, .int .u8 255, .int .u8 255, .int .u8 255, .int .u8 255, .int .u8 255, .int .u8 255, .int .u8 2, .int .u8 0, .int .u8 0, .int .u8 0, .int .u8 1, .int .u8 5]); clear hy2
  replace H := H.grow hg
  replace HB := Lib.hid (HB.out.grow hg)
  clear hg hy hbn
  (refine Kr.outS hK (a' := ?_) ?_ ?_; rotate_left; (focus ((try simp only [Kr.PT]); first | done | rfl))); clear hK K
  refine Kr.seqR (by rfl) (fun K hK => ?_)
  go_simp
  go_at_call 16
  have hP := Equal_v (w := y11) (c := c2) (d := 20) (b := true) HB.out (show ([3#8, 0#8, 0#8, 0#8, 2#8, 1#8, 255#8, 255#8, 255#8, 255#8, 255#8, 255#8, 255#8, 255#8, 2#8, 0#8, 0#8, 0#8, 1#8, 5#8] : List (BitVec 8)).length = 20 from rfl) (srcB_of (show SrcG (some ⟨b20, 0, none⟩) (([3#8, 0#8, 0#8, 0#8, 2#8, 1#8, 255#8, 255#8, 255#8, 255#8, 255#8, 255#8, 255#8, 255#8, 2#8, 0#8, 0#8, 0#8, 1#8, 5#8] : List (BitVec 8)).map w8) _ from HL20.out)) rfl (decide_eq_true rfl)
  refine hP.mono ?_
  rintro e w9 ⟨rfl, hw⟩
  rw [hw]
  clear hw w9 hP
  (refine Kr.outS hK (a' := ?_) ?_ ?_; rotate_left; (focus ((try simp only [Kr.PT]); first | done | rfl))); clear hK K
  (refine Kr.seqQ (v := ?_) (a' := ?_) (by rfl) ?_ ?_ ?_; rotate_left 2; (focus (go_simp; first | done | rfl)); (focus ((try simp only [Kr.PT]); first | done | rfl)))
  (refine Kr.seqQ (v := ?_) (a' := ?_) (by rfl) ?_ ?_ ?_; rotate_left 2; (focus (go_simp; first | done | rfl)); (focus ((try simp only [Kr.PT]); first | done | rfl)))
  (refine Kr.seqQ (v := ?_) (a' := ?_) (by rfl) ?_ ?_ ?_; rotate_left 2; (focus (go_simp; first | done | rfl)); (focus ((try simp only [Kr.PT]); first | done | rfl)))
  (refine Kr.seqQ (v := ?_) (a' := ?_) (by rfl) ?_ ?_ ?_; rotate_left 2; (focus (go_simp; first | done | rfl)); (focus ((try simp only [Kr.PT]); first | done | rfl)))
  (refine Kr.seqQ (v := ?_) (a' := ?_) (by rfl) ?_ ?_ ?_; rotate_left 2; (focus (go_simp; first | done | rfl)); (focus ((try simp only [Kr.PT]); first | done | rfl)))
  (refine Kr.seqQ (v := ?_) (a' := ?_) (by rfl) ?_ ?_ ?_; rotate_left 2; (focus (go_simp; first | done | rfl)); (focus ((try simp only [Kr.PT]); first | done | rfl)))
  (refine Kr.seqQ (v := .bool true) (a' := ?_) (by rfl) ?_ ?_ ?_; rotate_left 1; (focus (exact Kr.valOf rfl (eqS (decide_eq_true rfl)))); (focus ((try simp only [Kr.PT]); first | done | rfl)))
  (refine Kr.seqQ (v := ?_) (a' := ?_) (by rfl) ?_ ?_ ?_; rotate_left 2; (focus (go_simp; first | done | rfl)); (focus ((try simp only [Kr.PT]); first | done | rfl)))
  (refine Kr.seqQ (v := ?_) (a' := ?_) (by rfl) ?_ ?_ ?_; rotate_left 2; (focus (go_simp; first | done | rfl)); (focus ((try simp only [Kr.PT]); first | done | rfl)))
  (refine Kr.seqQ (v := ?_) (a' := ?_) (by rfl) ?_ ?_ ?_; rotate_left 2; (focus (go_simp; first | done | rfl)); (focus ((try simp only [Kr.PT]); first | done | rfl)))
  (refine Kr.seqQ (v := ?_) (a' := ?_) (by rfl) ?_ ?_ ?_; rotate_left 2; (focus (go_simp; first | done | rfl)); (focus ((try simp only [Kr.PT]); first | done | rfl)))
  (refine Kr.seqQ (v := ?_) (a' := ?_) (by rfl) ?_ ?_ ?_; rotate_left 2; (focus (go_simp; first | done | rfl)); (focus ((try simp only [Kr.PT]); first | done | rfl)))
  (refine Kr.seqQ (v := ?_) (a' := ?_) (by rfl) ?_ ?_ ?_; rotate_left 2; (focus (go_simp; first | done | rfl)); (focus ((try simp only [Kr.PT]); first | done | rfl)))
  (refine Kr.seqQ (v := ?_) (a' := ?_) (by rfl) ?_ ?_ ?_; rotate_left 2; (focus (go_simp; first | done | rfl)); (focus ((try simp only [Kr.PT]); first | done | rfl)))
  (refine Kr.seqQ (v := ?_) (a' := ?_) (by rfl) ?_ ?_ ?_; rotate_left 2; (focus (go_simp; first | done | rfl)); (focus ((try simp only [Kr.PT]); first | done | rfl)))
  (refine Kr.seqQ (v := ?_) (a' := ?_) (by rfl) ?_ ?_ ?_; rotate_left 2; (focus (go_simp; first | done | rfl)); (focus ((try simp only [Kr.PT]); first | done | rfl)))
  (refine Kr.seqQ (v := ?_) (a' := ?_) (by rfl) ?_ ?_ ?_; rotate_left 2; (focus (go_simp; first | done | rfl)); (focus ((try simp only [Kr.PT]); first | done | rfl)))
  refine Kr.seqDoneW ?_
  have hk := trivial
  go_wp2
  refine bodyPost_ret (v := .bool true) (by simp [results, Tryd.results10, go_sem, hk]) rfl ⟨rfl, H.g⟩
end Go.Proofs.YtlollhmheakcfaaDoor.Dg
