/- The reference's bytes. -/
import Derived.Test.YtilbojcghladjaaDoorQDx
import Derived.Deep.Cut
namespace Go.Proofs.YtilbojcghladjaaDoor.Dg
open Go Go.RowKit Go.Proofs.YtilbojcghladjaaDoor.Ne Go.Proofs.YtilbojcghladjaaDoor.Kr

theorem row_new2 {w W y : World} {T : TypeId} {rs : List Blk} {b : Nat} (H : Ow w W rs) (hy : W.alloc (.cells #[] T) = y) (hb : W.heap.size = b) : RowG T w.heap.size (.slice (some ⟨b, 0, none⟩) 0 0) [] y ∧ Apt (.slice (some ⟨b, 0, none⟩) 0 0) rs := by
  subst hy hb
  exact row_new H
theorem src_ne {p : Option Addr} {l : List (BitVec 8)} {W : World} {c : Nat} (h : SrcB p l W) (hl : 0 < l.length) : p = none → c = 0 := fun e => by
  obtain ⟨b, off, e2, _⟩ := src_some h hl
  rw [e] at e2; cases e2
theorem one_lit8 (xs : List (BitVec 8)) : ∀ u ∈ xs.map w8, u.oneCell' = true := oneCell_bytes xs
theorem srcB_of {p : Option Addr} {l : List (BitVec 8)} {W : World} (h : SrcG p (l.map w8) W) : SrcB p l W := by
  rcases h with h | ⟨b, off, e, h⟩
  · exact .inl (List.map_eq_nil_iff.1 h)
  · refine .inr ⟨b, off, e, fun j x hx => h j (w8 x) ?_⟩
    rw [List.getElem?_map, hx]; rfl

set_option linter.unusedSimpArgs false in
set_option maxRecDepth 100000 in
set_option maxHeartbeats 16000000 in
theorem rBytes_v {n : Nat} {w : World} :
    Calls Tryd.prog 41 #[.int .i64 (n : Int)] w fun e w' => ∃ p c, e = .returned (.slice p 8 c) ∧ 8 ≤ c ∧ SrcB p (be8 n) w' ∧ Gr w w' := by
  obtain ⟨R, hR⟩ : ∃ R, be8 n = R := ⟨_, rfl⟩
  rw [hR]; have hRl : R.length = 8 := by rw [← hR]; exact be8_length _; 
  have HRE := Lib.hid hR; clear hR
  have H := Ow.start w
  go_enter Tryd.func41, Tryd.ntmps41
  go_upto_region 0 with fail
  refine Kr.seqStartW ?_
  (refine Kr.seqQ (v := ?_) (a' := ?_) (by rfl) ?_ ?_ ?_; rotate_left 2; (focus (go_simp; first | done | rfl)); (focus ((try simp only [Kr.PT]); first | done | rfl)))
  refine Kr.seqDoneW ?_
  go_upto_region 1 with fail
  refine Kr.seqStartW ?_
  (refine Kr.seqQ (v := ?_) (a' := ?_) (by rfl) ?_ ?_ ?_; rotate_left 2; (focus (go_simp; first | done | rfl)); (focus ((try simp only [Kr.PT]); first | done | rfl)))
  refine Kr.seqDoneW ?_
  go_upto_region 2 with fail
  refine Kr.seqStartW ?_
  (refine Kr.seqQ (v := ?_) (a' := ?_) (by rfl) ?_ ?_ ?_; rotate_left 2; (focus (go_simp; first | done | rfl)); (focus ((try simp only [Kr.PT]); first | done | rfl)))
  refine Kr.seqDoneW ?_
  have hr0 : Hid (RowG 5 w.heap.size (.slice none 0 0) ((R.take 0).map w8) w) := Lib.hid (RowG.nil _ _ _)
  have H2 := Lib.hid H; clear H
  go_wp2_with fail
  go_loopw [3, 4] (fun v iv wr => ∃ (j : Nat) (i : Int), j ≤ 8 ∧ i + j = 7 ∧ iv = .int .i64 i ∧ Hid (RowG 5 w.heap.size v ((R.take j).map w8) wr) ∧ Hid (Apt v []) ∧ Hid (Ow w wr [])) (fun _ iv _ => (intOf iv + 1).toNat)
  case atStart => exact ⟨0, 7, by decide, by decide, rfl, hr0, Lib.hid (Apt.nil _), H2⟩
  case round =>
    clear H2 hr0; obtain ⟨j, i, hj, hij, rfl, HR, HA, HH⟩ := hrel; have H := HH.out; replace HA := HA.out; clear HH
    have htl : (R.take j).length = j := by rw [List.length_take, hRl]; omega
    by_cases hje : j = 8
    · have HC : decide ((0 : Int) ≤ i) = false := decide_eq_false (by omega)
      rw [show R.take j = R from List.take_of_length_le (by omega)] at HR
      clear hje htl
      obtain ⟨p, c, rfl, hc, _, hsrc⟩ := HR.out.src
      rw [List.length_map, hRl] at hc ⊢
      have HSRC := Lib.hid (srcB_of hsrc); clear hsrc HR HA
      go_upto_region 3 with fail
      refine Kr.seqStartW ?_
      (refine Kr.seqQ (v := ?_) (a' := ?_) (by rfl) ?_ ?_ ?_; rotate_left 2; (focus (go_simp; first | done | rfl)); (focus ((try simp only [Kr.PT]); first | done | rfl)))
      (refine Kr.seqQ (v := .bool false) (a' := ?_) (by rfl) ?_ ?_ ?_; rotate_left 1; (focus (exact Kr.valOf rfl (geqI HC))); (focus ((try simp only [Kr.PT]); first | done | rfl)))
      refine Kr.seqDoneW ?_
      go_upto_region 6 with fail
      refine Kr.seqStartW ?_
      (refine Kr.seqQ (v := ?_) (a' := ?_) (by rfl) ?_ ?_ ?_; rotate_left 2; (focus (go_simp; first | done | rfl)); (focus ((try simp only [Kr.PT]); first | done | rfl)))
      (refine Kr.seqQ (v := ?_) (a' := ?_) (by rfl) ?_ ?_ ?_; rotate_left 2; (focus (go_simp; first | done | rfl)); (focus ((try simp only [Kr.PT]); first | done | rfl)))
      refine Kr.seqDoneW ?_
      have hk := trivial
      go_wp2
      refine bodyPost_ret (v := .slice p 8 c) (by simp [results, Tryd.results41, go_sem, hk]) rfl ⟨p, c, rfl, hc, HSRC.out, H.g⟩
    · have hjl : j < 8 := by omega
      obtain ⟨k, rfl⟩ : ∃ k : Nat, i = (k : Int) := ⟨i.toNat, by omega⟩
      have HC : decide ((0 : Int) ≤ (k : Int)) = true := decide_eq_true (by omega)
      have hk7 : 7 - j = k := by omega
      obtain ⟨kk, hkk⟩ : ∃ z, 8 * k = z := ⟨_, rfl⟩
      obtain ⟨q, hq⟩ : ∃ z, n / 2 ^ kk = z := ⟨_, rfl⟩
      obtain ⟨z, hz⟩ : ∃ z, BitVec.ofNat 8 q = z := ⟨_, rfl⟩
      have hzb : byteOf n j = z := by unfold byteOf; rw [hk7, hkk, hq, hz]
      have htk : (R.take (j + 1)).map w8 = (R.take j).map w8 ++ [w8 z] := by rw [← HRE.out, be8_take n hjl, hzb, List.map_append]; rfl
      have hmul : IntKind.i64.wrap ((8 : Int) * (k : Int)) = (kk : Int) := wrap_nat (by omega) (by omega)
      obtain ⟨i2, hi2⟩ : ∃ i2 : Int, (k : Int) - 1 = i2 := ⟨_, rfl⟩
      have hsub : IntKind.i64.wrap ((k : Int) - 1) = i2 := by rw [hi2]; exact IntWalk.i64_in _ (by omega)
      go_upto_region 3 with fail
      refine Kr.seqStartW ?_
      (refine Kr.seqQ (v := ?_) (a' := ?_) (by rfl) ?_ ?_ ?_; rotate_left 2; (focus (go_simp; first | done | rfl)); (focus ((try simp only [Kr.PT]); first | done | rfl)))
      (refine Kr.seqQ (v := .bool true) (a' := ?_) (by rfl) ?_ ?_ ?_; rotate_left 1; (focus (exact Kr.valOf rfl (geqI HC))); (focus ((try simp only [Kr.PT]); first | done | rfl)))
      refine Kr.seqDoneW ?_
      go_upto_region 5 with fail
      refine Kr.seqStartW ?_
      (refine Kr.seqQ (v := ?_) (a' := ?_) (by rfl) ?_ ?_ ?_; rotate_left 2; (focus (go_simp; first | done | rfl)); (focus ((try simp only [Kr.PT]); first | done | rfl)))
      (refine Kr.seqQ (v := ?_) (a' := ?_) (by rfl) ?_ ?_ ?_; rotate_left 2; (focus (go_simp; first | done | rfl)); (focus ((try simp only [Kr.PT]); first | done | rfl)))
      (refine Kr.seqQ (v := ?_) (a' := ?_) (by rfl) ?_ ?_ ?_; rotate_left 2; (focus (go_simp; first | done | rfl)); (focus ((try simp only [Kr.PT]); first | done | rfl)))
      (refine Kr.seqQ (v := .int .i64 (kk : Int)) (a' := ?_) (by rfl) ?_ ?_ ?_; rotate_left 1; (focus (exact Kr.valOf rfl (mulI hmul))); (focus ((try simp only [Kr.PT]); first | done | rfl)))
      (refine Kr.seqQ (v := .int .i64 (q : Int)) (a' := ?_) (by rfl) ?_ ?_ ?_; rotate_left 1; (focus (exact Kr.valOf rfl (shrI (by omega) hq))); (focus ((try simp only [Kr.PT]); first | done | rfl)))
      (refine Kr.seqQ (v := .int .u8 ((z).toNat : Int)) (a' := ?_) (by rfl) ?_ ?_ ?_; rotate_left 1; (focus (exact Kr.valOf rfl (convI8 hz))); (focus ((try simp only [Kr.PT]); first | done | rfl)))
      refine Kr.seqR (by rfl) (fun K hK => ?_)
      go_simp
      obtain ⟨y1, hy⟩ : ∃ y, wr.alloc (.cells #[.int .u8 ((z).toNat : Int)] 5) = y := ⟨_, rfl⟩
      obtain ⟨bone, hbn⟩ : ∃ b, wr.heap.size = b := ⟨_, rfl⟩
      rw [hy, hbn]
      have hy2 : wr.alloc (.cells ([.int .u8 ((z).toNat : Int)] : List Value).toArray 5) = y1 := hy
      have hg : Gr wr y1 := hy ▸ (Gr.refl _).alloc _
      have HLIT := Lib.hid (hbn ▸ hy2 ▸ lit_src (W := wr) (T := 5) [.int .u8 ((z).toNat : Int)]); clear hy2
      replace H := H.grow hg
      replace HR := Lib.hid (HR.out.grow hg)
      clear hg hy hbn
      (refine Kr.outS hK (a' := ?_) ?_ ?_; rotate_left; (focus ((try simp only [Kr.PT]); first | done | rfl))); clear hK K
      refine Kr.seqR (by rfl) (fun K hK => ?_)
      refine wp_appG (T := 5) (TS := 22) Tryd.underlying22 info8 rfl (.tmp 9) (.tmp 15) rfl (v := u3) (r := ((R.take j).map w8)) (d := [w8 z]) (p := (some ⟨bone, 0, none⟩)) (m := 1) (c := 1) (rs := []) rfl rfl (rfl) (HLIT.out) (one_lit8 [z]) (fun e => by cases e) H HR.out HA (by rw [List.length_map, htl]; omega) (by decide) ?_
      intro v1 y2 H3 hR3 hA3
      clear H HR HA HLIT; have H := H3; have HR := Lib.hid hR3; have HA := hA3; clear H3 hR3 hA3
      (refine Kr.outS hK (a' := ?_) ?_ ?_; rotate_left; (focus ((try simp only [Kr.PT]); first | done | rfl))); clear hK K
      (refine Kr.seqQ (v := ?_) (a' := ?_) (by rfl) ?_ ?_ ?_; rotate_left 2; (focus (go_simp; first | done | rfl)); (focus ((try simp only [Kr.PT]); first | done | rfl)))
      refine Kr.seqDoneW ?_
      rw [← htk] at HR
      go_upto_region 4 with fail
      refine Kr.seqStartW ?_
      (refine Kr.seqQ (v := ?_) (a' := ?_) (by rfl) ?_ ?_ ?_; rotate_left 2; (focus (go_simp; first | done | rfl)); (focus ((try simp only [Kr.PT]); first | done | rfl)))
      (refine Kr.seqQ (v := .int .i64 i2) (a' := ?_) (by rfl) ?_ ?_ ?_; rotate_left 1; (focus (exact Kr.valOf rfl (subI hsub))); (focus ((try simp only [Kr.PT]); first | done | rfl)))
      (refine Kr.seqQ (v := ?_) (a' := ?_) (by rfl) ?_ ?_ ?_; rotate_left 2; (focus (go_simp; first | done | rfl)); (focus ((try simp only [Kr.PT]); first | done | rfl)))
      refine Kr.seqDoneW ?_
      go_wp2; go_roundw
      case rel => exact ⟨j + 1, i2, by omega, by omega, rfl, HR, Lib.hid HA, Lib.hid H⟩
      case measure => simp [intOf]; omega
end Go.Proofs.YtilbojcghladjaaDoor.Dg
