/- Compare. -/
import Derived.Test.YtilbojcghladjaaDoorQDu
import Derived.Deep.Cut
namespace Go.Proofs.YtilbojcghladjaaDoor.Dg
open Go Go.RowKit Go.Proofs.YtilbojcghladjaaDoor.Ne Go.Proofs.YtilbojcghladjaaDoor.Kr

theorem neg_small {x z : Int} (h : z = -x) (h1 : -1 ≤ x ∧ x ≤ 1) : IntKind.i64.wrap (-x) = z := by
  subst h; exact IntWalk.i64_in _ (by omega)

set_option linter.unusedSimpArgs false in
set_option maxRecDepth 100000 in
set_option maxHeartbeats 16000000 in
theorem Compare_v {l m : List (BitVec 8)} {w : World} (hl : l.length = 32) (hm : m.length = 32) :
    Calls Tryd.prog 26 #[.agg (l.map w8).toArray, .agg (m.map w8).toArray] w fun e w' => e = .returned (.int .i64 (Lib.compareBytes (u8 l) (u8 m))) ∧ Gr w w' := by
  have hl32 : (l.map w8).length = 32 := by rw [List.length_map]; exact hl
  have hm32 : (m.map w8).length = 32 := by rw [List.length_map]; exact hm
  obtain ⟨z, hz⟩ : ∃ z, Lib.compareBytes (u8 l) (u8 m) = z := ⟨_, rfl⟩
  rw [hz]
  have H := Ow.start w
  go_enter Tryd.func26, Tryd.ntmps26
  go_upto_region 0 with fail
  refine Kr.seqStartW ?_
  refine Kr.seqR (by rfl) (fun K hK => ?_)
  refine wp_runV rfl boxH ?_
  obtain ⟨y1, hy⟩ : ∃ y, w.alloc (.cells (l.map w8).toArray 25) = y := ⟨_, rfl⟩
  obtain ⟨ba, hb⟩ : ∃ b, w.heap.size = b := ⟨_, rfl⟩
  rw [hy, hb]
  have hg : Gr w y1 := hy ▸ (Gr.refl _).alloc _
  replace H := H.alloc hy hb
  clear hy hb hg
  (refine Kr.outS hK (a' := ?_) ?_ ?_; rotate_left; (focus ((try simp only [Kr.PT]); first | done | rfl))); clear hK K
  refine Kr.seqR (by rfl) (fun K hK => ?_)
  refine wp_runV rfl boxH ?_
  obtain ⟨y2, hy⟩ : ∃ y, y1.alloc (.cells (m.map w8).toArray 25) = y := ⟨_, rfl⟩
  obtain ⟨bc, hb⟩ : ∃ b, y1.heap.size = b := ⟨_, rfl⟩
  rw [hy, hb]
  have hg : Gr y1 y2 := hy ▸ (Gr.refl _).alloc _
  replace H := H.alloc hy hb
  clear hy hb hg
  (refine Kr.outS hK (a' := ?_) ?_ ?_; rotate_left; (focus ((try simp only [Kr.PT]); first | done | rfl))); clear hK K
  (refine Kr.seqQ (v := ?_) (a' := ?_) (by rfl) ?_ ?_ ?_; rotate_left 2; (focus (go_simp; first | done | rfl)); (focus ((try simp only [Kr.PT]); first | done | rfl)))
  refine Kr.seqDoneW ?_
  go_upto_region 1 with fail
  refine Kr.startL (fun W' => True) [] (by kernel_rfl) ?_
  have gd : Gr y2 y2.drew := (Gr.refl _).drew
  generalize y2.drew = d3 at gd ⊢
  replace H := H.grow gd
  clear gd
  (refine Kr.tPQ 0 (v := .slice (some ⟨ba, 0, none⟩) 32 32) (a' := ?_) rfl (by kernel_rfl) (fun _ _ _ h => h) (by rfl) (fun _ => trivial) (fun wx => ?_) ?_ ?_; rotate_left 1; (focus (exact Kr.valOf rfl (slH))); (focus ((try simp only [Kr.PT]); first | done | rfl)))
  (refine Kr.tPQ 1 (v := .slice (some ⟨bc, 0, none⟩) 32 32) (a' := ?_) rfl (by kernel_rfl) (fun _ _ _ h => h) (by rfl) (fun _ => trivial) (fun wx => ?_) ?_ ?_; rotate_left 1; (focus (exact Kr.valOf rfl (slH))); (focus ((try simp only [Kr.PT]); first | done | rfl)))
  refine Kr.readyL (rs := [2]) (by kernel_rfl) (by simp) ?_
  refine Kr.AllL.cons rfl (fun K hK => ?_) Kr.AllL.nil
  go_simp
  go_at_call 49
  have hP := bytesCompare_v (n1 := 32) (c1 := 32) (n2 := 32) (c2 := 32) (bytesAt_row (H.at 1 rfl)) hl (bytesAt_row (H.at 0 rfl)) hm
  rw [hz] at hP
  refine (hP).mono ?_
  rintro e w9 ⟨rfl, hw⟩
  rw [hw]
  clear hw w9
  clear hP
  (refine Kr.outL hK (a' := ?_) ?_ (fun _ => trivial) ?_; rotate_left; (focus ((try simp only [Kr.PT]); first | done | rfl))); clear hK K
  (refine Kr.tPQ 3 (v := ?_) (a' := ?_) rfl (by kernel_rfl) (fun _ _ _ h => h) (by rfl) (fun _ => trivial) (fun wx => ?_) ?_ ?_; rotate_left 2; (focus (go_simp; first | done | rfl)); (focus ((try simp only [Kr.PT]); first | done | rfl)))
  refine Kr.doneL (by kernel_rfl) ?_ _
  have hk := trivial
  go_wp2
  refine bodyPost_ret (v := .int .i64 z) (by simp [results, Tryd.results26, go_sem, hk]) rfl ⟨rfl, H.g⟩
end Go.Proofs.YtilbojcghladjaaDoor.Dg
