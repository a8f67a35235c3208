/- bytes.Clone. -/
import Derived.Test.YtlollhmheakcfaaDoorQBr
import Derived.Deep.Cut
namespace Go.Proofs.YtlollhmheakcfaaDoor.Dg
open Go Go.RowKit Go.Proofs.YtlollhmheakcfaaDoor.Ne Go.Proofs.YtlollhmheakcfaaDoor.Kr

theorem isNil {w : World} {n c : Nat} : (binOp .eql 22 (.slice none n c) (.slice none 0 0)).run Tryd.prog w = .ok (.bool true) w := by
  kernel_rfl

set_option linter.unusedSimpArgs false in
set_option maxRecDepth 100000 in
set_option maxHeartbeats 16000000 in
theorem BClone_nil {n c : Nat} {w : World} :
    Calls Tryd.prog 33 #[.slice none n c] w fun e w' => ∃ q cap, e = .returned (.slice q 0 cap) ∧ RowG 5 w.heap.size (.slice q 0 cap) [] w' ∧ Gr w w' := by
  have H := Ow.start w
  go_enter Tryd.func33, Tryd.ntmps33
  go_upto_region 0 with fail
  refine Kr.seqStartW ?_
  (refine Kr.seqQ (v := ?_) (a' := ?_) (by rfl) ?_ ?_ ?_; rotate_left 2; (focus (go_simp; first | done | rfl)); (focus ((try simp only [Kr.PT]); first | done | rfl)))
  refine Kr.seqDoneW ?_
  go_upto_region 1 with fail
  refine Kr.seqStartW ?_
  (refine Kr.seqQ (v := ?_) (a' := ?_) (by rfl) ?_ ?_ ?_; rotate_left 2; (focus (go_simp; first | done | rfl)); (focus ((try simp only [Kr.PT]); first | done | rfl)))
  (refine Kr.seqQ (v := .bool true) (a' := ?_) (by rfl) ?_ ?_ ?_; rotate_left 1; (focus (exact Kr.valOf rfl (isNil))); (focus ((try simp only [Kr.PT]); first | done | rfl)))
  refine Kr.seqDoneW ?_
  go_upto_region 2 with fail
  refine Kr.seqStartW ?_
  (refine Kr.seqQ (v := ?_) (a' := ?_) (by rfl) ?_ ?_ ?_; rotate_left 2; (focus (go_simp; first | done | rfl)); (focus ((try simp only [Kr.PT]); first | done | rfl)))
  refine Kr.seqDoneW ?_
  have hk := trivial
  go_wp2
  refine bodyPost_ret (v := .slice none 0 0) (by simp [results, Tryd.results33, go_sem, hk]) rfl ⟨none, 0, rfl, RowG.nil _ _ _, H.g⟩
set_option linter.unusedSimpArgs false in
set_option maxRecDepth 100000 in
set_option maxHeartbeats 16000000 in
theorem BClone_some {ad : Addr} {n c : Nat} {l : List (BitVec 8)} {w : World} (hS : SrcB (some ad) l w) (hl : l.length = n) (hn : n ≤ 1000000) :
    Calls Tryd.prog 33 #[.slice (some ad) n c] w fun e w' => ∃ q cap, e = .returned (.slice q n cap) ∧ RowG 5 w.heap.size (.slice q n cap) (l.map w8) w' ∧ Gr w w' := by
  have HS := Lib.hid hS; clear hS
  have H := Ow.start w
  go_enter Tryd.func33, Tryd.ntmps33
  go_upto_region 0 with fail
  refine Kr.seqStartW ?_
  (refine Kr.seqQ (v := ?_) (a' := ?_) (by rfl) ?_ ?_ ?_; rotate_left 2; (focus (go_simp; first | done | rfl)); (focus ((try simp only [Kr.PT]); first | done | rfl)))
  refine Kr.seqDoneW ?_
  go_upto_region 1 with fail
  refine Kr.seqStartW ?_
  (refine Kr.seqQ (v := ?_) (a' := ?_) (by rfl) ?_ ?_ ?_; rotate_left 2; (focus (go_simp; first | done | rfl)); (focus ((try simp only [Kr.PT]); first | done | rfl)))
  (refine Kr.seqQ (v := .bool false) (a' := ?_) (by rfl) ?_ ?_ ?_; rotate_left 1; (focus (exact Kr.valOf rfl (notNil))); (focus ((try simp only [Kr.PT]); first | done | rfl)))
  refine Kr.seqDoneW ?_
  go_upto_region 3 with fail
  refine Kr.seqStartW ?_
  refine Kr.seqR (by rfl) (fun K hK => ?_)
  go_simp
  obtain ⟨y1, hy⟩ : ∃ y, w.alloc (.cells #[] 5) = y := ⟨_, rfl⟩
  obtain ⟨bnew, hbn⟩ : ∃ b, w.heap.size = b := ⟨_, rfl⟩
  have hnew := row_new2 H hy hbn; rw [hy, hbn]
  have hg : Gr w y1 := hy ▸ (Gr.refl _).alloc _
  obtain ⟨hR, HA⟩ := hnew; have HR := Lib.hid hR; clear hR
  replace H := H.grow hg
  clear hg hy hbn
  (refine Kr.outS hK (a' := ?_) ?_ ?_; rotate_left; (focus ((try simp only [Kr.PT]); first | done | rfl))); clear hK K
  (refine Kr.seqQ (v := ?_) (a' := ?_) (by rfl) ?_ ?_ ?_; rotate_left 2; (focus (go_simp; first | done | rfl)); (focus ((try simp only [Kr.PT]); first | done | rfl)))
  refine Kr.seqR (by rfl) (fun K hK => ?_)
  refine wp_appG (T := 5) (TS := 22) Tryd.underlying22 info8 rfl (.tmp 5) (.tmp 6) rfl (v := .slice (some ⟨bnew, 0, none⟩) 0 0) (r := []) (d := (l.map w8)) (p := some ad) (m := n) (c := c) (rs := []) rfl rfl (by rw [List.length_map]; exact hl) ((HS.out.grow H.g).srcG) (one_lit8 l) ((fun e => by cases e)) H HR.out HA (by show 0 + n ≤ _; omega) (by decide) ?_
  intro q3 y2 H3 hR3 hA3
  clear H HR HA ; have H := H3; have HR := Lib.hid hR3; have HA := hA3; clear H3 hR3 hA3
  (refine Kr.outS hK (a' := ?_) ?_ ?_; rotate_left; (focus ((try simp only [Kr.PT]); first | done | rfl))); clear hK K
  (refine Kr.seqQ (v := ?_) (a' := ?_) (by rfl) ?_ ?_ ?_; rotate_left 2; (focus (go_simp; first | done | rfl)); (focus ((try simp only [Kr.PT]); first | done | rfl)))
  refine Kr.seqDoneW ?_
  rw [List.nil_append] at HR; obtain ⟨p5, c5, hv5, _⟩ := HR.out.src; rw [List.length_map, hl] at hv5; subst hv5; have HR5 := Lib.hid HR.out; clear HR HA
  have hk := trivial
  go_wp2
  refine bodyPost_ret (v := .slice p5 n c5) (by simp [results, Tryd.results33, go_sem, hk]) rfl ⟨p5, c5, rfl, HR5.out, H.g⟩
theorem BClone_v {p : Option Addr} {n c : Nat} {l : List (BitVec 8)} {w : World} (hS : SrcB p l w) (hl : l.length = n) (hn : n ≤ 1000000) (hp : p = none → n = 0) :
    Calls Tryd.prog 33 #[.slice p n c] w fun e w' => ∃ q cap, e = .returned (.slice q n cap) ∧ RowG 5 w.heap.size (.slice q n cap) (l.map w8) w' ∧ Gr w w' := by
  cases p with
  | none =>
    obtain rfl := hp rfl
    obtain rfl : l = [] := List.eq_nil_of_length_eq_zero hl
    exact BClone_nil
  | some ad => exact BClone_some hS hl hn

end Go.Proofs.YtlollhmheakcfaaDoor.Dg
