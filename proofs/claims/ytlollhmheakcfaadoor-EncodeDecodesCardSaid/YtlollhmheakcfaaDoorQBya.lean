/- The reference's read (nil). -/
import Derived.Test.YtlollhmheakcfaaDoorQBx
import Derived.Deep.Cut
namespace Go.Proofs.YtlollhmheakcfaaDoor.Dg
open Go Go.RowKit Go.Proofs.YtlollhmheakcfaaDoor.Ne Go.Proofs.YtlollhmheakcfaaDoor.Kr

set_option linter.unusedSimpArgs false in
set_option maxRecDepth 100000 in
set_option maxHeartbeats 16000000 in
theorem read_nil {w : World} {b n c d : Nat} {wv : Int} {p : Option Addr} {l : List (BitVec 8)} (hn : n = 0) (hL0 : l = []) :
    Calls Tryd.prog 42 #[.slice p n c, .int .i64 wv] w fun o w' => ReadP w b d l o w' := by
  have H := Ow.start w
  go_enter Tryd.func42, Tryd.ntmps42
  go_upto_region 0 with fail
  refine Kr.seqStartW ?_
  refine Kr.seqR (by rfl) (fun K hK => ?_)
  refine wp_runV rfl newI ?_
  obtain ⟨y1, hy⟩ : ∃ y, w.alloc (.cells ([.int .i64 0, .int .i64 0, .slice none 0 0, .slice none 0 0]).toArray 25) = y := ⟨_, rfl⟩
  obtain ⟨bz, hb⟩ : ∃ b, w.heap.size = b := ⟨_, rfl⟩
  rw [hy, hb]
  have hg : Gr w y1 := hy ▸ (Gr.refl _).alloc _
  replace H := H.alloc hy hb
  clear hy hb hg
  (refine Kr.outS hK (a' := ?_) ?_ ?_; rotate_left; (focus ((try simp only [Kr.PT]); first | done | rfl))); clear hK K
  (refine Kr.seqQ (v := ?_) (a' := ?_) (by rfl) ?_ ?_ ?_; rotate_left 2; (focus (go_simp; first | done | rfl)); (focus ((try simp only [Kr.PT]); first | done | rfl)))
  (refine Kr.seqQ (v := ?_) (a' := ?_) (by rfl) ?_ ?_ ?_; rotate_left 2; (focus (go_simp; first | done | rfl)); (focus ((try simp only [Kr.PT]); first | done | rfl)))
  refine Kr.seqDoneW ?_
  have E1 : decide ((n : Int) = 0) = true := decide_eq_true (by omega)
  go_upto_region 1 with fail
  refine Kr.seqStartW ?_
  (refine Kr.seqQ (v := ?_) (a' := ?_) (by rfl) ?_ ?_ ?_; rotate_left 2; (focus (go_simp; first | done | rfl)); (focus ((try simp only [Kr.PT]); first | done | rfl)))
  (refine Kr.seqQ (v := .int .i64 (n : Int)) (a' := ?_) (by rfl) ?_ ?_ ?_; rotate_left 1; (focus (exact Kr.valOf rfl ((by go_simp)))); (focus ((try simp only [Kr.PT]); first | done | rfl)))
  (refine Kr.seqQ (v := .bool true) (a' := ?_) (by rfl) ?_ ?_ ?_; rotate_left 1; (focus (exact Kr.valOf rfl (eqlI E1))); (focus ((try simp only [Kr.PT]); first | done | rfl)))
  refine Kr.seqDoneW ?_
  clear E1
  go_upto_region 2 with fail
  refine Kr.seqStartW ?_
  (refine Kr.seqQ (v := .agg #[.int .i64 0, .int .i64 0, .slice none 0 0, .slice none 0 0]) (a' := ?_) (by rfl) ?_ ?_ ?_; rotate_left 1; (focus (go_simp; first | done | rfl)); (focus ((try simp only [Kr.PT]); first | done | rfl)))
  refine Kr.seqR (by rfl) (fun K hK => ?_)
  refine wp_run rfl (stI (H.at 0 rfl) one4) ?_
  obtain ⟨y2, hy⟩ : ∃ y, y1.setRow bz ([.int .i64 0, .int .i64 0, .slice none 0 0, .slice none 0 0]).toArray = y := ⟨_, rfl⟩
  rw [hy]
  replace H := H.put 0 hy rfl
  dsimp only [List.set] at H
  clear hy
  (refine Kr.outS hK (a' := ?_) ?_ ?_; rotate_left; (focus ((try simp only [Kr.PT]); first | done | rfl))); clear hK K
  (refine Kr.seqQ (v := ?_) (a' := ?_) (by rfl) ?_ ?_ ?_; rotate_left 2; (focus (go_simp; first | done | rfl)); (focus ((try simp only [Kr.PT]); first | done | rfl)))
  (refine Kr.seqQ (v := ?_) (a' := ?_) (by rfl) ?_ ?_ ?_; rotate_left 2; (focus (go_simp; first | done | rfl)); (focus ((try simp only [Kr.PT]); first | done | rfl)))
  refine Kr.seqDoneW ?_
  go_wp2
  refine bodyPost_ret (v := .tuple #[.agg #[.int .i64 0, .int .i64 0, .slice none 0 0, .slice none 0 0], .slice (none) 0 0, .int .i64 4]) (results_row_tmp2 rfl _ _ bz 25 _ _ _ (by rfl) (H.at 0 rfl) Tryd.underlying25 rfl (show _ = some 4 from infoI) (by rfl) (by rfl)) rfl ⟨.int .i64 0, .int .i64 0, .slice none 0 0, .slice none 0 0, none, 0, 0, 4, rfl, H.g, one4, .inr ⟨by decide, by rw [hL0]; exact rd_nil d, rfl, rfl, rfl, rfl⟩⟩
end Go.Proofs.YtlollhmheakcfaaDoor.Dg
