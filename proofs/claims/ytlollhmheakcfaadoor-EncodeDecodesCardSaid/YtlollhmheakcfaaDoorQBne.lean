/- The reader: item (k1b). -/
import Derived.Test.YtlollhmheakcfaaDoorQBm
import Derived.Deep.Cut
namespace Go.Proofs.YtlollhmheakcfaaDoor.Dg
open Go Go.RowKit Go.Proofs.YtlollhmheakcfaaDoor.Ne Go.Proofs.YtlollhmheakcfaaDoor.Kr

set_option linter.unusedSimpArgs false in
set_option maxRecDepth 100000 in
set_option maxHeartbeats 16000000 in
theorem item_k1b {d : Nat} {w : World} {br b off n c ps : Nat} {l L2 : List (BitVec 8)}  (hr : w.heap[br]? = some (.cells (rdr (.slice (some ⟨b, off, none⟩) n c) (ps : Int) 0).toArray 60 (0, 0))) (hS : SrcB (some ⟨b, off, none⟩) l w) (hO : Off br (some ⟨b, off, none⟩)) (hl : l.length = n) (hn : n ≤ 20000) (hc : n ≤ c) (hp : ps ≤ n) (hL0 : l.drop ps = 1#8 :: L2) (hx : ¬ L2.length < 8) :
    Calls Tryd.prog 40 #[.pointer (some ⟨br, 0, none⟩), .int .i64 (d : Int)] w fun o w' => ItemP w br b off n c ps d l o w' := by
  have hu_ := hS; clear hu_
  have hu_ := hO; clear hu_
  have hu_ := hl; clear hu_
  have hu_ := hn; clear hu_
  have hu_ := hc; clear hu_
  have hu_ := hp; clear hu_
  have HS := Lib.hid hS; have HO := Lib.hid hO; clear hS hO; have hbrw := lt_of_heap hr; have hLl : (l.drop ps).length = n - ps := by rw [List.length_drop, hl]
  obtain ⟨RES, hRS⟩ : ∃ z, rd d (l.drop ps) = z := ⟨_, rfl⟩; have HRES := Lib.hid hRS; clear hRS
  rw [hL0, List.length_cons] at hLl; have h1 : ps + 1 ≤ n := by omega
  have HD1 : Hid (l.drop (ps + 1) = L2) := Lib.hid (by rw [← List.drop_drop, hL0]; rfl)
  have HN1 : Hid ((nb ((l.drop ps).take 1)).toInt = 1) := Lib.hid (by rw [hL0]; exact nb1 1#8)
  have HLC := Lib.hid hL0; clear hL0
  have h9 : ps + 1 + 8 ≤ n := by omega
  obtain ⟨N, hN⟩ : ∃ z, (nb (L2.take 8)).toInt = z := ⟨_, rfl⟩; have HNI : Hid (InR N) := Lib.hid (hN ▸ inr_nb _); have HRE : Hid (RES = .ok (.mk 1 N [] [], 9)) := Lib.hid (by rw [← HRES.out, HLC.out, rd_1, rdN, if_neg hx, hN]); have HNV : Hid ((nb ((l.drop (ps + 1)).take 8)).toInt = N) := Lib.hid (by rw [HD1.out]; exact hN); clear hN
  have H := OwX.start hr
  go_enter Tryd.func40, Tryd.ntmps40
  go_upto_region 0 with fail
  refine Kr.seqStartW ?_
  refine Kr.seqR (by rfl) (fun K hK => ?_)
  refine wp_runV rfl newI ?_
  obtain ⟨y1, hy⟩ : ∃ y, w.alloc (.cells ([.int .i64 0, .int .i64 0, .slice none 0 0, .slice none 0 0]).toArray 25) = y := ⟨_, rfl⟩
  obtain ⟨bz, hb⟩ : ∃ b, w.heap.size = b := ⟨_, rfl⟩
  rw [hy, hb]
  have hg : Gr w y1 := hy ▸ (Gr.refl _).alloc _
  replace H := H.alloc hy hb
  clear hy hb hg
  (refine Kr.outS hK (a' := ?_) ?_ ?_; rotate_left; (focus ((try simp only [Kr.PT]); first | done | rfl))); clear hK K
  refine Kr.seqDoneW ?_
  go_upto_region 1 with fail
  refine Kr.seqStartW ?_
  (refine Kr.seqQ (v := ?_) (a' := ?_) (by rfl) ?_ ?_ ?_; rotate_left 2; (focus (go_simp; first | done | rfl)); (focus ((try simp only [Kr.PT]); first | done | rfl)))
  refine Kr.seqR (by rfl) (fun K hK => ?_)
  go_simp
  go_at_call 48
  refine (number_ok (m := 1) (H.at 1 rfl) (HS.out.growX HO.out H.g) HO.out hl (by omega) hc (h1) (by decide)).mono ?_
  rintro o9 y2 ⟨rfl, hh, hg⟩
  replace H := H.call 1 rfl hg hh; dsimp only [List.set] at H
  clear hh hg
  rw [HN1.out]
  (refine Kr.outS hK (a' := ?_) ?_ ?_; rotate_left; (focus ((try simp only [Kr.PT]); first | done | rfl))); clear hK K
  (refine Kr.seqQ (v := .agg #[.int .i64 1, .int .i64 0, .slice none 0 0, .slice none 0 0]) (a' := ?_) (by rfl) ?_ ?_ ?_; rotate_left 1; (focus (go_simp; first | done | rfl)); (focus ((try simp only [Kr.PT]); first | done | rfl)))
  refine Kr.seqR (by rfl) (fun K hK => ?_)
  refine wp_runV rfl newI ?_
  obtain ⟨y3, hy⟩ : ∃ y, y2.alloc (.cells ([.int .i64 0, .int .i64 0, .slice none 0 0, .slice none 0 0]).toArray 25) = y := ⟨_, rfl⟩
  obtain ⟨bi, hb⟩ : ∃ b, y2.heap.size = b := ⟨_, rfl⟩
  rw [hy, hb]
  have hg : Gr y2 y3 := hy ▸ (Gr.refl _).alloc _
  replace H := H.alloc hy hb
  clear hy hb hg
  (refine Kr.outS hK (a' := ?_) ?_ ?_; rotate_left; (focus ((try simp only [Kr.PT]); first | done | rfl))); clear hK K
  refine Kr.seqR (by rfl) (fun K hK => ?_)
  refine wp_run rfl (stI (H.at 0 rfl) one4) ?_
  obtain ⟨y4, hy⟩ : ∃ y, y3.setRow bi ([.int .i64 1, .int .i64 0, .slice none 0 0, .slice none 0 0]).toArray = y := ⟨_, rfl⟩
  rw [hy]
  replace H := H.put 0 hy rfl
  dsimp only [List.set] at H
  clear hy
  (refine Kr.outS hK (a' := ?_) ?_ ?_; rotate_left; (focus ((try simp only [Kr.PT]); first | done | rfl))); clear hK K
  refine Kr.seqDoneW ?_
  have K1 : decide (1 = (1 : Int)) = true := decide_eq_true (by rfl)
  go_upto_region 3 with fail
  refine Kr.seqStartW ?_
  (refine Kr.seqQ (v := .pointer (some ⟨bi, 0, none⟩)) (a' := ?_) (by rfl) ?_ ?_ ?_; rotate_left 1; (focus (go_simp; first | done | rfl)); (focus ((try simp only [Kr.PT]); first | done | rfl)))
  (refine Kr.seqQ (v := .int .i64 1) (a' := ?_) (by rfl) ?_ ?_ ?_; rotate_left 1; (focus (exact Kr.valOf rfl (ldInt (rowCell (j := 0) (H.at 0 rfl) rfl)))); (focus ((try simp only [Kr.PT]); first | done | rfl)))
  (refine Kr.seqQ (v := .bool true) (a' := ?_) (by rfl) ?_ ?_ ?_; rotate_left 1; (focus (exact Kr.valOf rfl (eqlI K1))); (focus ((try simp only [Kr.PT]); first | done | rfl)))
  (refine Kr.seqQ (v := ?_) (a' := ?_) (by rfl) ?_ ?_ ?_; rotate_left 2; (focus (go_simp; first | done | rfl)); (focus ((try simp only [Kr.PT]); first | done | rfl)))
  refine Kr.seqDoneW ?_
  go_upto_region 4 with fail
  refine Kr.seqStartW ?_
  (refine Kr.seqQ (v := ?_) (a' := ?_) (by rfl) ?_ ?_ ?_; rotate_left 2; (focus (go_simp; first | done | rfl)); (focus ((try simp only [Kr.PT]); first | done | rfl)))
  refine Kr.seqR (by rfl) (fun K hK => ?_)
  go_simp
  go_at_call 48
  refine (number_ok (m := 8) (H.at 2 rfl) (HS.out.growX HO.out H.g) HO.out hl (by omega) hc (h9) (by decide)).mono ?_
  rintro o9 y5 ⟨rfl, hh, hg⟩
  replace H := H.call 2 rfl hg hh; dsimp only [List.set] at H
  clear hh hg
  rw [HNV.out]
  (refine Kr.outS hK (a' := ?_) ?_ ?_; rotate_left; (focus ((try simp only [Kr.PT]); first | done | rfl))); clear hK K
  (refine Kr.seqQ (v := .pointer (some ⟨bi, 1, none⟩)) (a' := ?_) (by rfl) ?_ ?_ ?_; rotate_left 1; (focus (go_simp; first | done | rfl)); (focus ((try simp only [Kr.PT]); first | done | rfl)))
  refine Kr.seqR (by rfl) (fun K hK => ?_)
  refine wp_run rfl (stInt (H.cell 0 rfl (show _ = some _ from rfl)) (H.frozen 0 rfl 1)) ?_
  obtain ⟨y6, hy⟩ : ∃ y, y5.setCell ⟨bi, 1, none⟩ (.int .i64 N) = y := ⟨_, rfl⟩
  rw [hy]
  replace H := H.set 0 (1) hy rfl
  dsimp only [List.set] at H
  clear hy
  (refine Kr.outS hK (a' := ?_) ?_ ?_; rotate_left; (focus ((try simp only [Kr.PT]); first | done | rfl))); clear hK K
  refine Kr.seqDoneW ?_
  go_upto_region 10 with fail
  refine Kr.seqStartW ?_
  (refine Kr.seqQ (v := .agg #[.int .i64 1, .int .i64 N, .slice none 0 0, .slice none 0 0]) (a' := ?_) (by rfl) ?_ ?_ ?_; rotate_left 1; (focus (exact Kr.valOf rfl (ldI (H.at 0 rfl)))); (focus ((try simp only [Kr.PT]); first | done | rfl)))
  refine Kr.seqR (by rfl) (fun K hK => ?_)
  refine wp_run rfl (stI (H.at 1 rfl) one4) ?_
  obtain ⟨y7, hy⟩ : ∃ y, y6.setRow bz ([.int .i64 1, .int .i64 N, .slice none 0 0, .slice none 0 0]).toArray = y := ⟨_, rfl⟩
  rw [hy]
  replace H := H.put 1 hy rfl
  dsimp only [List.set] at H
  clear hy
  (refine Kr.outS hK (a' := ?_) ?_ ?_; rotate_left; (focus ((try simp only [Kr.PT]); first | done | rfl))); clear hK K
  refine Kr.seqDoneW ?_
  go_wp2
  refine bodyPost_ret (v := .agg #[.int .i64 1, .int .i64 N, .slice none 0 0, .slice none 0 0]) (results_cell_row rfl _ _ bz 25 _ _ _ (by rfl) (H.at 1 rfl) Tryd.underlying25 rfl (show _ = some 4 from infoI)) rfl ⟨.int .i64 1, .int .i64 N, .slice none 0 0, .slice none 0 0, ps + 1 + 8, 0, rfl, one4, H.at 2 rfl, H.g, h9, (by rw [HRES.out]; exact (by rw [HRE.out]; exact ⟨rfl, rfl, itv_int HNI.out⟩))⟩
end Go.Proofs.YtlollhmheakcfaaDoor.Dg
