/- The reader: item (k2c). -/
import Derived.Test.YtlollhmheakcfaaDoorQBm
import Derived.Deep.Cut
namespace Go.Proofs.YtlollhmheakcfaaDoor.Dg
open Go Go.RowKit Go.Proofs.YtlollhmheakcfaaDoor.Ne Go.Proofs.YtlollhmheakcfaaDoor.Kr

set_option linter.unusedSimpArgs false in
set_option maxRecDepth 100000 in
set_option maxHeartbeats 16000000 in
theorem item_k2c {d : Nat} {w : World} {br b off n c ps : Nat} {l L2 : List (BitVec 8)}  (hr : w.heap[br]? = some (.cells (rdr (.slice (some ⟨b, off, none⟩) n c) (ps : Int) 0).toArray 60 (0, 0))) (hS : SrcB (some ⟨b, off, none⟩) l w) (hO : Off br (some ⟨b, off, none⟩)) (hl : l.length = n) (hn : n ≤ 20000) (hc : n ≤ c) (hp : ps ≤ n) (hL0 : l.drop ps = 2#8 :: L2) (hx : ¬ L2.length < 4) (hy : ¬ (L2.drop 4).length < (nb (L2.take 4)).toNat) :
    Calls Tryd.prog 40 #[.pointer (some ⟨br, 0, none⟩), .int .i64 (d : Int)] w fun o w' => ItemP w br b off n c ps d l o w' := by
  have hu_ := hS; clear hu_
  have hu_ := hO; clear hu_
  have hu_ := hl; clear hu_
  have hu_ := hn; clear hu_
  have hu_ := hc; clear hu_
  have hu_ := hp; clear hu_
  have HS := Lib.hid hS; have HO := Lib.hid hO; clear hS hO; have hbrw := lt_of_heap hr; have hLl : (l.drop ps).length = n - ps := by rw [List.length_drop, hl]
  obtain ⟨RES, hRS⟩ : ∃ z, rd d (l.drop ps) = z := ⟨_, rfl⟩; have HRES := Lib.hid hRS; clear hRS
  rw [hL0, List.length_cons] at hLl; have h1 : ps + 1 ≤ n := by omega
  have HD1 : Hid (l.drop (ps + 1) = L2) := Lib.hid (by rw [← List.drop_drop, hL0]; rfl)
  have HN1 : Hid ((nb ((l.drop ps).take 1)).toInt = 2) := Lib.hid (by rw [hL0]; exact nb1 2#8)
  have HLC := Lib.hid hL0; clear hL0
  have h5 : ps + 1 + 4 ≤ n := by omega
  obtain ⟨q, hq⟩ : ∃ z, L2.take 4 = z := ⟨_, rfl⟩; have hqn := nb4 (show q.length = 4 by rw [← hq, List.length_take]; omega); obtain ⟨nn, hnn⟩ : ∃ z, (nb q).toNat = z := ⟨_, rfl⟩; rw [hnn] at hqn; have HQV : Hid ((nb ((l.drop (ps + 1)).take 4)).toInt = (nn : Int)) := Lib.hid (by rw [HD1.out, hq]; exact hqn.1); have hnnb := hqn.2; clear hqn
  rw [hq, hnn] at hy; have hL4 : (L2.drop 4).length = n - (ps + 5) := by rw [List.length_drop]; omega
  have hbn : ps + 1 + 4 + nn ≤ n := by omega
  obtain ⟨D, hD⟩ : ∃ z, (L2.drop 4).take nn = z := ⟨_, rfl⟩; have hDl : D.length = nn := by rw [← hD, List.length_take]; omega
  have HRE : Hid (RES = .ok (.mk 2 0 D [], 5 + nn)) := Lib.hid (by rw [← HRES.out, HLC.out, rd_2, rdS, if_neg hx, hq, hnn, if_neg hy, hD]); have HDD : Hid ((l.drop (ps + 1 + 4)).take nn = D) := Lib.hid (by rw [← List.drop_drop, HD1.out]; exact hD); clear hD
  clear hq hnn hy hL4
  have H := OwX.start hr
  go_enter Tryd.func40, Tryd.ntmps40
  go_upto_region 0 with fail
  refine Kr.seqStartW ?_
  refine Kr.seqR (by rfl) (fun K hK => ?_)
  refine wp_runV rfl newI ?_
  obtain ⟨y1, hy⟩ : ∃ y, w.alloc (.cells ([.int .i64 0, .int .i64 0, .slice none 0 0, .slice none 0 0]).toArray 25) = y := ⟨_, rfl⟩
  obtain ⟨bz, hb⟩ : ∃ b, w.heap.size = b := ⟨_, rfl⟩
  rw [hy, hb]
  have hg : Gr w y1 := hy ▸ (Gr.refl _).alloc _
  replace H := H.alloc hy hb
  clear hy hb hg
  (refine Kr.outS hK (a' := ?_) ?_ ?_; rotate_left; (focus ((try simp only [Kr.PT]); first | done | rfl))); clear hK K
  refine Kr.seqDoneW ?_
  go_upto_region 1 with fail
  refine Kr.seqStartW ?_
  (refine Kr.seqQ (v := ?_) (a' := ?_) (by rfl) ?_ ?_ ?_; rotate_left 2; (focus (go_simp; first | done | rfl)); (focus ((try simp only [Kr.PT]); first | done | rfl)))
  refine Kr.seqR (by rfl) (fun K hK => ?_)
  go_simp
  go_at_call 48
  refine (number_ok (m := 1) (H.at 1 rfl) (HS.out.growX HO.out H.g) HO.out hl (by omega) hc (h1) (by decide)).mono ?_
  rintro o9 y2 ⟨rfl, hh, hg⟩
  replace H := H.call 1 rfl hg hh; dsimp only [List.set] at H
  clear hh hg
  rw [HN1.out]
  (refine Kr.outS hK (a' := ?_) ?_ ?_; rotate_left; (focus ((try simp only [Kr.PT]); first | done | rfl))); clear hK K
  (refine Kr.seqQ (v := .agg #[.int .i64 2, .int .i64 0, .slice none 0 0, .slice none 0 0]) (a' := ?_) (by rfl) ?_ ?_ ?_; rotate_left 1; (focus (go_simp; first | done | rfl)); (focus ((try simp only [Kr.PT]); first | done | rfl)))
  refine Kr.seqR (by rfl) (fun K hK => ?_)
  refine wp_runV rfl newI ?_
  obtain ⟨y3, hy⟩ : ∃ y, y2.alloc (.cells ([.int .i64 0, .int .i64 0, .slice none 0 0, .slice none 0 0]).toArray 25) = y := ⟨_, rfl⟩
  obtain ⟨bi, hb⟩ : ∃ b, y2.heap.size = b := ⟨_, rfl⟩
  rw [hy, hb]
  have hg : Gr y2 y3 := hy ▸ (Gr.refl _).alloc _
  replace H := H.alloc hy hb
  clear hy hb hg
  (refine Kr.outS hK (a' := ?_) ?_ ?_; rotate_left; (focus ((try simp only [Kr.PT]); first | done | rfl))); clear hK K
  refine Kr.seqR (by rfl) (fun K hK => ?_)
  refine wp_run rfl (stI (H.at 0 rfl) one4) ?_
  obtain ⟨y4, hy⟩ : ∃ y, y3.setRow bi ([.int .i64 2, .int .i64 0, .slice none 0 0, .slice none 0 0]).toArray = y := ⟨_, rfl⟩
  rw [hy]
  replace H := H.put 0 hy rfl
  dsimp only [List.set] at H
  clear hy
  (refine Kr.outS hK (a' := ?_) ?_ ?_; rotate_left; (focus ((try simp only [Kr.PT]); first | done | rfl))); clear hK K
  refine Kr.seqDoneW ?_
  have K1 : decide (2 = (1 : Int)) = false := decide_eq_false (by decide)
  go_upto_region 3 with fail
  refine Kr.seqStartW ?_
  (refine Kr.seqQ (v := .pointer (some ⟨bi, 0, none⟩)) (a' := ?_) (by rfl) ?_ ?_ ?_; rotate_left 1; (focus (go_simp; first | done | rfl)); (focus ((try simp only [Kr.PT]); first | done | rfl)))
  (refine Kr.seqQ (v := .int .i64 2) (a' := ?_) (by rfl) ?_ ?_ ?_; rotate_left 1; (focus (exact Kr.valOf rfl (ldInt (rowCell (j := 0) (H.at 0 rfl) rfl)))); (focus ((try simp only [Kr.PT]); first | done | rfl)))
  (refine Kr.seqQ (v := .bool false) (a' := ?_) (by rfl) ?_ ?_ ?_; rotate_left 1; (focus (exact Kr.valOf rfl (eqlI K1))); (focus ((try simp only [Kr.PT]); first | done | rfl)))
  (refine Kr.seqQ (v := ?_) (a' := ?_) (by rfl) ?_ ?_ ?_; rotate_left 2; (focus (go_simp; first | done | rfl)); (focus ((try simp only [Kr.PT]); first | done | rfl)))
  refine Kr.seqDoneW ?_
  have K2 : decide (2 = (2 : Int)) = true := decide_eq_true (by rfl)
  go_upto_region 5 with fail
  refine Kr.seqStartW ?_
  (refine Kr.seqQ (v := .pointer (some ⟨bi, 0, none⟩)) (a' := ?_) (by rfl) ?_ ?_ ?_; rotate_left 1; (focus (go_simp; first | done | rfl)); (focus ((try simp only [Kr.PT]); first | done | rfl)))
  (refine Kr.seqQ (v := .int .i64 2) (a' := ?_) (by rfl) ?_ ?_ ?_; rotate_left 1; (focus (exact Kr.valOf rfl (ldInt (rowCell (j := 0) (H.at 0 rfl) rfl)))); (focus ((try simp only [Kr.PT]); first | done | rfl)))
  (refine Kr.seqQ (v := .bool true) (a' := ?_) (by rfl) ?_ ?_ ?_; rotate_left 1; (focus (exact Kr.valOf rfl (eqlI K2))); (focus ((try simp only [Kr.PT]); first | done | rfl)))
  (refine Kr.seqQ (v := ?_) (a' := ?_) (by rfl) ?_ ?_ ?_; rotate_left 2; (focus (go_simp; first | done | rfl)); (focus ((try simp only [Kr.PT]); first | done | rfl)))
  refine Kr.seqDoneW ?_
  go_upto_region 6 with fail
  refine Kr.seqStartW ?_
  (refine Kr.seqQ (v := ?_) (a' := ?_) (by rfl) ?_ ?_ ?_; rotate_left 2; (focus (go_simp; first | done | rfl)); (focus ((try simp only [Kr.PT]); first | done | rfl)))
  (refine Kr.seqQ (v := ?_) (a' := ?_) (by rfl) ?_ ?_ ?_; rotate_left 2; (focus (go_simp; first | done | rfl)); (focus ((try simp only [Kr.PT]); first | done | rfl)))
  refine Kr.seqR (by rfl) (fun K hK => ?_)
  go_simp
  go_at_call 48
  refine (number_ok (m := 4) (H.at 2 rfl) (HS.out.growX HO.out H.g) HO.out hl (by omega) hc (h5) (by decide)).mono ?_
  rintro o9 y5 ⟨rfl, hh, hg⟩
  replace H := H.call 2 rfl hg hh; dsimp only [List.set] at H
  clear hh hg
  rw [HQV.out]
  (refine Kr.outS hK (a' := ?_) ?_ ?_; rotate_left; (focus ((try simp only [Kr.PT]); first | done | rfl))); clear hK K
  refine Kr.seqR (by rfl) (fun K hK => ?_)
  go_simp
  go_at_call 49
  refine (take_ok (k := nn) (H.at 2 rfl) (by omega) hc hbn).mono ?_
  rintro o9 y6 ⟨rfl, hh, hg⟩
  replace H := H.call 2 rfl hg hh; dsimp only [List.set] at H
  clear hh hg
  (refine Kr.outS hK (a' := ?_) ?_ ?_; rotate_left; (focus ((try simp only [Kr.PT]); first | done | rfl))); clear hK K
  (refine Kr.seqQ (v := ?_) (a' := ?_) (by rfl) ?_ ?_ ?_; rotate_left 2; (focus (go_simp; first | done | rfl)); (focus ((try simp only [Kr.PT]); first | done | rfl)))
  refine Kr.seqDoneW ?_
  go_upto_region 7 with fail
  refine Kr.seqStartW ?_
  (refine Kr.seqQ (v := .pointer (some ⟨bi, 2, none⟩)) (a' := ?_) (by rfl) ?_ ?_ ?_; rotate_left 1; (focus (go_simp; first | done | rfl)); (focus ((try simp only [Kr.PT]); first | done | rfl)))
  (refine Kr.seqQ (v := .slice none 0 0) (a' := ?_) (by rfl) ?_ ?_ ?_; rotate_left 1; (focus (exact Kr.valOf rfl (ldSl (rowCell (j := 2) (H.at 0 rfl) rfl)))); (focus ((try simp only [Kr.PT]); first | done | rfl)))
  (refine Kr.seqQ (v := ?_) (a' := ?_) (by rfl) ?_ ?_ ?_; rotate_left 2; (focus (go_simp; first | done | rfl)); (focus ((try simp only [Kr.PT]); first | done | rfl)))
  refine Kr.seqR (by rfl) (fun K hK => ?_)
  have hbi : bi < y6.heap.size := lt_of_heap (H.at 0 rfl)
  have hbz : bz < y6.heap.size := lt_of_heap (H.at 1 rfl)
  have hsw := H.g.size
  refine wp_appG (T := 5) (TS := 22) Tryd.underlying22 info8 rfl (.tmp 28) (.tmp 29) rfl (v := .slice none 0 0) (r := []) (d := (D).map w8) (p := some (cutA b off c (ps + 1 + 4))) (m := nn) (c := c - (ps + 1 + 4)) (rs := []) rfl rfl (by rw [List.length_map]; exact hDl) ((HDD.out ▸ srcB_cut (HS.out.growX HO.out H.g) hl hc hbn : SrcB _ D _).srcG) (one_lit8 D) (fun e => by cases e) (Ow.start y6) (RowG.nil 5 _ _) (Apt.none _) (by show 0 + _ ≤ _; omega) (by decide) ?_
  intro v9 y7 H3 hR3 _; rw [List.nil_append] at hR3; obtain ⟨p9, c9, hv9, hc9, hp9, _⟩ := hR3.src; rw [List.length_map, show (D).length = nn from hDl] at hv9 hc9; subst hv9
  have hit : ItV y7 (d + 1) (fun b => y6.heap.size ≤ b ∧ b < y7.heap.size) (.agg #[.int .i64 2, .int .i64 0, .slice p9 nn c9, .slice none 0 0]) (.mk 2 0 D []) := itv_str hDl hp9 hc9 (by omega) (row_bytes hR3 hDl)
  have hg3 := H3.g; obtain ⟨FF, hFF⟩ : ∃ z : Nat → Prop, (fun b => y6.heap.size ≤ b ∧ b < y7.heap.size) = z := ⟨_, rfl⟩; rw [hFF] at hit
  have hFi : ¬ FF bi := by rw [← hFF]; exact fun h => by have := h.1; omega
  have hFz : ¬ FF bz := by rw [← hFF]; exact fun h => by have := h.1; omega
  have HFF : Hid (∀ b, FF b → w.heap.size ≤ b ∧ b < y7.heap.size) := Lib.hid (fun b hb => by rw [← hFF] at hb; exact ⟨Nat.le_trans hsw hb.1, hb.2⟩)
  have HIT := Lib.hid hit; have HSZ : Hid (y7.heap.size ≤ y7.heap.size) := Lib.hid (Nat.le_refl _); clear hit hFF hR3 hc9 hp9 H3 hsw hbi hbz
  replace H := H.grow hg3; clear hg3
  (refine Kr.outS hK (a' := ?_) ?_ ?_; rotate_left; (focus ((try simp only [Kr.PT]); first | done | rfl))); clear hK K
  (refine Kr.seqQ (v := .pointer (some ⟨bi, 2, none⟩)) (a' := ?_) (by rfl) ?_ ?_ ?_; rotate_left 1; (focus (go_simp; first | done | rfl)); (focus ((try simp only [Kr.PT]); first | done | rfl)))
  refine Kr.seqR (by rfl) (fun K hK => ?_)
  refine wp_run rfl (stSl (H.cell 0 rfl (show _ = some _ from rfl)) (H.frozen 0 rfl 2)) ?_
  have hkp := HIT.out.kept (same_set (W := y7) (b := bi) (j := 2) (u := .slice p9 nn c9) hFi); have hsz := Nat.le_trans HSZ.out (Nat.le_of_eq (size_set (W := y7) (a := ⟨bi, 2, none⟩) (u := .slice p9 nn c9)).symm)
  obtain ⟨y8, hy⟩ : ∃ y, y7.setCell ⟨bi, 2, none⟩ (.slice p9 nn c9) = y := ⟨_, rfl⟩; rw [hy]; rw [hy] at hkp hsz; replace HIT := Lib.hid hkp; replace HSZ := Lib.hid hsz; clear hkp hsz
  replace H := H.set 0 (2) hy rfl; dsimp only [List.set] at H; clear hy
  (refine Kr.outS hK (a' := ?_) ?_ ?_; rotate_left; (focus ((try simp only [Kr.PT]); first | done | rfl))); clear hK K
  refine Kr.seqDoneW ?_
  go_upto_region 10 with fail
  refine Kr.seqStartW ?_
  (refine Kr.seqQ (v := .agg #[.int .i64 2, .int .i64 0, .slice p9 nn c9, .slice none 0 0]) (a' := ?_) (by rfl) ?_ ?_ ?_; rotate_left 1; (focus (exact Kr.valOf rfl (ldI (H.at 0 rfl)))); (focus ((try simp only [Kr.PT]); first | done | rfl)))
  refine Kr.seqR (by rfl) (fun K hK => ?_)
  refine wp_run rfl (stI (H.at 1 rfl) one4) ?_
  have hkp := HIT.out.kept (same_put (W := y8) (b := bz) (cs := ([.int .i64 2, .int .i64 0, .slice p9 nn c9, .slice none 0 0] : List Value).toArray) hFz); have hsz := Nat.le_trans HSZ.out (Nat.le_of_eq (size_put (W := y8) (b := bz) (cs := ([.int .i64 2, .int .i64 0, .slice p9 nn c9, .slice none 0 0] : List Value).toArray)).symm)
  obtain ⟨y9, hy⟩ : ∃ y, y8.setRow bz ([.int .i64 2, .int .i64 0, .slice p9 nn c9, .slice none 0 0] : List Value).toArray = y := ⟨_, rfl⟩; rw [hy]; rw [hy] at hkp hsz; replace HIT := Lib.hid hkp; replace HSZ := Lib.hid hsz; clear hkp hsz
  replace H := H.put 1 hy rfl; dsimp only [List.set] at H; clear hy
  (refine Kr.outS hK (a' := ?_) ?_ ?_; rotate_left; (focus ((try simp only [Kr.PT]); first | done | rfl))); clear hK K
  refine Kr.seqDoneW ?_
  go_wp2
  refine bodyPost_ret (v := .agg #[.int .i64 2, .int .i64 0, .slice p9 nn c9, .slice none 0 0]) (results_cell_row rfl _ _ bz 25 _ _ _ (by rfl) (H.at 1 rfl) Tryd.underlying25 rfl (show _ = some 4 from infoI)) rfl ⟨.int .i64 2, .int .i64 0, .slice p9 nn c9, .slice none 0 0, ps + 1 + 4 + nn, 0, rfl, one4, H.at 2 rfl, H.g, hbn, (by rw [HRES.out]; exact (by rw [HRE.out]; exact ⟨rfl, by omega, HIT.out.mono (fun b hb => ⟨(HFF.out b hb).1, Nat.lt_of_lt_of_le (HFF.out b hb).2 HSZ.out⟩)⟩))⟩
end Go.Proofs.YtlollhmheakcfaaDoor.Dg
