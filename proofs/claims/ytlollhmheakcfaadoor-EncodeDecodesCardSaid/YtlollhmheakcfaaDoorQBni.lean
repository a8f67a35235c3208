/- The reader: item (k3). -/
import Derived.Test.YtlollhmheakcfaaDoorQBm
import Derived.Deep.Cut
namespace Go.Proofs.YtlollhmheakcfaaDoor.Dg
open Go Go.RowKit Go.Proofs.YtlollhmheakcfaaDoor.Ne Go.Proofs.YtlollhmheakcfaaDoor.Kr

set_option linter.unusedSimpArgs false in
set_option maxRecDepth 100000 in
set_option maxHeartbeats 16000000 in
theorem item_k3 {d : Nat} {w : World} {br b off n c ps : Nat} {l L2 : List (BitVec 8)}  (hr : w.heap[br]? = some (.cells (rdr (.slice (some ⟨b, off, none⟩) n c) (ps : Int) 0).toArray 60 (0, 0))) (hS : SrcB (some ⟨b, off, none⟩) l w) (hO : Off br (some ⟨b, off, none⟩)) (hl : l.length = n) (hn : n ≤ 20000) (hc : n ≤ c) (hp : ps ≤ n) (hL0 : l.drop ps = 3#8 :: L2) (hd : d ≤ 1000) (ih : ∀ {w : World} {br b off n c ps : Nat} {l : List (BitVec 8)} (_ : w.heap[br]? = some (.cells (rdr (.slice (some ⟨b, off, none⟩) n c) (ps : Int) 0).toArray 60 (0, 0))) (_ : SrcB (some ⟨b, off, none⟩) l w) (_ : Off br (some ⟨b, off, none⟩)) (_ : l.length = n) (_ : n ≤ 20000) (_ : n ≤ c) (_ : ps ≤ n), Calls Tryd.prog 50 #[.pointer (some ⟨br, 0, none⟩), .int .i64 (d : Int)] w fun o w' => ItemsP w br b off n c ps d l o w') :
    Calls Tryd.prog 40 #[.pointer (some ⟨br, 0, none⟩), .int .i64 ((d + 1 : Nat) : Int)] w fun o w' => ItemP w br b off n c ps (d + 1) l o w' := by
  have hu_ := hS; clear hu_
  have hu_ := hO; clear hu_
  have hu_ := hl; clear hu_
  have hu_ := hn; clear hu_
  have hu_ := hc; clear hu_
  have hu_ := hp; clear hu_
  have HS := Lib.hid hS; have HO := Lib.hid hO; clear hS hO; have hbrw := lt_of_heap hr; have hLl : (l.drop ps).length = n - ps := by rw [List.length_drop, hl]
  obtain ⟨RES, hRS⟩ : ∃ z, rd (d + 1) (l.drop ps) = z := ⟨_, rfl⟩; have HRES := Lib.hid hRS; clear hRS
  rw [hL0, List.length_cons] at hLl; have h1 : ps + 1 ≤ n := by omega
  have HD1 : Hid (l.drop (ps + 1) = L2) := Lib.hid (by rw [← List.drop_drop, hL0]; rfl)
  have HN1 : Hid ((nb ((l.drop ps).take 1)).toInt = 3) := Lib.hid (by rw [hL0]; exact nb1 3#8)
  have HLC := Lib.hid hL0; clear hL0
  have HRE : Hid (RES = sh1 (rdB (rd d) L2)) := Lib.hid (by rw [← HRES.out, HLC.out]; exact rd_3 L2 d)
  have hsub : IntKind.i64.wrap (((d + 1 : Nat) : Int) - 1) = (d : Int) := wrap_nat (by omega) (by omega)
  have H := OwX.start hr
  go_enter Tryd.func40, Tryd.ntmps40
  go_upto_region 0 with fail
  refine Kr.seqStartW ?_
  refine Kr.seqR (by rfl) (fun K hK => ?_)
  refine wp_runV rfl newI ?_
  obtain ⟨y1, hy⟩ : ∃ y, w.alloc (.cells ([.int .i64 0, .int .i64 0, .slice none 0 0, .slice none 0 0]).toArray 25) = y := ⟨_, rfl⟩
  obtain ⟨bz, hb⟩ : ∃ b, w.heap.size = b := ⟨_, rfl⟩
  rw [hy, hb]
  have hg : Gr w y1 := hy ▸ (Gr.refl _).alloc _
  replace H := H.alloc hy hb
  clear hy hb hg
  (refine Kr.outS hK (a' := ?_) ?_ ?_; rotate_left; (focus ((try simp only [Kr.PT]); first | done | rfl))); clear hK K
  refine Kr.seqDoneW ?_
  go_upto_region 1 with fail
  refine Kr.seqStartW ?_
  (refine Kr.seqQ (v := ?_) (a' := ?_) (by rfl) ?_ ?_ ?_; rotate_left 2; (focus (go_simp; first | done | rfl)); (focus ((try simp only [Kr.PT]); first | done | rfl)))
  refine Kr.seqR (by rfl) (fun K hK => ?_)
  go_simp
  go_at_call 48
  refine (number_ok (m := 1) (H.at 1 rfl) (HS.out.growX HO.out H.g) HO.out hl (by omega) hc (h1) (by decide)).mono ?_
  rintro o9 y2 ⟨rfl, hh, hg⟩
  replace H := H.call 1 rfl hg hh; dsimp only [List.set] at H
  clear hh hg
  rw [HN1.out]
  (refine Kr.outS hK (a' := ?_) ?_ ?_; rotate_left; (focus ((try simp only [Kr.PT]); first | done | rfl))); clear hK K
  (refine Kr.seqQ (v := .agg #[.int .i64 3, .int .i64 0, .slice none 0 0, .slice none 0 0]) (a' := ?_) (by rfl) ?_ ?_ ?_; rotate_left 1; (focus (go_simp; first | done | rfl)); (focus ((try simp only [Kr.PT]); first | done | rfl)))
  refine Kr.seqR (by rfl) (fun K hK => ?_)
  refine wp_runV rfl newI ?_
  obtain ⟨y3, hy⟩ : ∃ y, y2.alloc (.cells ([.int .i64 0, .int .i64 0, .slice none 0 0, .slice none 0 0]).toArray 25) = y := ⟨_, rfl⟩
  obtain ⟨bi, hb⟩ : ∃ b, y2.heap.size = b := ⟨_, rfl⟩
  rw [hy, hb]
  have hg : Gr y2 y3 := hy ▸ (Gr.refl _).alloc _
  replace H := H.alloc hy hb
  clear hy hb hg
  (refine Kr.outS hK (a' := ?_) ?_ ?_; rotate_left; (focus ((try simp only [Kr.PT]); first | done | rfl))); clear hK K
  refine Kr.seqR (by rfl) (fun K hK => ?_)
  refine wp_run rfl (stI (H.at 0 rfl) one4) ?_
  obtain ⟨y4, hy⟩ : ∃ y, y3.setRow bi ([.int .i64 3, .int .i64 0, .slice none 0 0, .slice none 0 0]).toArray = y := ⟨_, rfl⟩
  rw [hy]
  replace H := H.put 0 hy rfl
  dsimp only [List.set] at H
  clear hy
  (refine Kr.outS hK (a' := ?_) ?_ ?_; rotate_left; (focus ((try simp only [Kr.PT]); first | done | rfl))); clear hK K
  refine Kr.seqDoneW ?_
  have K1 : decide (3 = (1 : Int)) = false := decide_eq_false (by decide)
  go_upto_region 3 with fail
  refine Kr.seqStartW ?_
  (refine Kr.seqQ (v := .pointer (some ⟨bi, 0, none⟩)) (a' := ?_) (by rfl) ?_ ?_ ?_; rotate_left 1; (focus (go_simp; first | done | rfl)); (focus ((try simp only [Kr.PT]); first | done | rfl)))
  (refine Kr.seqQ (v := .int .i64 3) (a' := ?_) (by rfl) ?_ ?_ ?_; rotate_left 1; (focus (exact Kr.valOf rfl (ldInt (rowCell (j := 0) (H.at 0 rfl) rfl)))); (focus ((try simp only [Kr.PT]); first | done | rfl)))
  (refine Kr.seqQ (v := .bool false) (a' := ?_) (by rfl) ?_ ?_ ?_; rotate_left 1; (focus (exact Kr.valOf rfl (eqlI K1))); (focus ((try simp only [Kr.PT]); first | done | rfl)))
  (refine Kr.seqQ (v := ?_) (a' := ?_) (by rfl) ?_ ?_ ?_; rotate_left 2; (focus (go_simp; first | done | rfl)); (focus ((try simp only [Kr.PT]); first | done | rfl)))
  refine Kr.seqDoneW ?_
  have K2 : decide (3 = (2 : Int)) = false := decide_eq_false (by decide)
  go_upto_region 5 with fail
  refine Kr.seqStartW ?_
  (refine Kr.seqQ (v := .pointer (some ⟨bi, 0, none⟩)) (a' := ?_) (by rfl) ?_ ?_ ?_; rotate_left 1; (focus (go_simp; first | done | rfl)); (focus ((try simp only [Kr.PT]); first | done | rfl)))
  (refine Kr.seqQ (v := .int .i64 3) (a' := ?_) (by rfl) ?_ ?_ ?_; rotate_left 1; (focus (exact Kr.valOf rfl (ldInt (rowCell (j := 0) (H.at 0 rfl) rfl)))); (focus ((try simp only [Kr.PT]); first | done | rfl)))
  (refine Kr.seqQ (v := .bool false) (a' := ?_) (by rfl) ?_ ?_ ?_; rotate_left 1; (focus (exact Kr.valOf rfl (eqlI K2))); (focus ((try simp only [Kr.PT]); first | done | rfl)))
  (refine Kr.seqQ (v := ?_) (a' := ?_) (by rfl) ?_ ?_ ?_; rotate_left 2; (focus (go_simp; first | done | rfl)); (focus ((try simp only [Kr.PT]); first | done | rfl)))
  refine Kr.seqDoneW ?_
  have K3 : decide (3 = (3 : Int)) = true := decide_eq_true (by rfl)
  have KD : decide ((0 : Int) < ((d + 1 : Nat) : Int)) = true := decide_eq_true (by omega)
  go_upto_region 8 with fail
  refine Kr.seqStartW ?_
  (refine Kr.seqQ (v := .pointer (some ⟨bi, 0, none⟩)) (a' := ?_) (by rfl) ?_ ?_ ?_; rotate_left 1; (focus (go_simp; first | done | rfl)); (focus ((try simp only [Kr.PT]); first | done | rfl)))
  (refine Kr.seqQ (v := .int .i64 3) (a' := ?_) (by rfl) ?_ ?_ ?_; rotate_left 1; (focus (exact Kr.valOf rfl (ldInt (rowCell (j := 0) (H.at 0 rfl) rfl)))); (focus ((try simp only [Kr.PT]); first | done | rfl)))
  (refine Kr.seqQ (v := .bool true) (a' := ?_) (by rfl) ?_ ?_ ?_; rotate_left 1; (focus (exact Kr.valOf rfl (eqlI K3))); (focus ((try simp only [Kr.PT]); first | done | rfl)))
  (refine Kr.seqQ (v := ?_) (a' := ?_) (by rfl) ?_ ?_ ?_; rotate_left 2; (focus (go_simp; first | done | rfl)); (focus ((try simp only [Kr.PT]); first | done | rfl)))
  (refine Kr.seqQ (v := ?_) (a' := ?_) (by rfl) ?_ ?_ ?_; rotate_left 2; (focus (go_simp; first | done | rfl)); (focus ((try simp only [Kr.PT]); first | done | rfl)))
  (refine Kr.seqQ (v := .bool true) (a' := ?_) (by rfl) ?_ ?_ ?_; rotate_left 1; (focus (exact Kr.valOf rfl (gtrI KD))); (focus ((try simp only [Kr.PT]); first | done | rfl)))
  (refine Kr.seqQ (v := ?_) (a' := ?_) (by rfl) ?_ ?_ ?_; rotate_left 2; (focus (go_simp; first | done | rfl)); (focus ((try simp only [Kr.PT]); first | done | rfl)))
  (refine Kr.seqQ (v := ?_) (a' := ?_) (by rfl) ?_ ?_ ?_; rotate_left 2; (focus (go_simp; first | done | rfl)); (focus ((try simp only [Kr.PT]); first | done | rfl)))
  refine Kr.seqDoneW ?_
  go_upto_region 9 with fail
  refine Kr.seqStartW ?_
  (refine Kr.seqQ (v := ?_) (a' := ?_) (by rfl) ?_ ?_ ?_; rotate_left 2; (focus (go_simp; first | done | rfl)); (focus ((try simp only [Kr.PT]); first | done | rfl)))
  (refine Kr.seqQ (v := ?_) (a' := ?_) (by rfl) ?_ ?_ ?_; rotate_left 2; (focus (go_simp; first | done | rfl)); (focus ((try simp only [Kr.PT]); first | done | rfl)))
  (refine Kr.seqQ (v := .int .i64 (d : Int)) (a' := ?_) (by rfl) ?_ ?_ ?_; rotate_left 1; (focus (exact Kr.valOf rfl (subI hsub))); (focus ((try simp only [Kr.PT]); first | done | rfl)))
  refine Kr.seqR (by rfl) (fun K hK => ?_)
  go_simp
  go_at_call 50
  have hbi : bi < y4.heap.size := lt_of_heap (H.at 0 rfl)
  have hbz : bz < y4.heap.size := lt_of_heap (H.at 1 rfl)
  have hsw := H.g.size
  refine (ih (H.at 2 rfl) (HS.out.growX HO.out H.g) HO.out hl hn hc h1).mono ?_
  rintro o9 y5 ⟨pl, nl, cl, ps2, e2, rfl, hpl, hh, hg, hp2, hout⟩
  replace H := H.call 2 rfl hg hh; dsimp only [List.set] at H
  clear hh hg
  rw [HD1.out] at hout; obtain ⟨FF, hFF⟩ : ∃ z : Nat → Prop, (fun b => y4.heap.size ≤ b ∧ b < y5.heap.size) = z := ⟨_, rfl⟩; rw [hFF] at hout
  have hFi : ¬ FF bi := by rw [← hFF]; exact fun h => by have := h.1; omega
  have hFz : ¬ FF bz := by rw [← hFF]; exact fun h => by have := h.1; omega
  have HFF : Hid (∀ b, FF b → w.heap.size ≤ b ∧ b < y5.heap.size) := Lib.hid (fun b hb => by rw [← hFF] at hb; exact ⟨Nat.le_trans hsw hb.1, hb.2⟩)
  have HIT := Lib.hid (OutK.mk hout); have HSZ : Hid (y5.heap.size ≤ y5.heap.size) := Lib.hid (Nat.le_refl _); clear hout hFF hsw hbi hbz hpl
  (refine Kr.outS hK (a' := ?_) ?_ ?_; rotate_left; (focus ((try simp only [Kr.PT]); first | done | rfl))); clear hK K
  (refine Kr.seqQ (v := .pointer (some ⟨bi, 3, none⟩)) (a' := ?_) (by rfl) ?_ ?_ ?_; rotate_left 1; (focus (go_simp; first | done | rfl)); (focus ((try simp only [Kr.PT]); first | done | rfl)))
  refine Kr.seqR (by rfl) (fun K hK => ?_)
  refine wp_run rfl (stLs (H.cell 0 rfl (show _ = some _ from rfl)) (H.frozen 0 rfl 3)) ?_
  have hkp := HIT.out.kept (same_set (W := y5) (b := bi) (j := 3) (u := .slice pl nl cl) hFi); have hsz := Nat.le_trans HSZ.out (Nat.le_of_eq (size_set (W := y5) (a := ⟨bi, 3, none⟩) (u := .slice pl nl cl)).symm)
  obtain ⟨y6, hy⟩ : ∃ y, y5.setCell ⟨bi, 3, none⟩ (.slice pl nl cl) = y := ⟨_, rfl⟩; rw [hy]; rw [hy] at hkp hsz; replace HIT := Lib.hid hkp; replace HSZ := Lib.hid hsz; clear hkp hsz
  replace H := H.set 0 (3) hy rfl; dsimp only [List.set] at H; clear hy
  (refine Kr.outS hK (a' := ?_) ?_ ?_; rotate_left; (focus ((try simp only [Kr.PT]); first | done | rfl))); clear hK K
  refine Kr.seqDoneW ?_
  go_upto_region 10 with fail
  refine Kr.seqStartW ?_
  (refine Kr.seqQ (v := .agg #[.int .i64 3, .int .i64 0, .slice none 0 0, .slice pl nl cl]) (a' := ?_) (by rfl) ?_ ?_ ?_; rotate_left 1; (focus (exact Kr.valOf rfl (ldI (H.at 0 rfl)))); (focus ((try simp only [Kr.PT]); first | done | rfl)))
  refine Kr.seqR (by rfl) (fun K hK => ?_)
  refine wp_run rfl (stI (H.at 1 rfl) one4) ?_
  have hkp := HIT.out.kept (same_put (W := y6) (b := bz) (cs := ([.int .i64 3, .int .i64 0, .slice none 0 0, .slice pl nl cl] : List Value).toArray) hFz); have hsz := Nat.le_trans HSZ.out (Nat.le_of_eq (size_put (W := y6) (b := bz) (cs := ([.int .i64 3, .int .i64 0, .slice none 0 0, .slice pl nl cl] : List Value).toArray)).symm)
  obtain ⟨y7, hy⟩ : ∃ y, y6.setRow bz ([.int .i64 3, .int .i64 0, .slice none 0 0, .slice pl nl cl] : List Value).toArray = y := ⟨_, rfl⟩; rw [hy]; rw [hy] at hkp hsz; replace HIT := Lib.hid hkp; replace HSZ := Lib.hid hsz; clear hkp hsz
  replace H := H.put 1 hy rfl; dsimp only [List.set] at H; clear hy
  (refine Kr.outS hK (a' := ?_) ?_ ?_; rotate_left; (focus ((try simp only [Kr.PT]); first | done | rfl))); clear hK K
  refine Kr.seqDoneW ?_
  go_wp2
  refine bodyPost_ret (v := .agg #[.int .i64 3, .int .i64 0, .slice none 0 0, .slice pl nl cl]) (results_cell_row rfl _ _ bz 25 _ _ _ (by rfl) (H.at 1 rfl) Tryd.underlying25 rfl (show _ = some 4 from infoI)) rfl ⟨.int .i64 3, .int .i64 0, .slice none 0 0, .slice pl nl cl, ps2, e2, rfl, one4, H.at 2 rfl, H.g, hp2, (by rw [HRES.out]; exact (by rw [HRE.out]; exact out_sh1 HIT.out.h (fun ts ⟨h1, h2, h3⟩ => itv_lst h1 h2 (h3.mono (fun b hb => ⟨(HFF.out b hb).1, Nat.lt_of_lt_of_le (HFF.out b hb).2 HSZ.out⟩)))))⟩
end Go.Proofs.YtlollhmheakcfaaDoor.Dg
