/- The reference's Sum. -/
import Derived.Test.YtilbojcghladjaaDoorQEe
import Derived.Deep.Cut
import Derived.Laws.Rows
namespace Go.Proofs.YtilbojcghladjaaDoor.Dg
open Go Go.RowKit Go.Proofs.YtilbojcghladjaaDoor.Ne Go.Proofs.YtilbojcghladjaaDoor.Kr

set_option linter.unusedSimpArgs false in
set_option maxRecDepth 100000 in
set_option maxHeartbeats 16000000 in
theorem rSum_v {p : Option Addr} {n c : Nat} {l : List (BitVec 8)} {w : World} (hS : SrcB p l w) (hl : l.length = n) (hp : p = none → c = 0) (hn : n ≤ 1000000) :
    Calls Tryd.prog 13 #[.slice p n c] w fun e w' => e = .returned (.agg ((sha l).map w8).toArray) ∧ Gr w w' := by
  have HS := Lib.hid hS; clear hS
  obtain ⟨PD, hPD⟩ : ∃ z, pd l = z := ⟨_, rfl⟩
  have hsha := sha_pd l; have hpl := pd_length l; have hzc : (l.length + 9 + zc l.length) % 64 = 0 ∧ zc l.length < 64 := by unfold zc; omega
  rw [hPD] at hsha hpl
  obtain ⟨M, hM⟩ : ∃ z, PD.length = z := ⟨_, rfl⟩
  have hM64 : M % 64 = 0 := by omega
  have hMl : M < 2000000 := by omega
  have hM1 : 0 < M := by omega
  obtain ⟨RES, hRES⟩ : ∃ z, (absB s0 PD).1 = z := ⟨_, rfl⟩
  rw [hRES] at hsha; rw [hsha]; clear hsha hpl hzc
  obtain ⟨OL, hOL⟩ : ∃ z, outs RES.list = z := ⟨_, rfl⟩
  have hOl : OL.length = 32 := by rw [← hOL]; exact outs_length _
  rw [hOL]
  have H := Ow.start w
  go_enter Tryd.func13, Tryd.ntmps13
  go_upto_region 0 with fail
  refine Kr.seqStartW ?_
  refine Kr.seqR (by rfl) (fun K hK => ?_)
  refine wp_runV rfl newH ?_
  obtain ⟨y1, hy⟩ : ∃ y, w.alloc (.cells (List.replicate 32 (Value.int .u8 0)).toArray 25) = y := ⟨_, rfl⟩
  obtain ⟨bo, hb⟩ : ∃ b, w.heap.size = b := ⟨_, rfl⟩
  rw [hy, hb]
  have hg : Gr w y1 := hy ▸ (Gr.refl _).alloc _
  replace H := H.alloc hy hb
  clear hy hb hg
  (refine Kr.outS hK (a' := ?_) ?_ ?_; rotate_left; (focus ((try simp only [Kr.PT]); first | done | rfl))); clear hK K
  refine Kr.seqDoneW ?_
  go_upto_region 1 with fail
  refine Kr.seqStartW ?_
  refine Kr.seqR (by rfl) (fun K hK => ?_)
  go_simp
  obtain ⟨y2, hy⟩ : ∃ y, y1.alloc (.cells #[.int .u32 1779033703, .int .u32 3144134277, .int .u32 1013904242, .int .u32 2773480762, .int .u32 1359893119, .int .u32 2600822924, .int .u32 528734635, .int .u32 1541459225] 51) = y := ⟨_, rfl⟩
  obtain ⟨bh, hb⟩ : ∃ b, y1.heap.size = b := ⟨_, rfl⟩
  rw [hy, hb]
  have hy2 : y1.alloc (.cells (s0.list.map w32).toArray 51) = y2 := hy
  replace H := H.alloc hy2 hb; clear hy hy2 hb
  (refine Kr.outS hK (a' := ?_) ?_ ?_; rotate_left; (focus ((try simp only [Kr.PT]); first | done | rfl))); clear hK K
  (refine Kr.seqQ (v := ?_) (a' := ?_) (by rfl) ?_ ?_ ?_; rotate_left 2; (focus (go_simp; first | done | rfl)); (focus ((try simp only [Kr.PT]); first | done | rfl)))
  refine Kr.seqDoneW ?_
  go_upto_region 2 with fail
  refine Kr.seqStartW ?_
  refine Kr.seqR (by rfl) (fun K hK => ?_)
  go_simp
  go_at_call 34
  refine (rconst_v).mono ?_
  rintro e y3 ⟨bk, rfl, hbk, hhk, hg⟩
  replace H := H.made hg hbk hhk; clear hg hbk hhk
  (refine Kr.outS hK (a' := ?_) ?_ ?_; rotate_left; (focus ((try simp only [Kr.PT]); first | done | rfl))); clear hK K
  (refine Kr.seqQ (v := ?_) (a' := ?_) (by rfl) ?_ ?_ ?_; rotate_left 2; (focus (go_simp; first | done | rfl)); (focus ((try simp only [Kr.PT]); first | done | rfl)))
  refine Kr.seqDoneW ?_
  go_upto_region 3 with fail
  refine Kr.seqStartW ?_
  (refine Kr.seqQ (v := ?_) (a' := ?_) (by rfl) ?_ ?_ ?_; rotate_left 2; (focus (go_simp; first | done | rfl)); (focus ((try simp only [Kr.PT]); first | done | rfl)))
  refine Kr.seqR (by rfl) (fun K hK => ?_)
  go_simp
  go_at_call 35
  refine (padded_v (HS.out.grow H.g) hl hp hn).mono ?_
  rintro e y4 ⟨bp, cp, curp, rfl, hcp, hbp, hhp, htp, hg⟩
  rw [hPD, hM] at hcp htp; rw [hPD, hM]
  replace H := H.made hg hbp hhp; clear hg hbp hhp HS
  (refine Kr.outS hK (a' := ?_) ?_ ?_; rotate_left; (focus ((try simp only [Kr.PT]); first | done | rfl))); clear hK K
  (refine Kr.seqQ (v := ?_) (a' := ?_) (by rfl) ?_ ?_ ?_; rotate_left 2; (focus (go_simp; first | done | rfl)); (focus ((try simp only [Kr.PT]); first | done | rfl)))
  refine Kr.seqDoneW ?_
  go_upto_region 4 with fail
  refine Kr.seqStartW ?_
  (refine Kr.seqQ (v := ?_) (a' := ?_) (by rfl) ?_ ?_ ?_; rotate_left 2; (focus (go_simp; first | done | rfl)); (focus ((try simp only [Kr.PT]); first | done | rfl)))
  refine Kr.seqDoneW ?_
  have H2 := Lib.hid H; clear H
  go_wp2_with fail
  go_loopw [6] (fun iv wr => ∃ (a : Nat) (S : S8), a % 64 = 0 ∧ a ≤ M ∧ iv = .int .i64 (a : Int) ∧ Hid ((absB S (PD.drop a)).1 = RES) ∧ Hid (Ow w wr [(bp, 5, curp), (bk, 51, kc.map w32), (bh, 51, S.list.map w32), (bo, 25, List.replicate 32 (Value.int .u8 0))])) (fun iv _ => M - (intOf iv).toNat)
  case atStart => exact ⟨0, s0, rfl, Nat.zero_le _, rfl, Lib.hid hRES, H2⟩
  case round =>
    clear H2; obtain ⟨a, S, ha64, haM, rfl, HAB, HH⟩ := hrel; have H := HH.out; clear HH
    by_cases hae : a = M
    · have HC : decide ((a : Int) < (M : Int)) = false := decide_eq_false (by omega)
      have hSR : S = RES := by have h := HAB.out; rw [hae, List.drop_of_length_le (by omega), absB_no (by decide)] at h; exact h
      clear hae
      go_upto_region 5 with fail
      refine Kr.seqStartW ?_
      (refine Kr.seqQ (v := ?_) (a' := ?_) (by rfl) ?_ ?_ ?_; rotate_left 2; (focus (go_simp; first | done | rfl)); (focus ((try simp only [Kr.PT]); first | done | rfl)))
      (refine Kr.seqQ (v := ?_) (a' := ?_) (by rfl) ?_ ?_ ?_; rotate_left 2; (focus (go_simp; first | done | rfl)); (focus ((try simp only [Kr.PT]); first | done | rfl)))
      (refine Kr.seqQ (v := .int .i64 (M : Int)) (a' := ?_) (by rfl) ?_ ?_ ?_; rotate_left 1; (focus (exact Kr.valOf rfl ((by go_simp)))); (focus ((try simp only [Kr.PT]); first | done | rfl)))
      (refine Kr.seqQ (v := .bool false) (a' := ?_) (by rfl) ?_ ?_ ?_; rotate_left 1; (focus (exact Kr.valOf rfl (lssT HC))); (focus ((try simp only [Kr.PT]); first | done | rfl)))
      refine Kr.seqDoneW ?_
      go_upto_region 19 with fail
      refine Kr.seqStartW ?_
      refine Kr.seqR (by rfl) (fun K hK => ?_)
      refine wp_runV rfl newH ?_
      obtain ⟨y5, hy⟩ : ∃ y, wr.alloc (.cells (List.replicate 32 (Value.int .u8 0)).toArray 25) = y := ⟨_, rfl⟩
      obtain ⟨bf, hb⟩ : ∃ b, wr.heap.size = b := ⟨_, rfl⟩
      rw [hy, hb]
      have hg : Gr wr y5 := hy ▸ (Gr.refl _).alloc _
      replace H := H.alloc hy hb
      clear hy hb hg
      (refine Kr.outS hK (a' := ?_) ?_ ?_; rotate_left; (focus ((try simp only [Kr.PT]); first | done | rfl))); clear hK K
      refine Kr.seqDoneW ?_
      go_upto_region 20 with fail
      refine Kr.seqStartW ?_
      (refine Kr.seqQ (v := ?_) (a' := ?_) (by rfl) ?_ ?_ ?_; rotate_left 2; (focus (go_simp; first | done | rfl)); (focus ((try simp only [Kr.PT]); first | done | rfl)))
      refine Kr.seqDoneW ?_
      have hOS : outs S.list = OL := by rw [hSR]; exact hOL
      rw [show List.replicate 32 (Value.int .u8 0) = padN 32 (OL.take 0) from rfl] at H
      have H2 := Lib.hid H; clear H HC HAB
      go_wp2_with fail
      go_loopw [14] (fun iv wr => ∃ i : Nat, i ≤ 32 ∧ iv = .int .i64 (i : Int) ∧ Hid (Ow w wr [(bf, 25, padN 32 (OL.take i)), (bp, 5, curp), (bk, 51, kc.map w32), (bh, 51, S.list.map w32), (bo, 25, padN 32 (OL.take 0))])) (fun iv _ => 32 - (intOf iv).toNat)
      case atStart => exact ⟨0, Nat.zero_le _, rfl, H2⟩
      case round =>
        clear H2; obtain ⟨i, hi, rfl, HH⟩ := hrel; have H := HH.out; clear HH
        have htl : (OL.take i).length = i := by rw [List.length_take, hOl]; omega
        by_cases hie : i = 32
        · have HC : decide ((i : Int) < 32) = false := decide_eq_false (by omega)
          rw [show OL.take i = OL from List.take_of_length_le (by omega), padN_full hOl] at H; clear hie htl
          have h32 : (OL.map w8).length = 32 := by rw [List.length_map]; exact hOl
          go_upto_region 21 with fail
          refine Kr.seqStartW ?_
          (refine Kr.seqQ (v := ?_) (a' := ?_) (by rfl) ?_ ?_ ?_; rotate_left 2; (focus (go_simp; first | done | rfl)); (focus ((try simp only [Kr.PT]); first | done | rfl)))
          (refine Kr.seqQ (v := .bool false) (a' := ?_) (by rfl) ?_ ?_ ?_; rotate_left 1; (focus (exact Kr.valOf rfl (lssT HC))); (focus ((try simp only [Kr.PT]); first | done | rfl)))
          refine Kr.seqDoneW ?_
          go_upto_region 24 with fail
          refine Kr.seqStartW ?_
          (refine Kr.seqQ (v := .agg (OL.map w8).toArray) (a' := ?_) (by rfl) ?_ ?_ ?_; rotate_left 1; (focus (exact Kr.valOf rfl (ldH (H.at 0 rfl) h32))); (focus ((try simp only [Kr.PT]); first | done | rfl)))
          refine Kr.seqR (by rfl) (fun K hK => ?_)
          refine wp_run rfl (stH (H.at 4 rfl) (padN_length (show (OL.take 0).length ≤ 32 from Nat.zero_le _)) h32 (oneCell_bytes _)) ?_
          obtain ⟨y6, hy⟩ : ∃ y, wr.setRow bo (OL.map w8).toArray = y := ⟨_, rfl⟩
          rw [hy]
          replace H := H.put 4 hy rfl
          dsimp only [List.set] at H
          clear hy
          (refine Kr.outS hK (a' := ?_) ?_ ?_; rotate_left; (focus ((try simp only [Kr.PT]); first | done | rfl))); clear hK K
          refine Kr.seqDoneW ?_
          go_wp2
          refine bodyPost_ret (v := .agg (OL.map w8).toArray) (results_cell_row rfl _ _ bo 25 _ _ _ (by rfl) (H.at 4 rfl) Tryd.underlying25 rfl (by rw [List.size_toArray, h32]; exact infoH)) rfl ⟨rfl, H.g⟩
        · have hil : i < 32 := by omega
          have HC : decide ((i : Int) < 32) = true := decide_eq_true (by omega)
          obtain ⟨q, hq⟩ : ∃ z, i / 4 = z := ⟨_, rfl⟩
          obtain ⟨r, hr⟩ : ∃ z, i % 4 = z := ⟨_, rfl⟩
          obtain ⟨r8, hr8⟩ : ∃ z, 8 * r = z := ⟨_, rfl⟩
          obtain ⟨d, hd⟩ : ∃ z, 24 - r8 = z := ⟨_, rfl⟩
          obtain ⟨x0, hx0⟩ : ∃ x, S.list.getD q 0 = x := ⟨_, rfl⟩
          have hgx := w_get (show q < S.list.length from (by show q < 8; omega)) hx0
          obtain ⟨y0, hy0⟩ : ∃ z, x0 >>> d = z := ⟨_, rfl⟩
          obtain ⟨z0, hz0⟩ : ∃ z, y0.setWidth 8 = z := ⟨_, rfl⟩
          have htk : OL.take (i + 1) = OL.take i ++ [z0] := by rw [List.take_add_one, ← hOS, outs_get S.list i (by show i < 32; omega), hq, hr, hr8, hd, hx0, hy0, hz0]; rfl
          have hmul : IntKind.i64.wrap ((8 : Int) * (r : Int)) = (r8 : Int) := wrap_nat (by omega) (by omega)
          have hsub : IntKind.i64.wrap ((24 : Int) - (r8 : Int)) = (d : Int) := wrap_nat (by omega) (by omega)
          obtain ⟨v0, hv0⟩ := padN_any (N := 32) (l := OL.take i) (j := i) (by omega) (by omega)
          go_upto_region 21 with fail
          refine Kr.seqStartW ?_
          (refine Kr.seqQ (v := ?_) (a' := ?_) (by rfl) ?_ ?_ ?_; rotate_left 2; (focus (go_simp; first | done | rfl)); (focus ((try simp only [Kr.PT]); first | done | rfl)))
          (refine Kr.seqQ (v := .bool true) (a' := ?_) (by rfl) ?_ ?_ ?_; rotate_left 1; (focus (exact Kr.valOf rfl (lssT HC))); (focus ((try simp only [Kr.PT]); first | done | rfl)))
          refine Kr.seqDoneW ?_
          go_upto_region 23 with fail
          refine Kr.seqStartW ?_
          (refine Kr.seqQ (v := ?_) (a' := ?_) (by rfl) ?_ ?_ ?_; rotate_left 2; (focus (go_simp; first | done | rfl)); (focus ((try simp only [Kr.PT]); first | done | rfl)))
          (refine Kr.seqQ (v := ?_) (a' := ?_) (by rfl) ?_ ?_ ?_; rotate_left 2; (focus (go_simp; first | done | rfl)); (focus ((try simp only [Kr.PT]); first | done | rfl)))
          (refine Kr.seqQ (v := ?_) (a' := ?_) (by rfl) ?_ ?_ ?_; rotate_left 2; (focus (go_simp; first | done | rfl)); (focus ((try simp only [Kr.PT]); first | done | rfl)))
          (refine Kr.seqQ (v := .int .i64 (q : Int)) (a' := ?_) (by rfl) ?_ ?_ ?_; rotate_left 1; (focus (exact Kr.valOf rfl (quoI (d := 4) (by decide) hq (by omega)))); (focus ((try simp only [Kr.PT]); first | done | rfl)))
          (refine Kr.seqQ (v := .pointer (some ⟨bh, q, none⟩)) (a' := ?_) (by rfl) ?_ ?_ ?_; rotate_left 1; (focus (exact Kr.valOf rfl (ixW0 (by omega)))); (focus ((try simp only [Kr.PT]); first | done | rfl)))
          (refine Kr.seqQ (v := .int .u32 ((x0).toNat : Int)) (a' := ?_) (by rfl) ?_ ?_ ?_; rotate_left 1; (focus (exact Kr.valOf rfl (ldE32 (rowCell (H.at 3 rfl) hgx)))); (focus ((try simp only [Kr.PT]); first | done | rfl)))
          (refine Kr.seqQ (v := ?_) (a' := ?_) (by rfl) ?_ ?_ ?_; rotate_left 2; (focus (go_simp; first | done | rfl)); (focus ((try simp only [Kr.PT]); first | done | rfl)))
          (refine Kr.seqQ (v := .int .i64 (r : Int)) (a' := ?_) (by rfl) ?_ ?_ ?_; rotate_left 1; (focus (exact Kr.valOf rfl (remI (d := 4) (by decide) hr (by decide)))); (focus ((try simp only [Kr.PT]); first | done | rfl)))
          (refine Kr.seqQ (v := .int .i64 (r8 : Int)) (a' := ?_) (by rfl) ?_ ?_ ?_; rotate_left 1; (focus (exact Kr.valOf rfl (mulI hmul))); (focus ((try simp only [Kr.PT]); first | done | rfl)))
          (refine Kr.seqQ (v := .int .i64 (d : Int)) (a' := ?_) (by rfl) ?_ ?_ ?_; rotate_left 1; (focus (exact Kr.valOf rfl (subI hsub))); (focus ((try simp only [Kr.PT]); first | done | rfl)))
          (refine Kr.seqQ (v := .int .u32 ((y0).toNat : Int)) (a' := ?_) (by rfl) ?_ ?_ ?_; rotate_left 1; (focus (exact Kr.valOf rfl (shrV2 (by omega) hy0))); (focus ((try simp only [Kr.PT]); first | done | rfl)))
          (refine Kr.seqQ (v := .int .u8 ((z0).toNat : Int)) (a' := ?_) (by rfl) ?_ ?_ ?_; rotate_left 1; (focus (exact Kr.valOf rfl ((by rw [← hz0]; exact conv32B)))); (focus ((try simp only [Kr.PT]); first | done | rfl)))
          (refine Kr.seqQ (v := .pointer (some ⟨bf, i, none⟩)) (a' := ?_) (by rfl) ?_ ?_ ?_; rotate_left 1; (focus (exact Kr.valOf rfl (ixH hil))); (focus ((try simp only [Kr.PT]); first | done | rfl)))
          refine Kr.seqR (by rfl) (fun K hK => ?_)
          refine wp_run rfl (stE8 (H.cell 0 rfl hv0) (H.frozen 0 rfl i)) ?_
          obtain ⟨y7, hy⟩ : ∃ y, wr.setCell ⟨bf, i, none⟩ (.int .u8 ((z0).toNat : Int)) = y := ⟨_, rfl⟩
          rw [hy]
          replace H := H.set 0 (i) hy rfl
          dsimp only [List.set] at H
          clear hy
          rw [padN_set htl hil, ← htk] at H
          (refine Kr.outS hK (a' := ?_) ?_ ?_; rotate_left; (focus ((try simp only [Kr.PT]); first | done | rfl))); clear hK K
          refine Kr.seqDoneW ?_
          have HADD : IntKind.i64.wrap ((i : Int) + 1) = ((i + 1 : Nat) : Int) := wrap_nat (by omega) (by omega)
          go_upto_region 22 with fail
          refine Kr.seqStartW ?_
          (refine Kr.seqQ (v := ?_) (a' := ?_) (by rfl) ?_ ?_ ?_; rotate_left 2; (focus (go_simp; first | done | rfl)); (focus ((try simp only [Kr.PT]); first | done | rfl)))
          (refine Kr.seqQ (v := .int .i64 ((i + 1 : Nat) : Int)) (a' := ?_) (by rfl) ?_ ?_ ?_; rotate_left 1; (focus (exact Kr.valOf rfl (addI HADD))); (focus ((try simp only [Kr.PT]); first | done | rfl)))
          (refine Kr.seqQ (v := ?_) (a' := ?_) (by rfl) ?_ ?_ ?_; rotate_left 2; (focus (go_simp; first | done | rfl)); (focus ((try simp only [Kr.PT]); first | done | rfl)))
          refine Kr.seqDoneW ?_
          go_wp2; go_roundw
          case rel => exact ⟨i + 1, by omega, rfl, Lib.hid H⟩
          case measure => simp [intOf]; omega
    · have haM2 : a + 64 ≤ M := by omega
      have HC : decide ((a : Int) < (M : Int)) = true := decide_eq_true (by omega)
      obtain ⟨e, he⟩ : ∃ z, a + 64 = z := ⟨_, rfl⟩
      have hadd : IntKind.i64.wrap ((a : Int) + 64) = (e : Int) := wrap_nat (by omega) (by omega)
      obtain ⟨D, hD⟩ : ∃ z, PD.drop a = z := ⟨_, rfl⟩
      have hDl : 64 ≤ D.length := by rw [← hD, List.length_drop]; omega
      have hD2 : PD.drop e = D.drop 64 := by rw [← hD, List.drop_drop, he]
      rw [hD] at HAB
      obtain ⟨R, hR⟩ : ∃ z, sch (wordOf D) 64 = z := ⟨_, rfl⟩
      have hRl : R.length = 64 := by rw [← hR]; exact sch_length _ _
      go_upto_region 5 with fail
      refine Kr.seqStartW ?_
      (refine Kr.seqQ (v := ?_) (a' := ?_) (by rfl) ?_ ?_ ?_; rotate_left 2; (focus (go_simp; first | done | rfl)); (focus ((try simp only [Kr.PT]); first | done | rfl)))
      (refine Kr.seqQ (v := ?_) (a' := ?_) (by rfl) ?_ ?_ ?_; rotate_left 2; (focus (go_simp; first | done | rfl)); (focus ((try simp only [Kr.PT]); first | done | rfl)))
      (refine Kr.seqQ (v := .int .i64 (M : Int)) (a' := ?_) (by rfl) ?_ ?_ ?_; rotate_left 1; (focus (exact Kr.valOf rfl ((by go_simp)))); (focus ((try simp only [Kr.PT]); first | done | rfl)))
      (refine Kr.seqQ (v := .bool true) (a' := ?_) (by rfl) ?_ ?_ ?_; rotate_left 1; (focus (exact Kr.valOf rfl (lssT HC))); (focus ((try simp only [Kr.PT]); first | done | rfl)))
      refine Kr.seqDoneW ?_
      go_upto_region 7 with fail
      refine Kr.seqStartW ?_
      (refine Kr.seqQ (v := ?_) (a' := ?_) (by rfl) ?_ ?_ ?_; rotate_left 2; (focus (go_simp; first | done | rfl)); (focus ((try simp only [Kr.PT]); first | done | rfl)))
      (refine Kr.seqQ (v := ?_) (a' := ?_) (by rfl) ?_ ?_ ?_; rotate_left 2; (focus (go_simp; first | done | rfl)); (focus ((try simp only [Kr.PT]); first | done | rfl)))
      (refine Kr.seqQ (v := ?_) (a' := ?_) (by rfl) ?_ ?_ ?_; rotate_left 2; (focus (go_simp; first | done | rfl)); (focus ((try simp only [Kr.PT]); first | done | rfl)))
      (refine Kr.seqQ (v := .int .i64 (e : Int)) (a' := ?_) (by rfl) ?_ ?_ ?_; rotate_left 1; (focus (exact Kr.valOf rfl (addI hadd))); (focus ((try simp only [Kr.PT]); first | done | rfl)))
      (refine Kr.seqQ (v := .slice (some ⟨bp, a, none⟩) 64 (cp - a)) (a' := ?_) (by rfl) ?_ ?_ ?_; rotate_left 1; (focus (exact Kr.valOf rfl (slP he (by omega) hcp (by omega)))); (focus ((try simp only [Kr.PT]); first | done | rfl)))
      refine Kr.seqR (by rfl) (fun K hK => ?_)
      go_simp
      go_at_call 36
      have hP := words_v (c := cp - a) (hD ▸ bytes_drop (a := a) (H.at 0 rfl) htp hM) hDl
      rw [hR] at hP; refine hP.mono ?_
      rintro e y8 ⟨bw, cw, curw, rfl, hcw, hbw, hhw, htw, hg⟩
      replace H := H.made hg hbw hhw; clear hP hg hbw hhw
      (refine Kr.outS hK (a' := ?_) ?_ ?_; rotate_left; (focus ((try simp only [Kr.PT]); first | done | rfl))); clear hK K
      (refine Kr.seqQ (v := ?_) (a' := ?_) (by rfl) ?_ ?_ ?_; rotate_left 2; (focus (go_simp; first | done | rfl)); (focus ((try simp only [Kr.PT]); first | done | rfl)))
      refine Kr.seqDoneW ?_
      go_upto_region 8 with fail
      refine Kr.seqStartW ?_
      refine Kr.seqR (by rfl) (fun K hK => ?_)
      go_simp
      obtain ⟨y9, hy⟩ : ∃ y, y8.alloc (.cells #[] 51) = y := ⟨_, rfl⟩
      obtain ⟨bnew, hbn⟩ : ∃ b, y8.heap.size = b := ⟨_, rfl⟩
      have hnew := row_new2 H hy hbn; rw [hy, hbn]
      have hg : Gr y8 y9 := hy ▸ (Gr.refl _).alloc _
      obtain ⟨hR, HA⟩ := hnew; have HR := Lib.hid hR; clear hR
      replace H := H.grow hg
      clear hg hy hbn
      (refine Kr.outS hK (a' := ?_) ?_ ?_; rotate_left; (focus ((try simp only [Kr.PT]); first | done | rfl))); clear hK K
      (refine Kr.seqQ (v := ?_) (a' := ?_) (by rfl) ?_ ?_ ?_; rotate_left 2; (focus (go_simp; first | done | rfl)); (focus ((try simp only [Kr.PT]); first | done | rfl)))
      refine Kr.seqR (by rfl) (fun K hK => ?_)
      refine wp_appG (T := 51) (TS := 63) Tryd.underlying63 info32 rfl (.tmp 31) (.tmp 32) rfl (v := (.slice (some ⟨bnew, 0, none⟩) 0 0)) (r := []) (d := (S.list.map w32)) (p := (some ⟨bh, 0, none⟩)) (m := 8) (c := 8) (rs := [(bw, 51, curw), (bp, 5, curp), (bk, 51, kc.map w32), (bh, 51, S.list.map w32), (bo, 25, List.replicate 32 (Value.int .u8 0))]) rfl rfl (rfl) (srcG_row (H.at 3 rfl)) (oneCell_words _) (fun e => by cases e) H HR.out HA (by decide) (by decide) ?_
      intro v1 y10 H3 hR3 hA3
      clear H HR HA ; have H := H3; have HR := Lib.hid hR3; have HA := hA3; clear H3 hR3 hA3
      (refine Kr.outS hK (a' := ?_) ?_ ?_; rotate_left; (focus ((try simp only [Kr.PT]); first | done | rfl))); clear hK K
      (refine Kr.seqQ (v := ?_) (a' := ?_) (by rfl) ?_ ?_ ?_; rotate_left 2; (focus (go_simp; first | done | rfl)); (focus ((try simp only [Kr.PT]); first | done | rfl)))
      refine Kr.seqDoneW ?_
      obtain ⟨bv, cv, curv, hv1, hcv9, hbv, hhv, htv⟩ := rowG_own HR.out (show 0 < 8 by decide)
      have hv2 : v1 = .slice (some ⟨bv, 0, none⟩) 8 cv := hv1; clear hv1; subst hv2; have HTV : Hid (curv.take 8 = S.list.map w32) := Lib.hid htv; replace H := H.adopt hbv hhv (fun x hx => HA bv rfl x hx); clear htv hbv hhv HR HA hcv9
      go_upto_region 9 with fail
      refine Kr.seqStartW ?_
      (refine Kr.seqQ (v := ?_) (a' := ?_) (by rfl) ?_ ?_ ?_; rotate_left 2; (focus (go_simp; first | done | rfl)); (focus ((try simp only [Kr.PT]); first | done | rfl)))
      refine Kr.seqDoneW ?_
      have H2 := Lib.hid H; clear H HC
      go_wp2_with fail
      go_loopw [8, 9] (fun vv tv wr => ∃ (t : Nat) (Z : S8) (bv cv : Nat) (curv : List Value), t ≤ 64 ∧ vv = .slice (some ⟨bv, 0, none⟩) 8 cv ∧ tv = .int .i64 (t : Int) ∧ Hid (rnds R t S = Z) ∧ Hid (curv.take 8 = Z.list.map w32) ∧ Hid (Ow w wr [(bv, 51, curv), (bw, 51, curw), (bp, 5, curp), (bk, 51, kc.map w32), (bh, 51, S.list.map w32), (bo, 25, List.replicate 32 (Value.int .u8 0))])) (fun _ tv _ => 64 - (intOf tv).toNat)
      case atStart => exact ⟨0, S, bv, cv, curv, Nat.zero_le _, rfl, rfl, Lib.hid rfl, HTV, H2⟩
      case round =>
        clear H2 HTV; obtain ⟨t, Z, bv, cv, curv, ht, rfl, rfl, HZ, HTV, HH⟩ := hrel; have H := HH.out; clear HH
        by_cases hte : t = 64
        · have HC : decide ((t : Int) < 64) = false := decide_eq_false (by omega)
          have HZ2 : Hid (comp S (wordOf D) = S.add Z) := Lib.hid (by rw [comp, hR]; exact congrArg S.add (by rw [← hte]; exact HZ.out)); clear hte HZ ht
          go_upto_region 10 with fail
          refine Kr.seqStartW ?_
          (refine Kr.seqQ (v := ?_) (a' := ?_) (by rfl) ?_ ?_ ?_; rotate_left 2; (focus (go_simp; first | done | rfl)); (focus ((try simp only [Kr.PT]); first | done | rfl)))
          (refine Kr.seqQ (v := .bool false) (a' := ?_) (by rfl) ?_ ?_ ?_; rotate_left 1; (focus (exact Kr.valOf rfl (lssT HC))); (focus ((try simp only [Kr.PT]); first | done | rfl)))
          refine Kr.seqDoneW ?_
          go_upto_region 15 with fail
          refine Kr.seqStartW ?_
          (refine Kr.seqQ (v := ?_) (a' := ?_) (by rfl) ?_ ?_ ?_; rotate_left 2; (focus (go_simp; first | done | rfl)); (focus ((try simp only [Kr.PT]); first | done | rfl)))
          refine Kr.seqDoneW ?_
          rw [← mix_zero S Z.list] at H
          have H2 := Lib.hid H; clear H HC
          go_wp2_with fail
          go_loopw [12] (fun iv wr => ∃ i : Nat, i ≤ 8 ∧ iv = .int .i64 (i : Int) ∧ Hid (Ow w wr [(bv, 51, curv), (bw, 51, curw), (bp, 5, curp), (bk, 51, kc.map w32), (bh, 51, (mix i S.list Z.list).map w32), (bo, 25, List.replicate 32 (Value.int .u8 0))])) (fun iv _ => 8 - (intOf iv).toNat)
          case atStart => exact ⟨0, Nat.zero_le _, rfl, H2⟩
          case round =>
            clear H2; obtain ⟨i, hi, rfl, HH⟩ := hrel; have H := HH.out; clear HH
            by_cases hie : i = 8
            · have HC : decide ((i : Int) < 8) = false := decide_eq_false (by omega)
              rw [hie, mix_full] at H; replace H := H.drop 2; dsimp only [List.drop] at H; clear hie hi
              go_upto_region 16 with fail
              refine Kr.seqStartW ?_
              (refine Kr.seqQ (v := ?_) (a' := ?_) (by rfl) ?_ ?_ ?_; rotate_left 2; (focus (go_simp; first | done | rfl)); (focus ((try simp only [Kr.PT]); first | done | rfl)))
              (refine Kr.seqQ (v := .bool false) (a' := ?_) (by rfl) ?_ ?_ ?_; rotate_left 1; (focus (exact Kr.valOf rfl (lssT HC))); (focus ((try simp only [Kr.PT]); first | done | rfl)))
              refine Kr.seqDoneW ?_
              go_upto_region 6 with fail
              refine Kr.seqStartW ?_
              (refine Kr.seqQ (v := ?_) (a' := ?_) (by rfl) ?_ ?_ ?_; rotate_left 2; (focus (go_simp; first | done | rfl)); (focus ((try simp only [Kr.PT]); first | done | rfl)))
              (refine Kr.seqQ (v := .int .i64 (e : Int)) (a' := ?_) (by rfl) ?_ ?_ ?_; rotate_left 1; (focus (exact Kr.valOf rfl (addI hadd))); (focus ((try simp only [Kr.PT]); first | done | rfl)))
              (refine Kr.seqQ (v := ?_) (a' := ?_) (by rfl) ?_ ?_ ?_; rotate_left 2; (focus (go_simp; first | done | rfl)); (focus ((try simp only [Kr.PT]); first | done | rfl)))
              refine Kr.seqDoneW ?_
              go_wp2; go_roundw
              case rel => exact ⟨e, S.add Z, by omega, by omega, rfl, Lib.hid (by rw [hD2, ← HZ2.out, ← HAB.out, absB_yes hDl]), Lib.hid H⟩
              case measure => simp [intOf]; omega
            · have hil : i < 8 := by omega
              have HC : decide ((i : Int) < 8) = true := decide_eq_true (by omega)
              obtain ⟨x0, hx0⟩ : ∃ x, Z.list.getD i 0 = x := ⟨_, rfl⟩
              obtain ⟨y0, hy0⟩ : ∃ x, S.list.getD i 0 = x := ⟨_, rfl⟩
              have hgx := of_take HTV.out hil (w_get (show i < Z.list.length from hil) hx0)
              have hgy : (mix i S.list Z.list)[i]? = some y0 := hy0 ▸ mix_get hil
              obtain ⟨z0, hz0⟩ : ∃ z, y0 + x0 = z := ⟨_, rfl⟩
              have hset : ((mix i S.list Z.list).map w32).set i (.int .u32 (z0.toNat : Int)) = (mix (i + 1) S.list Z.list).map w32 := by rw [map_set32, ← hz0, ← hx0, ← hy0, mix_set hil]
              go_upto_region 16 with fail
              refine Kr.seqStartW ?_
              (refine Kr.seqQ (v := ?_) (a' := ?_) (by rfl) ?_ ?_ ?_; rotate_left 2; (focus (go_simp; first | done | rfl)); (focus ((try simp only [Kr.PT]); first | done | rfl)))
              (refine Kr.seqQ (v := .bool true) (a' := ?_) (by rfl) ?_ ?_ ?_; rotate_left 1; (focus (exact Kr.valOf rfl (lssT HC))); (focus ((try simp only [Kr.PT]); first | done | rfl)))
              refine Kr.seqDoneW ?_
              go_upto_region 18 with fail
              refine Kr.startL (fun W' => (W'.heap[bh]? = some (.cells ((mix i S.list Z.list).map w32).toArray 51 (0, 0))) ∧ (W'.heap[bv]? = some (.cells (curv).toArray 51 (0, 0))) ∧ True) [12] (by kernel_rfl) ?_
              have gd : Gr wr wr.drew := (Gr.refl _).drew
              generalize wr.drew = d11 at gd ⊢
              replace H := H.grow gd
              clear gd
              (refine Kr.tPQ 0 (v := ?_) (a' := ?_) rfl (by kernel_rfl) (fun _ _ _ h => h) (by rfl) (fun _ => ⟨(H.at 4 rfl), (H.at 0 rfl), trivial⟩) (fun wx => ?_) ?_ ?_; rotate_left 2; (focus (go_simp; first | done | rfl)); (focus ((try simp only [Kr.PT]); first | done | rfl)))
              (refine Kr.tPQ 1 (v := ?_) (a' := ?_) rfl (by kernel_rfl) (fun _ _ _ h => h) (by rfl) (fun _ => ⟨(H.at 4 rfl), (H.at 0 rfl), trivial⟩) (fun wx => ?_) ?_ ?_; rotate_left 2; (focus (go_simp; first | done | rfl)); (focus ((try simp only [Kr.PT]); first | done | rfl)))
              (refine Kr.tPQ 2 (v := ?_) (a' := ?_) rfl (by kernel_rfl) (fun _ _ _ h => h) (by rfl) (fun _ => ⟨(H.at 4 rfl), (H.at 0 rfl), trivial⟩) (fun wx => ?_) ?_ ?_; rotate_left 2; (focus (go_simp; first | done | rfl)); (focus ((try simp only [Kr.PT]); first | done | rfl)))
              (refine Kr.tPQ 3 (v := ?_) (a' := ?_) rfl (by kernel_rfl) (fun _ _ _ h => h) (by rfl) (fun _ => ⟨(H.at 4 rfl), (H.at 0 rfl), trivial⟩) (fun wx => ?_) ?_ ?_; rotate_left 2; (focus (go_simp; first | done | rfl)); (focus ((try simp only [Kr.PT]); first | done | rfl)))
              (refine Kr.tPQ 4 (v := .pointer (some ⟨bh, i, none⟩)) (a' := ?_) rfl (by kernel_rfl) (fun _ _ _ h => h) (by rfl) (fun _ => ⟨(H.at 4 rfl), (H.at 0 rfl), trivial⟩) (fun wx => ?_) ?_ ?_; rotate_left 1; (focus (exact Kr.valOf rfl (ixW0 hil))); (focus ((try simp only [Kr.PT]); first | done | rfl)))
              (refine Kr.tSQ 5 [10, 11, 12] (v := .int .u32 ((y0).toNat : Int)) (a' := ?_) rfl (by kernel_rfl) (fun _ _ _ h => h) (by rfl) ⟨(H.at 4 rfl), (H.at 0 rfl), trivial⟩ (fun wx hSx => ?_) ?_ ?_; rotate_left 1; (focus (exact Kr.valOf rfl (ldE32 (rowCell hSx.1 (map_get32 hgy))))); (focus ((try simp only [Kr.PT]); first | done | rfl)))
              (refine Kr.tPQ 6 (v := ?_) (a' := ?_) rfl (by kernel_rfl) (fun _ _ _ h => h) (by rfl) (fun _ => ⟨(H.at 4 rfl), (H.at 0 rfl), trivial⟩) (fun wx => ?_) ?_ ?_; rotate_left 2; (focus (go_simp; first | done | rfl)); (focus ((try simp only [Kr.PT]); first | done | rfl)))
              (refine Kr.tPQ 7 (v := ?_) (a' := ?_) rfl (by kernel_rfl) (fun _ _ _ h => h) (by rfl) (fun _ => ⟨(H.at 4 rfl), (H.at 0 rfl), trivial⟩) (fun wx => ?_) ?_ ?_; rotate_left 2; (focus (go_simp; first | done | rfl)); (focus ((try simp only [Kr.PT]); first | done | rfl)))
              (refine Kr.tPQ 8 (v := .pointer (some ⟨bv, i, none⟩)) (a' := ?_) rfl (by kernel_rfl) (fun _ _ _ h => h) (by rfl) (fun _ => ⟨(H.at 4 rfl), (H.at 0 rfl), trivial⟩) (fun wx => ?_) ?_ ?_; rotate_left 1; (focus (exact Kr.valOf rfl (ixW0 hil))); (focus ((try simp only [Kr.PT]); first | done | rfl)))
              (refine Kr.tSQ 9 [10, 11, 12] (v := .int .u32 ((x0).toNat : Int)) (a' := ?_) rfl (by kernel_rfl) (fun _ _ _ h => h) (by rfl) ⟨(H.at 4 rfl), (H.at 0 rfl), trivial⟩ (fun wx hSx => ?_) ?_ ?_; rotate_left 1; (focus (exact Kr.valOf rfl (ldE32 (rowCell hSx.2.1 hgx)))); (focus ((try simp only [Kr.PT]); first | done | rfl)))
              (refine Kr.tPQ 10 (v := .int .u32 ((z0).toNat : Int)) (a' := ?_) rfl (by kernel_rfl) (fun _ _ _ h => h) (by rfl) (fun _ => ⟨(H.at 4 rfl), (H.at 0 rfl), trivial⟩) (fun wx => ?_) ?_ ?_; rotate_left 1; (focus (exact Kr.valOf rfl ((by rw [← hz0]; exact addW)))); (focus ((try simp only [Kr.PT]); first | done | rfl)))
              (refine Kr.tPQ 11 (v := .pointer (some ⟨bh, i, none⟩)) (a' := ?_) rfl (by kernel_rfl) (fun _ _ _ h => h) (by rfl) (fun _ => ⟨(H.at 4 rfl), (H.at 0 rfl), trivial⟩) (fun wx => ?_) ?_ ?_; rotate_left 1; (focus (exact Kr.valOf rfl (ixW0 hil))); (focus ((try simp only [Kr.PT]); first | done | rfl)))
              refine Kr.readyL (rs := [12]) (by kernel_rfl) (by simp) ?_
              refine Kr.AllL.cons rfl (fun K hK => ?_) Kr.AllL.nil
              rw [if_pos (by rfl)]
              refine wp_run rfl (stE32 (H.cell 4 rfl (map_get32 hgy)) (H.frozen 4 rfl i)) ?_
              obtain ⟨y12, hy⟩ : ∃ y, d11.setCell ⟨bh, i, none⟩ (.int .u32 ((z0).toNat : Int)) = y := ⟨_, rfl⟩
              rw [hy]
              replace H := H.set 4 (i) hy rfl
              dsimp only [List.set] at H
              clear hy
              rw [hset] at H
              (refine Kr.outL hK (a' := ?_) ?_ (Kr.noStill (by kernel_rfl)) ?_; rotate_left; (focus ((try simp only [Kr.PT]); first | done | rfl))); clear hK K
              refine Kr.doneL (by kernel_rfl) ?_ _
              have HADD : IntKind.i64.wrap ((i : Int) + 1) = ((i + 1 : Nat) : Int) := wrap_nat (by omega) (by omega)
              go_upto_region 17 with fail
              refine Kr.seqStartW ?_
              (refine Kr.seqQ (v := ?_) (a' := ?_) (by rfl) ?_ ?_ ?_; rotate_left 2; (focus (go_simp; first | done | rfl)); (focus ((try simp only [Kr.PT]); first | done | rfl)))
              (refine Kr.seqQ (v := .int .i64 ((i + 1 : Nat) : Int)) (a' := ?_) (by rfl) ?_ ?_ ?_; rotate_left 1; (focus (exact Kr.valOf rfl (addI HADD))); (focus ((try simp only [Kr.PT]); first | done | rfl)))
              (refine Kr.seqQ (v := ?_) (a' := ?_) (by rfl) ?_ ?_ ?_; rotate_left 2; (focus (go_simp; first | done | rfl)); (focus ((try simp only [Kr.PT]); first | done | rfl)))
              refine Kr.seqDoneW ?_
              go_wp2; go_roundw
              case rel => exact ⟨i + 1, by omega, rfl, Lib.hid H⟩
              case measure => simp [intOf]; omega
        · have htl : t < 64 := by omega
          have HC : decide ((t : Int) < 64) = true := decide_eq_true (by omega)
          obtain ⟨k0, hk0⟩ : ∃ x, kc.getD t 0 = x := ⟨_, rfl⟩
          have hgk := w_get (show t < kc.length from htl) hk0
          obtain ⟨w0, hw0⟩ : ∃ x, R.getD t 0 = x := ⟨_, rfl⟩
          have hgw := of_take htw htl (w_get (show t < R.length by omega) hw0)
          have hz0 : curv[0]? = some (.int .u32 ((Z.a).toNat : Int)) := of_take HTV.out (by decide) rfl
          have hz1 : curv[1]? = some (.int .u32 ((Z.b).toNat : Int)) := of_take HTV.out (by decide) rfl
          have hz2 : curv[2]? = some (.int .u32 ((Z.c).toNat : Int)) := of_take HTV.out (by decide) rfl
          have hz3 : curv[3]? = some (.int .u32 ((Z.d).toNat : Int)) := of_take HTV.out (by decide) rfl
          have hz4 : curv[4]? = some (.int .u32 ((Z.e).toNat : Int)) := of_take HTV.out (by decide) rfl
          have hz5 : curv[5]? = some (.int .u32 ((Z.f).toNat : Int)) := of_take HTV.out (by decide) rfl
          have hz6 : curv[6]? = some (.int .u32 ((Z.g).toNat : Int)) := of_take HTV.out (by decide) rfl
          have hz7 : curv[7]? = some (.int .u32 ((Z.h).toNat : Int)) := of_take HTV.out (by decide) rfl
          go_upto_region 10 with fail
          refine Kr.seqStartW ?_
          (refine Kr.seqQ (v := ?_) (a' := ?_) (by rfl) ?_ ?_ ?_; rotate_left 2; (focus (go_simp; first | done | rfl)); (focus ((try simp only [Kr.PT]); first | done | rfl)))
          (refine Kr.seqQ (v := .bool true) (a' := ?_) (by rfl) ?_ ?_ ?_; rotate_left 1; (focus (exact Kr.valOf rfl (lssT HC))); (focus ((try simp only [Kr.PT]); first | done | rfl)))
          refine Kr.seqDoneW ?_
          obtain ⟨r6, hr6⟩ : ∃ z, rr Z.e 6 = z := ⟨_, rfl⟩
          obtain ⟨r11, hr11⟩ : ∃ z, rr Z.e 11 = z := ⟨_, rfl⟩
          obtain ⟨r25, hr25⟩ : ∃ z, rr Z.e 25 = z := ⟨_, rfl⟩
          obtain ⟨m1, hm1⟩ : ∃ z, r6 ^^^ r11 = z := ⟨_, rfl⟩
          obtain ⟨m2, hm2⟩ : ∃ z, m1 ^^^ r25 = z := ⟨_, rfl⟩
          obtain ⟨m3, hm3⟩ : ∃ z, Z.h + m2 = z := ⟨_, rfl⟩
          obtain ⟨m4, hm4⟩ : ∃ z, Z.e &&& Z.f = z := ⟨_, rfl⟩
          obtain ⟨m5, hm5⟩ : ∃ z, ~~~Z.e = z := ⟨_, rfl⟩
          obtain ⟨m6, hm6⟩ : ∃ z, m5 &&& Z.g = z := ⟨_, rfl⟩
          obtain ⟨m7, hm7⟩ : ∃ z, m4 ^^^ m6 = z := ⟨_, rfl⟩
          obtain ⟨m8, hm8⟩ : ∃ z, m3 + m7 = z := ⟨_, rfl⟩
          obtain ⟨m9, hm9⟩ : ∃ z, m8 + k0 = z := ⟨_, rfl⟩
          obtain ⟨x1, hx1⟩ : ∃ z, m9 + w0 = z := ⟨_, rfl⟩
          have hT1 : T1 Z k0 w0 = x1 := by unfold T1; rw [hr6, hr11, hr25, hm1, hm2, hm3, hm4, hm5, hm6, hm7, hm8, hm9, hx1]
          go_upto_region 12 with fail
          refine Kr.startL (fun W' => (W'.heap[bv]? = some (.cells (curv).toArray 51 (0, 0))) ∧ (W'.heap[bk]? = some (.cells (kc.map w32).toArray 51 (0, 0))) ∧ (W'.heap[bw]? = some (.cells (curw).toArray 51 (0, 0))) ∧ True) [] (by kernel_rfl) ?_
          have gd : Gr wr wr.drew := (Gr.refl _).drew
          generalize wr.drew = d13 at gd ⊢
          replace H := H.grow gd
          clear gd
          (refine Kr.tPQ 0 (v := ?_) (a' := ?_) rfl (by kernel_rfl) (fun _ _ _ h => h) (by rfl) (fun _ => ⟨(H.at 0 rfl), (H.at 3 rfl), (H.at 1 rfl), trivial⟩) (fun wx => ?_) ?_ ?_; rotate_left 2; (focus (go_simp; first | done | rfl)); (focus ((try simp only [Kr.PT]); first | done | rfl)))
          (refine Kr.tPQ 1 (v := .pointer (some ⟨bv, 7, none⟩)) (a' := ?_) rfl (by kernel_rfl) (fun _ _ _ h => h) (by rfl) (fun _ => ⟨(H.at 0 rfl), (H.at 3 rfl), (H.at 1 rfl), trivial⟩) (fun wx => ?_) ?_ ?_; rotate_left 1; (focus (exact Kr.valOf rfl (ixC7))); (focus ((try simp only [Kr.PT]); first | done | rfl)))
          (refine Kr.tSQ 2 [] (v := .int .u32 ((Z.h).toNat : Int)) (a' := ?_) rfl (by kernel_rfl) (fun _ _ _ h => h) (by rfl) ⟨(H.at 0 rfl), (H.at 3 rfl), (H.at 1 rfl), trivial⟩ (fun wx hSx => ?_) ?_ ?_; rotate_left 1; (focus (exact Kr.valOf rfl (ldE32 (rowCell hSx.1 hz7)))); (focus ((try simp only [Kr.PT]); first | done | rfl)))
          (refine Kr.tPQ 3 (v := ?_) (a' := ?_) rfl (by kernel_rfl) (fun _ _ _ h => h) (by rfl) (fun _ => ⟨(H.at 0 rfl), (H.at 3 rfl), (H.at 1 rfl), trivial⟩) (fun wx => ?_) ?_ ?_; rotate_left 2; (focus (go_simp; first | done | rfl)); (focus ((try simp only [Kr.PT]); first | done | rfl)))
          (refine Kr.tPQ 4 (v := .pointer (some ⟨bv, 4, none⟩)) (a' := ?_) rfl (by kernel_rfl) (fun _ _ _ h => h) (by rfl) (fun _ => ⟨(H.at 0 rfl), (H.at 3 rfl), (H.at 1 rfl), trivial⟩) (fun wx => ?_) ?_ ?_; rotate_left 1; (focus (exact Kr.valOf rfl (ixC4))); (focus ((try simp only [Kr.PT]); first | done | rfl)))
          (refine Kr.tSQ 5 [] (v := .int .u32 ((Z.e).toNat : Int)) (a' := ?_) rfl (by kernel_rfl) (fun _ _ _ h => h) (by rfl) ⟨(H.at 0 rfl), (H.at 3 rfl), (H.at 1 rfl), trivial⟩ (fun wx hSx => ?_) ?_ ?_; rotate_left 1; (focus (exact Kr.valOf rfl (ldE32 (rowCell hSx.1 hz4)))); (focus ((try simp only [Kr.PT]); first | done | rfl)))
          (refine Kr.tPQ 7 (v := ?_) (a' := ?_) rfl (by kernel_rfl) (fun _ _ _ h => h) (by rfl) (fun _ => ⟨(H.at 0 rfl), (H.at 3 rfl), (H.at 1 rfl), trivial⟩) (fun wx => ?_) ?_ ?_; rotate_left 2; (focus (go_simp; first | done | rfl)); (focus ((try simp only [Kr.PT]); first | done | rfl)))
          (refine Kr.tPQ 8 (v := .pointer (some ⟨bv, 4, none⟩)) (a' := ?_) rfl (by kernel_rfl) (fun _ _ _ h => h) (by rfl) (fun _ => ⟨(H.at 0 rfl), (H.at 3 rfl), (H.at 1 rfl), trivial⟩) (fun wx => ?_) ?_ ?_; rotate_left 1; (focus (exact Kr.valOf rfl (ixC4))); (focus ((try simp only [Kr.PT]); first | done | rfl)))
          (refine Kr.tSQ 9 [] (v := .int .u32 ((Z.e).toNat : Int)) (a' := ?_) rfl (by kernel_rfl) (fun _ _ _ h => h) (by rfl) ⟨(H.at 0 rfl), (H.at 3 rfl), (H.at 1 rfl), trivial⟩ (fun wx hSx => ?_) ?_ ?_; rotate_left 1; (focus (exact Kr.valOf rfl (ldE32 (rowCell hSx.1 hz4)))); (focus ((try simp only [Kr.PT]); first | done | rfl)))
          (refine Kr.tPQ 12 (v := ?_) (a' := ?_) rfl (by kernel_rfl) (fun _ _ _ h => h) (by rfl) (fun _ => ⟨(H.at 0 rfl), (H.at 3 rfl), (H.at 1 rfl), trivial⟩) (fun wx => ?_) ?_ ?_; rotate_left 2; (focus (go_simp; first | done | rfl)); (focus ((try simp only [Kr.PT]); first | done | rfl)))
          (refine Kr.tPQ 13 (v := .pointer (some ⟨bv, 4, none⟩)) (a' := ?_) rfl (by kernel_rfl) (fun _ _ _ h => h) (by rfl) (fun _ => ⟨(H.at 0 rfl), (H.at 3 rfl), (H.at 1 rfl), trivial⟩) (fun wx => ?_) ?_ ?_; rotate_left 1; (focus (exact Kr.valOf rfl (ixC4))); (focus ((try simp only [Kr.PT]); first | done | rfl)))
          (refine Kr.tSQ 14 [] (v := .int .u32 ((Z.e).toNat : Int)) (a' := ?_) rfl (by kernel_rfl) (fun _ _ _ h => h) (by rfl) ⟨(H.at 0 rfl), (H.at 3 rfl), (H.at 1 rfl), trivial⟩ (fun wx hSx => ?_) ?_ ?_; rotate_left 1; (focus (exact Kr.valOf rfl (ldE32 (rowCell hSx.1 hz4)))); (focus ((try simp only [Kr.PT]); first | done | rfl)))
          (refine Kr.tPQ 18 (v := ?_) (a' := ?_) rfl (by kernel_rfl) (fun _ _ _ h => h) (by rfl) (fun _ => ⟨(H.at 0 rfl), (H.at 3 rfl), (H.at 1 rfl), trivial⟩) (fun wx => ?_) ?_ ?_; rotate_left 2; (focus (go_simp; first | done | rfl)); (focus ((try simp only [Kr.PT]); first | done | rfl)))
          (refine Kr.tPQ 19 (v := .pointer (some ⟨bv, 4, none⟩)) (a' := ?_) rfl (by kernel_rfl) (fun _ _ _ h => h) (by rfl) (fun _ => ⟨(H.at 0 rfl), (H.at 3 rfl), (H.at 1 rfl), trivial⟩) (fun wx => ?_) ?_ ?_; rotate_left 1; (focus (exact Kr.valOf rfl (ixC4))); (focus ((try simp only [Kr.PT]); first | done | rfl)))
          (refine Kr.tSQ 20 [] (v := .int .u32 ((Z.e).toNat : Int)) (a' := ?_) rfl (by kernel_rfl) (fun _ _ _ h => h) (by rfl) ⟨(H.at 0 rfl), (H.at 3 rfl), (H.at 1 rfl), trivial⟩ (fun wx hSx => ?_) ?_ ?_; rotate_left 1; (focus (exact Kr.valOf rfl (ldE32 (rowCell hSx.1 hz4)))); (focus ((try simp only [Kr.PT]); first | done | rfl)))
          (refine Kr.tPQ 21 (v := ?_) (a' := ?_) rfl (by kernel_rfl) (fun _ _ _ h => h) (by rfl) (fun _ => ⟨(H.at 0 rfl), (H.at 3 rfl), (H.at 1 rfl), trivial⟩) (fun wx => ?_) ?_ ?_; rotate_left 2; (focus (go_simp; first | done | rfl)); (focus ((try simp only [Kr.PT]); first | done | rfl)))
          (refine Kr.tPQ 22 (v := .pointer (some ⟨bv, 5, none⟩)) (a' := ?_) rfl (by kernel_rfl) (fun _ _ _ h => h) (by rfl) (fun _ => ⟨(H.at 0 rfl), (H.at 3 rfl), (H.at 1 rfl), trivial⟩) (fun wx => ?_) ?_ ?_; rotate_left 1; (focus (exact Kr.valOf rfl (ixC5))); (focus ((try simp only [Kr.PT]); first | done | rfl)))
          (refine Kr.tSQ 23 [] (v := .int .u32 ((Z.f).toNat : Int)) (a' := ?_) rfl (by kernel_rfl) (fun _ _ _ h => h) (by rfl) ⟨(H.at 0 rfl), (H.at 3 rfl), (H.at 1 rfl), trivial⟩ (fun wx hSx => ?_) ?_ ?_; rotate_left 1; (focus (exact Kr.valOf rfl (ldE32 (rowCell hSx.1 hz5)))); (focus ((try simp only [Kr.PT]); first | done | rfl)))
          (refine Kr.tPQ 24 (v := .int .u32 ((m4).toNat : Int)) (a' := ?_) rfl (by kernel_rfl) (fun _ _ _ h => h) (by rfl) (fun _ => ⟨(H.at 0 rfl), (H.at 3 rfl), (H.at 1 rfl), trivial⟩) (fun wx => ?_) ?_ ?_; rotate_left 1; (focus (exact Kr.valOf rfl ((by rw [← hm4]; exact andW)))); (focus ((try simp only [Kr.PT]); first | done | rfl)))
          (refine Kr.tPQ 25 (v := ?_) (a' := ?_) rfl (by kernel_rfl) (fun _ _ _ h => h) (by rfl) (fun _ => ⟨(H.at 0 rfl), (H.at 3 rfl), (H.at 1 rfl), trivial⟩) (fun wx => ?_) ?_ ?_; rotate_left 2; (focus (go_simp; first | done | rfl)); (focus ((try simp only [Kr.PT]); first | done | rfl)))
          (refine Kr.tPQ 26 (v := .pointer (some ⟨bv, 4, none⟩)) (a' := ?_) rfl (by kernel_rfl) (fun _ _ _ h => h) (by rfl) (fun _ => ⟨(H.at 0 rfl), (H.at 3 rfl), (H.at 1 rfl), trivial⟩) (fun wx => ?_) ?_ ?_; rotate_left 1; (focus (exact Kr.valOf rfl (ixC4))); (focus ((try simp only [Kr.PT]); first | done | rfl)))
          (refine Kr.tSQ 27 [] (v := .int .u32 ((Z.e).toNat : Int)) (a' := ?_) rfl (by kernel_rfl) (fun _ _ _ h => h) (by rfl) ⟨(H.at 0 rfl), (H.at 3 rfl), (H.at 1 rfl), trivial⟩ (fun wx hSx => ?_) ?_ ?_; rotate_left 1; (focus (exact Kr.valOf rfl (ldE32 (rowCell hSx.1 hz4)))); (focus ((try simp only [Kr.PT]); first | done | rfl)))
          (refine Kr.tPQ 28 (v := .int .u32 ((m5).toNat : Int)) (a' := ?_) rfl (by kernel_rfl) (fun _ _ _ h => h) (by rfl) (fun _ => ⟨(H.at 0 rfl), (H.at 3 rfl), (H.at 1 rfl), trivial⟩) (fun wx => ?_) ?_ ?_; rotate_left 1; (focus (exact Kr.valOf rfl ((by rw [← hm5]; exact notW)))); (focus ((try simp only [Kr.PT]); first | done | rfl)))
          (refine Kr.tPQ 29 (v := ?_) (a' := ?_) rfl (by kernel_rfl) (fun _ _ _ h => h) (by rfl) (fun _ => ⟨(H.at 0 rfl), (H.at 3 rfl), (H.at 1 rfl), trivial⟩) (fun wx => ?_) ?_ ?_; rotate_left 2; (focus (go_simp; first | done | rfl)); (focus ((try simp only [Kr.PT]); first | done | rfl)))
          (refine Kr.tPQ 30 (v := .pointer (some ⟨bv, 6, none⟩)) (a' := ?_) rfl (by kernel_rfl) (fun _ _ _ h => h) (by rfl) (fun _ => ⟨(H.at 0 rfl), (H.at 3 rfl), (H.at 1 rfl), trivial⟩) (fun wx => ?_) ?_ ?_; rotate_left 1; (focus (exact Kr.valOf rfl (ixC6))); (focus ((try simp only [Kr.PT]); first | done | rfl)))
          (refine Kr.tSQ 31 [] (v := .int .u32 ((Z.g).toNat : Int)) (a' := ?_) rfl (by kernel_rfl) (fun _ _ _ h => h) (by rfl) ⟨(H.at 0 rfl), (H.at 3 rfl), (H.at 1 rfl), trivial⟩ (fun wx hSx => ?_) ?_ ?_; rotate_left 1; (focus (exact Kr.valOf rfl (ldE32 (rowCell hSx.1 hz6)))); (focus ((try simp only [Kr.PT]); first | done | rfl)))
          (refine Kr.tPQ 32 (v := .int .u32 ((m6).toNat : Int)) (a' := ?_) rfl (by kernel_rfl) (fun _ _ _ h => h) (by rfl) (fun _ => ⟨(H.at 0 rfl), (H.at 3 rfl), (H.at 1 rfl), trivial⟩) (fun wx => ?_) ?_ ?_; rotate_left 1; (focus (exact Kr.valOf rfl ((by rw [← hm6]; exact andW)))); (focus ((try simp only [Kr.PT]); first | done | rfl)))
          (refine Kr.tPQ 33 (v := .int .u32 ((m7).toNat : Int)) (a' := ?_) rfl (by kernel_rfl) (fun _ _ _ h => h) (by rfl) (fun _ => ⟨(H.at 0 rfl), (H.at 3 rfl), (H.at 1 rfl), trivial⟩) (fun wx => ?_) ?_ ?_; rotate_left 1; (focus (exact Kr.valOf rfl ((by rw [← hm7]; exact xorW)))); (focus ((try simp only [Kr.PT]); first | done | rfl)))
          (refine Kr.tPQ 35 (v := ?_) (a' := ?_) rfl (by kernel_rfl) (fun _ _ _ h => h) (by rfl) (fun _ => ⟨(H.at 0 rfl), (H.at 3 rfl), (H.at 1 rfl), trivial⟩) (fun wx => ?_) ?_ ?_; rotate_left 2; (focus (go_simp; first | done | rfl)); (focus ((try simp only [Kr.PT]); first | done | rfl)))
          (refine Kr.tPQ 36 (v := ?_) (a' := ?_) rfl (by kernel_rfl) (fun _ _ _ h => h) (by rfl) (fun _ => ⟨(H.at 0 rfl), (H.at 3 rfl), (H.at 1 rfl), trivial⟩) (fun wx => ?_) ?_ ?_; rotate_left 2; (focus (go_simp; first | done | rfl)); (focus ((try simp only [Kr.PT]); first | done | rfl)))
          (refine Kr.tPQ 37 (v := .pointer (some ⟨bk, t, none⟩)) (a' := ?_) rfl (by kernel_rfl) (fun _ _ _ h => h) (by rfl) (fun _ => ⟨(H.at 0 rfl), (H.at 3 rfl), (H.at 1 rfl), trivial⟩) (fun wx => ?_) ?_ ?_; rotate_left 1; (focus (exact Kr.valOf rfl (ixW0 htl))); (focus ((try simp only [Kr.PT]); first | done | rfl)))
          (refine Kr.tSQ 38 [] (v := .int .u32 ((k0).toNat : Int)) (a' := ?_) rfl (by kernel_rfl) (fun _ _ _ h => h) (by rfl) ⟨(H.at 0 rfl), (H.at 3 rfl), (H.at 1 rfl), trivial⟩ (fun wx hSx => ?_) ?_ ?_; rotate_left 1; (focus (exact Kr.valOf rfl (ldE32 (rowCell hSx.2.1 hgk)))); (focus ((try simp only [Kr.PT]); first | done | rfl)))
          (refine Kr.tPQ 40 (v := ?_) (a' := ?_) rfl (by kernel_rfl) (fun _ _ _ h => h) (by rfl) (fun _ => ⟨(H.at 0 rfl), (H.at 3 rfl), (H.at 1 rfl), trivial⟩) (fun wx => ?_) ?_ ?_; rotate_left 2; (focus (go_simp; first | done | rfl)); (focus ((try simp only [Kr.PT]); first | done | rfl)))
          (refine Kr.tPQ 41 (v := ?_) (a' := ?_) rfl (by kernel_rfl) (fun _ _ _ h => h) (by rfl) (fun _ => ⟨(H.at 0 rfl), (H.at 3 rfl), (H.at 1 rfl), trivial⟩) (fun wx => ?_) ?_ ?_; rotate_left 2; (focus (go_simp; first | done | rfl)); (focus ((try simp only [Kr.PT]); first | done | rfl)))
          (refine Kr.tPQ 42 (v := .pointer (some ⟨bw, t, none⟩)) (a' := ?_) rfl (by kernel_rfl) (fun _ _ _ h => h) (by rfl) (fun _ => ⟨(H.at 0 rfl), (H.at 3 rfl), (H.at 1 rfl), trivial⟩) (fun wx => ?_) ?_ ?_; rotate_left 1; (focus (exact Kr.valOf rfl (ixW0 htl))); (focus ((try simp only [Kr.PT]); first | done | rfl)))
          (refine Kr.tSQ 43 [] (v := .int .u32 ((w0).toNat : Int)) (a' := ?_) rfl (by kernel_rfl) (fun _ _ _ h => h) (by rfl) ⟨(H.at 0 rfl), (H.at 3 rfl), (H.at 1 rfl), trivial⟩ (fun wx hSx => ?_) ?_ ?_; rotate_left 1; (focus (exact Kr.valOf rfl (ldE32 (rowCell hSx.2.2.1 hgw)))); (focus ((try simp only [Kr.PT]); first | done | rfl)))
          refine Kr.readyL (rs := [6]) (by kernel_rfl) (by simp) ?_
          refine Kr.AllL.cons rfl (fun K hK => ?_) Kr.AllL.nil
          go_simp
          go_at_call 37
          have hP := right_v (x := Z.e) (n := 6) (w := d13) (by decide) (by decide)
          rw [hr6] at hP
          refine (hP).mono ?_
          rintro e y14 ⟨rfl, hg⟩
          replace H := H.grow hg
          clear hg
          clear hP
          (refine Kr.outL hK (a' := ?_) ?_ (fun _ => ⟨(H.at 0 rfl), (H.at 3 rfl), (H.at 1 rfl), trivial⟩) ?_; rotate_left; (focus ((try simp only [Kr.PT]); first | done | rfl))); clear hK K
          refine Kr.readyL (rs := [10]) (by kernel_rfl) (by simp) ?_
          refine Kr.AllL.cons rfl (fun K hK => ?_) Kr.AllL.nil
          go_simp
          go_at_call 37
          have hP := right_v (x := Z.e) (n := 11) (w := y14) (by decide) (by decide)
          rw [hr11] at hP
          refine (hP).mono ?_
          rintro e y15 ⟨rfl, hg⟩
          replace H := H.grow hg
          clear hg
          clear hP
          (refine Kr.outL hK (a' := ?_) ?_ (fun _ => ⟨(H.at 0 rfl), (H.at 3 rfl), (H.at 1 rfl), trivial⟩) ?_; rotate_left; (focus ((try simp only [Kr.PT]); first | done | rfl))); clear hK K
          (refine Kr.tPQ 11 (v := .int .u32 ((m1).toNat : Int)) (a' := ?_) rfl (by kernel_rfl) (fun _ _ _ h => h) (by rfl) (fun _ => ⟨(H.at 0 rfl), (H.at 3 rfl), (H.at 1 rfl), trivial⟩) (fun wx => ?_) ?_ ?_; rotate_left 1; (focus (exact Kr.valOf rfl ((by rw [← hm1]; exact xorW)))); (focus ((try simp only [Kr.PT]); first | done | rfl)))
          refine Kr.readyL (rs := [15]) (by kernel_rfl) (by simp) ?_
          refine Kr.AllL.cons rfl (fun K hK => ?_) Kr.AllL.nil
          go_simp
          go_at_call 37
          have hP := right_v (x := Z.e) (n := 25) (w := y15) (by decide) (by decide)
          rw [hr25] at hP
          refine (hP).mono ?_
          rintro e y16 ⟨rfl, hg⟩
          replace H := H.grow hg
          clear hg
          clear hP
          (refine Kr.outL hK (a' := ?_) ?_ (fun _ => ⟨(H.at 0 rfl), (H.at 3 rfl), (H.at 1 rfl), trivial⟩) ?_; rotate_left; (focus ((try simp only [Kr.PT]); first | done | rfl))); clear hK K
          (refine Kr.tPQ 16 (v := .int .u32 ((m2).toNat : Int)) (a' := ?_) rfl (by kernel_rfl) (fun _ _ _ h => h) (by rfl) (fun _ => ⟨(H.at 0 rfl), (H.at 3 rfl), (H.at 1 rfl), trivial⟩) (fun wx => ?_) ?_ ?_; rotate_left 1; (focus (exact Kr.valOf rfl ((by rw [← hm2]; exact xorW)))); (focus ((try simp only [Kr.PT]); first | done | rfl)))
          (refine Kr.tPQ 17 (v := .int .u32 ((m3).toNat : Int)) (a' := ?_) rfl (by kernel_rfl) (fun _ _ _ h => h) (by rfl) (fun _ => ⟨(H.at 0 rfl), (H.at 3 rfl), (H.at 1 rfl), trivial⟩) (fun wx => ?_) ?_ ?_; rotate_left 1; (focus (exact Kr.valOf rfl ((by rw [← hm3]; exact addW)))); (focus ((try simp only [Kr.PT]); first | done | rfl)))
          (refine Kr.tPQ 34 (v := .int .u32 ((m8).toNat : Int)) (a' := ?_) rfl (by kernel_rfl) (fun _ _ _ h => h) (by rfl) (fun _ => ⟨(H.at 0 rfl), (H.at 3 rfl), (H.at 1 rfl), trivial⟩) (fun wx => ?_) ?_ ?_; rotate_left 1; (focus (exact Kr.valOf rfl ((by rw [← hm8]; exact addW)))); (focus ((try simp only [Kr.PT]); first | done | rfl)))
          (refine Kr.tPQ 39 (v := .int .u32 ((m9).toNat : Int)) (a' := ?_) rfl (by kernel_rfl) (fun _ _ _ h => h) (by rfl) (fun _ => ⟨(H.at 0 rfl), (H.at 3 rfl), (H.at 1 rfl), trivial⟩) (fun wx => ?_) ?_ ?_; rotate_left 1; (focus (exact Kr.valOf rfl ((by rw [← hm9]; exact addW)))); (focus ((try simp only [Kr.PT]); first | done | rfl)))
          (refine Kr.tPQ 44 (v := .int .u32 ((x1).toNat : Int)) (a' := ?_) rfl (by kernel_rfl) (fun _ _ _ h => h) (by rfl) (fun _ => ⟨(H.at 0 rfl), (H.at 3 rfl), (H.at 1 rfl), trivial⟩) (fun wx => ?_) ?_ ?_; rotate_left 1; (focus (exact Kr.valOf rfl ((by rw [← hx1]; exact addW)))); (focus ((try simp only [Kr.PT]); first | done | rfl)))
          (refine Kr.tPQ 45 (v := ?_) (a' := ?_) rfl (by kernel_rfl) (fun _ _ _ h => h) (by rfl) (fun _ => ⟨(H.at 0 rfl), (H.at 3 rfl), (H.at 1 rfl), trivial⟩) (fun wx => ?_) ?_ ?_; rotate_left 2; (focus (go_simp; first | done | rfl)); (focus ((try simp only [Kr.PT]); first | done | rfl)))
          refine Kr.doneL (by kernel_rfl) ?_ _
          obtain ⟨r2, hr2⟩ : ∃ z, rr Z.a 2 = z := ⟨_, rfl⟩
          obtain ⟨r13, hr13⟩ : ∃ z, rr Z.a 13 = z := ⟨_, rfl⟩
          obtain ⟨r22, hr22⟩ : ∃ z, rr Z.a 22 = z := ⟨_, rfl⟩
          obtain ⟨n1, hn1⟩ : ∃ z, r2 ^^^ r13 = z := ⟨_, rfl⟩
          obtain ⟨n2, hn2⟩ : ∃ z, n1 ^^^ r22 = z := ⟨_, rfl⟩
          obtain ⟨n3, hn3⟩ : ∃ z, Z.a &&& Z.b = z := ⟨_, rfl⟩
          obtain ⟨n4, hn4⟩ : ∃ z, Z.a &&& Z.c = z := ⟨_, rfl⟩
          obtain ⟨n5, hn5⟩ : ∃ z, n3 ^^^ n4 = z := ⟨_, rfl⟩
          obtain ⟨n6, hn6⟩ : ∃ z, Z.b &&& Z.c = z := ⟨_, rfl⟩
          obtain ⟨n7, hn7⟩ : ∃ z, n5 ^^^ n6 = z := ⟨_, rfl⟩
          obtain ⟨y1, hy1⟩ : ∃ z, n2 + n7 = z := ⟨_, rfl⟩
          have hT2 : T2 Z = y1 := by unfold T2; rw [hr2, hr13, hr22, hn1, hn2, hn3, hn4, hn5, hn6, hn7, hy1]
          go_upto_region 13 with fail
          refine Kr.startL (fun W' => (W'.heap[bv]? = some (.cells (curv).toArray 51 (0, 0))) ∧ True) [] (by kernel_rfl) ?_
          have gd : Gr y16 y16.drew := (Gr.refl _).drew
          generalize y16.drew = d17 at gd ⊢
          replace H := H.grow gd
          clear gd
          (refine Kr.tPQ 0 (v := ?_) (a' := ?_) rfl (by kernel_rfl) (fun _ _ _ h => h) (by rfl) (fun _ => ⟨(H.at 0 rfl), trivial⟩) (fun wx => ?_) ?_ ?_; rotate_left 2; (focus (go_simp; first | done | rfl)); (focus ((try simp only [Kr.PT]); first | done | rfl)))
          (refine Kr.tPQ 1 (v := .pointer (some ⟨bv, 0, none⟩)) (a' := ?_) rfl (by kernel_rfl) (fun _ _ _ h => h) (by rfl) (fun _ => ⟨(H.at 0 rfl), trivial⟩) (fun wx => ?_) ?_ ?_; rotate_left 1; (focus (exact Kr.valOf rfl (ixC0))); (focus ((try simp only [Kr.PT]); first | done | rfl)))
          (refine Kr.tSQ 2 [] (v := .int .u32 ((Z.a).toNat : Int)) (a' := ?_) rfl (by kernel_rfl) (fun _ _ _ h => h) (by rfl) ⟨(H.at 0 rfl), trivial⟩ (fun wx hSx => ?_) ?_ ?_; rotate_left 1; (focus (exact Kr.valOf rfl (ldE32 (rowCell hSx.1 hz0)))); (focus ((try simp only [Kr.PT]); first | done | rfl)))
          (refine Kr.tPQ 4 (v := ?_) (a' := ?_) rfl (by kernel_rfl) (fun _ _ _ h => h) (by rfl) (fun _ => ⟨(H.at 0 rfl), trivial⟩) (fun wx => ?_) ?_ ?_; rotate_left 2; (focus (go_simp; first | done | rfl)); (focus ((try simp only [Kr.PT]); first | done | rfl)))
          (refine Kr.tPQ 5 (v := .pointer (some ⟨bv, 0, none⟩)) (a' := ?_) rfl (by kernel_rfl) (fun _ _ _ h => h) (by rfl) (fun _ => ⟨(H.at 0 rfl), trivial⟩) (fun wx => ?_) ?_ ?_; rotate_left 1; (focus (exact Kr.valOf rfl (ixC0))); (focus ((try simp only [Kr.PT]); first | done | rfl)))
          (refine Kr.tSQ 6 [] (v := .int .u32 ((Z.a).toNat : Int)) (a' := ?_) rfl (by kernel_rfl) (fun _ _ _ h => h) (by rfl) ⟨(H.at 0 rfl), trivial⟩ (fun wx hSx => ?_) ?_ ?_; rotate_left 1; (focus (exact Kr.valOf rfl (ldE32 (rowCell hSx.1 hz0)))); (focus ((try simp only [Kr.PT]); first | done | rfl)))
          (refine Kr.tPQ 9 (v := ?_) (a' := ?_) rfl (by kernel_rfl) (fun _ _ _ h => h) (by rfl) (fun _ => ⟨(H.at 0 rfl), trivial⟩) (fun wx => ?_) ?_ ?_; rotate_left 2; (focus (go_simp; first | done | rfl)); (focus ((try simp only [Kr.PT]); first | done | rfl)))
          (refine Kr.tPQ 10 (v := .pointer (some ⟨bv, 0, none⟩)) (a' := ?_) rfl (by kernel_rfl) (fun _ _ _ h => h) (by rfl) (fun _ => ⟨(H.at 0 rfl), trivial⟩) (fun wx => ?_) ?_ ?_; rotate_left 1; (focus (exact Kr.valOf rfl (ixC0))); (focus ((try simp only [Kr.PT]); first | done | rfl)))
          (refine Kr.tSQ 11 [] (v := .int .u32 ((Z.a).toNat : Int)) (a' := ?_) rfl (by kernel_rfl) (fun _ _ _ h => h) (by rfl) ⟨(H.at 0 rfl), trivial⟩ (fun wx hSx => ?_) ?_ ?_; rotate_left 1; (focus (exact Kr.valOf rfl (ldE32 (rowCell hSx.1 hz0)))); (focus ((try simp only [Kr.PT]); first | done | rfl)))
          (refine Kr.tPQ 14 (v := ?_) (a' := ?_) rfl (by kernel_rfl) (fun _ _ _ h => h) (by rfl) (fun _ => ⟨(H.at 0 rfl), trivial⟩) (fun wx => ?_) ?_ ?_; rotate_left 2; (focus (go_simp; first | done | rfl)); (focus ((try simp only [Kr.PT]); first | done | rfl)))
          (refine Kr.tPQ 15 (v := .pointer (some ⟨bv, 0, none⟩)) (a' := ?_) rfl (by kernel_rfl) (fun _ _ _ h => h) (by rfl) (fun _ => ⟨(H.at 0 rfl), trivial⟩) (fun wx => ?_) ?_ ?_; rotate_left 1; (focus (exact Kr.valOf rfl (ixC0))); (focus ((try simp only [Kr.PT]); first | done | rfl)))
          (refine Kr.tSQ 16 [] (v := .int .u32 ((Z.a).toNat : Int)) (a' := ?_) rfl (by kernel_rfl) (fun _ _ _ h => h) (by rfl) ⟨(H.at 0 rfl), trivial⟩ (fun wx hSx => ?_) ?_ ?_; rotate_left 1; (focus (exact Kr.valOf rfl (ldE32 (rowCell hSx.1 hz0)))); (focus ((try simp only [Kr.PT]); first | done | rfl)))
          (refine Kr.tPQ 17 (v := ?_) (a' := ?_) rfl (by kernel_rfl) (fun _ _ _ h => h) (by rfl) (fun _ => ⟨(H.at 0 rfl), trivial⟩) (fun wx => ?_) ?_ ?_; rotate_left 2; (focus (go_simp; first | done | rfl)); (focus ((try simp only [Kr.PT]); first | done | rfl)))
          (refine Kr.tPQ 18 (v := .pointer (some ⟨bv, 1, none⟩)) (a' := ?_) rfl (by kernel_rfl) (fun _ _ _ h => h) (by rfl) (fun _ => ⟨(H.at 0 rfl), trivial⟩) (fun wx => ?_) ?_ ?_; rotate_left 1; (focus (exact Kr.valOf rfl (ixC1))); (focus ((try simp only [Kr.PT]); first | done | rfl)))
          (refine Kr.tSQ 19 [] (v := .int .u32 ((Z.b).toNat : Int)) (a' := ?_) rfl (by kernel_rfl) (fun _ _ _ h => h) (by rfl) ⟨(H.at 0 rfl), trivial⟩ (fun wx hSx => ?_) ?_ ?_; rotate_left 1; (focus (exact Kr.valOf rfl (ldE32 (rowCell hSx.1 hz1)))); (focus ((try simp only [Kr.PT]); first | done | rfl)))
          (refine Kr.tPQ 20 (v := .int .u32 ((n3).toNat : Int)) (a' := ?_) rfl (by kernel_rfl) (fun _ _ _ h => h) (by rfl) (fun _ => ⟨(H.at 0 rfl), trivial⟩) (fun wx => ?_) ?_ ?_; rotate_left 1; (focus (exact Kr.valOf rfl ((by rw [← hn3]; exact andW)))); (focus ((try simp only [Kr.PT]); first | done | rfl)))
          (refine Kr.tPQ 21 (v := ?_) (a' := ?_) rfl (by kernel_rfl) (fun _ _ _ h => h) (by rfl) (fun _ => ⟨(H.at 0 rfl), trivial⟩) (fun wx => ?_) ?_ ?_; rotate_left 2; (focus (go_simp; first | done | rfl)); (focus ((try simp only [Kr.PT]); first | done | rfl)))
          (refine Kr.tPQ 22 (v := .pointer (some ⟨bv, 0, none⟩)) (a' := ?_) rfl (by kernel_rfl) (fun _ _ _ h => h) (by rfl) (fun _ => ⟨(H.at 0 rfl), trivial⟩) (fun wx => ?_) ?_ ?_; rotate_left 1; (focus (exact Kr.valOf rfl (ixC0))); (focus ((try simp only [Kr.PT]); first | done | rfl)))
          (refine Kr.tSQ 23 [] (v := .int .u32 ((Z.a).toNat : Int)) (a' := ?_) rfl (by kernel_rfl) (fun _ _ _ h => h) (by rfl) ⟨(H.at 0 rfl), trivial⟩ (fun wx hSx => ?_) ?_ ?_; rotate_left 1; (focus (exact Kr.valOf rfl (ldE32 (rowCell hSx.1 hz0)))); (focus ((try simp only [Kr.PT]); first | done | rfl)))
          (refine Kr.tPQ 24 (v := ?_) (a' := ?_) rfl (by kernel_rfl) (fun _ _ _ h => h) (by rfl) (fun _ => ⟨(H.at 0 rfl), trivial⟩) (fun wx => ?_) ?_ ?_; rotate_left 2; (focus (go_simp; first | done | rfl)); (focus ((try simp only [Kr.PT]); first | done | rfl)))
          (refine Kr.tPQ 25 (v := .pointer (some ⟨bv, 2, none⟩)) (a' := ?_) rfl (by kernel_rfl) (fun _ _ _ h => h) (by rfl) (fun _ => ⟨(H.at 0 rfl), trivial⟩) (fun wx => ?_) ?_ ?_; rotate_left 1; (focus (exact Kr.valOf rfl (ixC2))); (focus ((try simp only [Kr.PT]); first | done | rfl)))
          (refine Kr.tSQ 26 [] (v := .int .u32 ((Z.c).toNat : Int)) (a' := ?_) rfl (by kernel_rfl) (fun _ _ _ h => h) (by rfl) ⟨(H.at 0 rfl), trivial⟩ (fun wx hSx => ?_) ?_ ?_; rotate_left 1; (focus (exact Kr.valOf rfl (ldE32 (rowCell hSx.1 hz2)))); (focus ((try simp only [Kr.PT]); first | done | rfl)))
          (refine Kr.tPQ 27 (v := .int .u32 ((n4).toNat : Int)) (a' := ?_) rfl (by kernel_rfl) (fun _ _ _ h => h) (by rfl) (fun _ => ⟨(H.at 0 rfl), trivial⟩) (fun wx => ?_) ?_ ?_; rotate_left 1; (focus (exact Kr.valOf rfl ((by rw [← hn4]; exact andW)))); (focus ((try simp only [Kr.PT]); first | done | rfl)))
          (refine Kr.tPQ 28 (v := .int .u32 ((n5).toNat : Int)) (a' := ?_) rfl (by kernel_rfl) (fun _ _ _ h => h) (by rfl) (fun _ => ⟨(H.at 0 rfl), trivial⟩) (fun wx => ?_) ?_ ?_; rotate_left 1; (focus (exact Kr.valOf rfl ((by rw [← hn5]; exact xorW)))); (focus ((try simp only [Kr.PT]); first | done | rfl)))
          (refine Kr.tPQ 29 (v := ?_) (a' := ?_) rfl (by kernel_rfl) (fun _ _ _ h => h) (by rfl) (fun _ => ⟨(H.at 0 rfl), trivial⟩) (fun wx => ?_) ?_ ?_; rotate_left 2; (focus (go_simp; first | done | rfl)); (focus ((try simp only [Kr.PT]); first | done | rfl)))
          (refine Kr.tPQ 30 (v := .pointer (some ⟨bv, 1, none⟩)) (a' := ?_) rfl (by kernel_rfl) (fun _ _ _ h => h) (by rfl) (fun _ => ⟨(H.at 0 rfl), trivial⟩) (fun wx => ?_) ?_ ?_; rotate_left 1; (focus (exact Kr.valOf rfl (ixC1))); (focus ((try simp only [Kr.PT]); first | done | rfl)))
          (refine Kr.tSQ 31 [] (v := .int .u32 ((Z.b).toNat : Int)) (a' := ?_) rfl (by kernel_rfl) (fun _ _ _ h => h) (by rfl) ⟨(H.at 0 rfl), trivial⟩ (fun wx hSx => ?_) ?_ ?_; rotate_left 1; (focus (exact Kr.valOf rfl (ldE32 (rowCell hSx.1 hz1)))); (focus ((try simp only [Kr.PT]); first | done | rfl)))
          (refine Kr.tPQ 32 (v := ?_) (a' := ?_) rfl (by kernel_rfl) (fun _ _ _ h => h) (by rfl) (fun _ => ⟨(H.at 0 rfl), trivial⟩) (fun wx => ?_) ?_ ?_; rotate_left 2; (focus (go_simp; first | done | rfl)); (focus ((try simp only [Kr.PT]); first | done | rfl)))
          (refine Kr.tPQ 33 (v := .pointer (some ⟨bv, 2, none⟩)) (a' := ?_) rfl (by kernel_rfl) (fun _ _ _ h => h) (by rfl) (fun _ => ⟨(H.at 0 rfl), trivial⟩) (fun wx => ?_) ?_ ?_; rotate_left 1; (focus (exact Kr.valOf rfl (ixC2))); (focus ((try simp only [Kr.PT]); first | done | rfl)))
          (refine Kr.tSQ 34 [] (v := .int .u32 ((Z.c).toNat : Int)) (a' := ?_) rfl (by kernel_rfl) (fun _ _ _ h => h) (by rfl) ⟨(H.at 0 rfl), trivial⟩ (fun wx hSx => ?_) ?_ ?_; rotate_left 1; (focus (exact Kr.valOf rfl (ldE32 (rowCell hSx.1 hz2)))); (focus ((try simp only [Kr.PT]); first | done | rfl)))
          (refine Kr.tPQ 35 (v := .int .u32 ((n6).toNat : Int)) (a' := ?_) rfl (by kernel_rfl) (fun _ _ _ h => h) (by rfl) (fun _ => ⟨(H.at 0 rfl), trivial⟩) (fun wx => ?_) ?_ ?_; rotate_left 1; (focus (exact Kr.valOf rfl ((by rw [← hn6]; exact andW)))); (focus ((try simp only [Kr.PT]); first | done | rfl)))
          (refine Kr.tPQ 36 (v := .int .u32 ((n7).toNat : Int)) (a' := ?_) rfl (by kernel_rfl) (fun _ _ _ h => h) (by rfl) (fun _ => ⟨(H.at 0 rfl), trivial⟩) (fun wx => ?_) ?_ ?_; rotate_left 1; (focus (exact Kr.valOf rfl ((by rw [← hn7]; exact xorW)))); (focus ((try simp only [Kr.PT]); first | done | rfl)))
          refine Kr.readyL (rs := [3]) (by kernel_rfl) (by simp) ?_
          refine Kr.AllL.cons rfl (fun K hK => ?_) Kr.AllL.nil
          go_simp
          go_at_call 37
          have hP := right_v (x := Z.a) (n := 2) (w := d17) (by decide) (by decide)
          rw [hr2] at hP
          refine (hP).mono ?_
          rintro e y18 ⟨rfl, hg⟩
          replace H := H.grow hg
          clear hg
          clear hP
          (refine Kr.outL hK (a' := ?_) ?_ (fun _ => ⟨(H.at 0 rfl), trivial⟩) ?_; rotate_left; (focus ((try simp only [Kr.PT]); first | done | rfl))); clear hK K
          refine Kr.readyL (rs := [7]) (by kernel_rfl) (by simp) ?_
          refine Kr.AllL.cons rfl (fun K hK => ?_) Kr.AllL.nil
          go_simp
          go_at_call 37
          have hP := right_v (x := Z.a) (n := 13) (w := y18) (by decide) (by decide)
          rw [hr13] at hP
          refine (hP).mono ?_
          rintro e y19 ⟨rfl, hg⟩
          replace H := H.grow hg
          clear hg
          clear hP
          (refine Kr.outL hK (a' := ?_) ?_ (fun _ => ⟨(H.at 0 rfl), trivial⟩) ?_; rotate_left; (focus ((try simp only [Kr.PT]); first | done | rfl))); clear hK K
          (refine Kr.tPQ 8 (v := .int .u32 ((n1).toNat : Int)) (a' := ?_) rfl (by kernel_rfl) (fun _ _ _ h => h) (by rfl) (fun _ => ⟨(H.at 0 rfl), trivial⟩) (fun wx => ?_) ?_ ?_; rotate_left 1; (focus (exact Kr.valOf rfl ((by rw [← hn1]; exact xorW)))); (focus ((try simp only [Kr.PT]); first | done | rfl)))
          refine Kr.readyL (rs := [12]) (by kernel_rfl) (by simp) ?_
          refine Kr.AllL.cons rfl (fun K hK => ?_) Kr.AllL.nil
          go_simp
          go_at_call 37
          have hP := right_v (x := Z.a) (n := 22) (w := y19) (by decide) (by decide)
          rw [hr22] at hP
          refine (hP).mono ?_
          rintro e y20 ⟨rfl, hg⟩
          replace H := H.grow hg
          clear hg
          clear hP
          (refine Kr.outL hK (a' := ?_) ?_ (fun _ => ⟨(H.at 0 rfl), trivial⟩) ?_; rotate_left; (focus ((try simp only [Kr.PT]); first | done | rfl))); clear hK K
          (refine Kr.tPQ 13 (v := .int .u32 ((n2).toNat : Int)) (a' := ?_) rfl (by kernel_rfl) (fun _ _ _ h => h) (by rfl) (fun _ => ⟨(H.at 0 rfl), trivial⟩) (fun wx => ?_) ?_ ?_; rotate_left 1; (focus (exact Kr.valOf rfl ((by rw [← hn2]; exact xorW)))); (focus ((try simp only [Kr.PT]); first | done | rfl)))
          (refine Kr.tPQ 37 (v := .int .u32 ((y1).toNat : Int)) (a' := ?_) rfl (by kernel_rfl) (fun _ _ _ h => h) (by rfl) (fun _ => ⟨(H.at 0 rfl), trivial⟩) (fun wx => ?_) ?_ ?_; rotate_left 1; (focus (exact Kr.valOf rfl ((by rw [← hy1]; exact addW)))); (focus ((try simp only [Kr.PT]); first | done | rfl)))
          (refine Kr.tPQ 38 (v := ?_) (a' := ?_) rfl (by kernel_rfl) (fun _ _ _ h => h) (by rfl) (fun _ => ⟨(H.at 0 rfl), trivial⟩) (fun wx => ?_) ?_ ?_; rotate_left 2; (focus (go_simp; first | done | rfl)); (focus ((try simp only [Kr.PT]); first | done | rfl)))
          refine Kr.doneL (by kernel_rfl) ?_ _
          obtain ⟨u0, hu0⟩ : ∃ z, x1 + y1 = z := ⟨_, rfl⟩
          obtain ⟨u4, hu4⟩ : ∃ z, Z.d + x1 = z := ⟨_, rfl⟩
          have hrn : rnd Z k0 w0 = ⟨u0, Z.a, Z.b, Z.c, u4, Z.e, Z.f, Z.g⟩ := rnd_list hT1 hT2 hu0 hu4
          go_upto_region 14 with fail
          refine Kr.startL (fun W' => (W'.heap[bv]? = some (.cells (curv).toArray 51 (0, 0))) ∧ True) [] (by kernel_rfl) ?_
          have gd : Gr y20 y20.drew := (Gr.refl _).drew
          generalize y20.drew = d21 at gd ⊢
          replace H := H.grow gd
          clear gd
          (refine Kr.tPQ 0 (v := ?_) (a' := ?_) rfl (by kernel_rfl) (fun _ _ _ h => h) (by rfl) (fun _ => ⟨(H.at 0 rfl), trivial⟩) (fun wx => ?_) ?_ ?_; rotate_left 2; (focus (go_simp; first | done | rfl)); (focus ((try simp only [Kr.PT]); first | done | rfl)))
          (refine Kr.tPQ 1 (v := ?_) (a' := ?_) rfl (by kernel_rfl) (fun _ _ _ h => h) (by rfl) (fun _ => ⟨(H.at 0 rfl), trivial⟩) (fun wx => ?_) ?_ ?_; rotate_left 2; (focus (go_simp; first | done | rfl)); (focus ((try simp only [Kr.PT]); first | done | rfl)))
          (refine Kr.tPQ 2 (v := .int .u32 ((u0).toNat : Int)) (a' := ?_) rfl (by kernel_rfl) (fun _ _ _ h => h) (by rfl) (fun _ => ⟨(H.at 0 rfl), trivial⟩) (fun wx => ?_) ?_ ?_; rotate_left 1; (focus (exact Kr.valOf rfl ((by rw [← hu0]; exact addW)))); (focus ((try simp only [Kr.PT]); first | done | rfl)))
          (refine Kr.tPQ 3 (v := ?_) (a' := ?_) rfl (by kernel_rfl) (fun _ _ _ h => h) (by rfl) (fun _ => ⟨(H.at 0 rfl), trivial⟩) (fun wx => ?_) ?_ ?_; rotate_left 2; (focus (go_simp; first | done | rfl)); (focus ((try simp only [Kr.PT]); first | done | rfl)))
          (refine Kr.tPQ 4 (v := .pointer (some ⟨bv, 0, none⟩)) (a' := ?_) rfl (by kernel_rfl) (fun _ _ _ h => h) (by rfl) (fun _ => ⟨(H.at 0 rfl), trivial⟩) (fun wx => ?_) ?_ ?_; rotate_left 1; (focus (exact Kr.valOf rfl (ixC0))); (focus ((try simp only [Kr.PT]); first | done | rfl)))
          (refine Kr.tSQ 5 [] (v := .int .u32 ((Z.a).toNat : Int)) (a' := ?_) rfl (by kernel_rfl) (fun _ _ _ h => h) (by rfl) ⟨(H.at 0 rfl), trivial⟩ (fun wx hSx => ?_) ?_ ?_; rotate_left 1; (focus (exact Kr.valOf rfl (ldE32 (rowCell hSx.1 hz0)))); (focus ((try simp only [Kr.PT]); first | done | rfl)))
          (refine Kr.tPQ 6 (v := ?_) (a' := ?_) rfl (by kernel_rfl) (fun _ _ _ h => h) (by rfl) (fun _ => ⟨(H.at 0 rfl), trivial⟩) (fun wx => ?_) ?_ ?_; rotate_left 2; (focus (go_simp; first | done | rfl)); (focus ((try simp only [Kr.PT]); first | done | rfl)))
          (refine Kr.tPQ 7 (v := .pointer (some ⟨bv, 1, none⟩)) (a' := ?_) rfl (by kernel_rfl) (fun _ _ _ h => h) (by rfl) (fun _ => ⟨(H.at 0 rfl), trivial⟩) (fun wx => ?_) ?_ ?_; rotate_left 1; (focus (exact Kr.valOf rfl (ixC1))); (focus ((try simp only [Kr.PT]); first | done | rfl)))
          (refine Kr.tSQ 8 [] (v := .int .u32 ((Z.b).toNat : Int)) (a' := ?_) rfl (by kernel_rfl) (fun _ _ _ h => h) (by rfl) ⟨(H.at 0 rfl), trivial⟩ (fun wx hSx => ?_) ?_ ?_; rotate_left 1; (focus (exact Kr.valOf rfl (ldE32 (rowCell hSx.1 hz1)))); (focus ((try simp only [Kr.PT]); first | done | rfl)))
          (refine Kr.tPQ 9 (v := ?_) (a' := ?_) rfl (by kernel_rfl) (fun _ _ _ h => h) (by rfl) (fun _ => ⟨(H.at 0 rfl), trivial⟩) (fun wx => ?_) ?_ ?_; rotate_left 2; (focus (go_simp; first | done | rfl)); (focus ((try simp only [Kr.PT]); first | done | rfl)))
          (refine Kr.tPQ 10 (v := .pointer (some ⟨bv, 2, none⟩)) (a' := ?_) rfl (by kernel_rfl) (fun _ _ _ h => h) (by rfl) (fun _ => ⟨(H.at 0 rfl), trivial⟩) (fun wx => ?_) ?_ ?_; rotate_left 1; (focus (exact Kr.valOf rfl (ixC2))); (focus ((try simp only [Kr.PT]); first | done | rfl)))
          (refine Kr.tSQ 11 [] (v := .int .u32 ((Z.c).toNat : Int)) (a' := ?_) rfl (by kernel_rfl) (fun _ _ _ h => h) (by rfl) ⟨(H.at 0 rfl), trivial⟩ (fun wx hSx => ?_) ?_ ?_; rotate_left 1; (focus (exact Kr.valOf rfl (ldE32 (rowCell hSx.1 hz2)))); (focus ((try simp only [Kr.PT]); first | done | rfl)))
          (refine Kr.tPQ 12 (v := ?_) (a' := ?_) rfl (by kernel_rfl) (fun _ _ _ h => h) (by rfl) (fun _ => ⟨(H.at 0 rfl), trivial⟩) (fun wx => ?_) ?_ ?_; rotate_left 2; (focus (go_simp; first | done | rfl)); (focus ((try simp only [Kr.PT]); first | done | rfl)))
          (refine Kr.tPQ 13 (v := .pointer (some ⟨bv, 3, none⟩)) (a' := ?_) rfl (by kernel_rfl) (fun _ _ _ h => h) (by rfl) (fun _ => ⟨(H.at 0 rfl), trivial⟩) (fun wx => ?_) ?_ ?_; rotate_left 1; (focus (exact Kr.valOf rfl (ixC3))); (focus ((try simp only [Kr.PT]); first | done | rfl)))
          (refine Kr.tSQ 14 [] (v := .int .u32 ((Z.d).toNat : Int)) (a' := ?_) rfl (by kernel_rfl) (fun _ _ _ h => h) (by rfl) ⟨(H.at 0 rfl), trivial⟩ (fun wx hSx => ?_) ?_ ?_; rotate_left 1; (focus (exact Kr.valOf rfl (ldE32 (rowCell hSx.1 hz3)))); (focus ((try simp only [Kr.PT]); first | done | rfl)))
          (refine Kr.tPQ 15 (v := ?_) (a' := ?_) rfl (by kernel_rfl) (fun _ _ _ h => h) (by rfl) (fun _ => ⟨(H.at 0 rfl), trivial⟩) (fun wx => ?_) ?_ ?_; rotate_left 2; (focus (go_simp; first | done | rfl)); (focus ((try simp only [Kr.PT]); first | done | rfl)))
          (refine Kr.tPQ 16 (v := .int .u32 ((u4).toNat : Int)) (a' := ?_) rfl (by kernel_rfl) (fun _ _ _ h => h) (by rfl) (fun _ => ⟨(H.at 0 rfl), trivial⟩) (fun wx => ?_) ?_ ?_; rotate_left 1; (focus (exact Kr.valOf rfl ((by rw [← hu4]; exact addW)))); (focus ((try simp only [Kr.PT]); first | done | rfl)))
          (refine Kr.tPQ 17 (v := ?_) (a' := ?_) rfl (by kernel_rfl) (fun _ _ _ h => h) (by rfl) (fun _ => ⟨(H.at 0 rfl), trivial⟩) (fun wx => ?_) ?_ ?_; rotate_left 2; (focus (go_simp; first | done | rfl)); (focus ((try simp only [Kr.PT]); first | done | rfl)))
          (refine Kr.tPQ 18 (v := .pointer (some ⟨bv, 4, none⟩)) (a' := ?_) rfl (by kernel_rfl) (fun _ _ _ h => h) (by rfl) (fun _ => ⟨(H.at 0 rfl), trivial⟩) (fun wx => ?_) ?_ ?_; rotate_left 1; (focus (exact Kr.valOf rfl (ixC4))); (focus ((try simp only [Kr.PT]); first | done | rfl)))
          (refine Kr.tSQ 19 [] (v := .int .u32 ((Z.e).toNat : Int)) (a' := ?_) rfl (by kernel_rfl) (fun _ _ _ h => h) (by rfl) ⟨(H.at 0 rfl), trivial⟩ (fun wx hSx => ?_) ?_ ?_; rotate_left 1; (focus (exact Kr.valOf rfl (ldE32 (rowCell hSx.1 hz4)))); (focus ((try simp only [Kr.PT]); first | done | rfl)))
          (refine Kr.tPQ 20 (v := ?_) (a' := ?_) rfl (by kernel_rfl) (fun _ _ _ h => h) (by rfl) (fun _ => ⟨(H.at 0 rfl), trivial⟩) (fun wx => ?_) ?_ ?_; rotate_left 2; (focus (go_simp; first | done | rfl)); (focus ((try simp only [Kr.PT]); first | done | rfl)))
          (refine Kr.tPQ 21 (v := .pointer (some ⟨bv, 5, none⟩)) (a' := ?_) rfl (by kernel_rfl) (fun _ _ _ h => h) (by rfl) (fun _ => ⟨(H.at 0 rfl), trivial⟩) (fun wx => ?_) ?_ ?_; rotate_left 1; (focus (exact Kr.valOf rfl (ixC5))); (focus ((try simp only [Kr.PT]); first | done | rfl)))
          (refine Kr.tSQ 22 [] (v := .int .u32 ((Z.f).toNat : Int)) (a' := ?_) rfl (by kernel_rfl) (fun _ _ _ h => h) (by rfl) ⟨(H.at 0 rfl), trivial⟩ (fun wx hSx => ?_) ?_ ?_; rotate_left 1; (focus (exact Kr.valOf rfl (ldE32 (rowCell hSx.1 hz5)))); (focus ((try simp only [Kr.PT]); first | done | rfl)))
          (refine Kr.tPQ 23 (v := ?_) (a' := ?_) rfl (by kernel_rfl) (fun _ _ _ h => h) (by rfl) (fun _ => ⟨(H.at 0 rfl), trivial⟩) (fun wx => ?_) ?_ ?_; rotate_left 2; (focus (go_simp; first | done | rfl)); (focus ((try simp only [Kr.PT]); first | done | rfl)))
          (refine Kr.tPQ 24 (v := .pointer (some ⟨bv, 6, none⟩)) (a' := ?_) rfl (by kernel_rfl) (fun _ _ _ h => h) (by rfl) (fun _ => ⟨(H.at 0 rfl), trivial⟩) (fun wx => ?_) ?_ ?_; rotate_left 1; (focus (exact Kr.valOf rfl (ixC6))); (focus ((try simp only [Kr.PT]); first | done | rfl)))
          (refine Kr.tSQ 25 [] (v := .int .u32 ((Z.g).toNat : Int)) (a' := ?_) rfl (by kernel_rfl) (fun _ _ _ h => h) (by rfl) ⟨(H.at 0 rfl), trivial⟩ (fun wx hSx => ?_) ?_ ?_; rotate_left 1; (focus (exact Kr.valOf rfl (ldE32 (rowCell hSx.1 hz6)))); (focus ((try simp only [Kr.PT]); first | done | rfl)))
          refine Kr.readyL (rs := [26]) (by kernel_rfl) (by simp) ?_
          refine Kr.AllL.cons rfl (fun K hK => ?_) Kr.AllL.nil
          go_simp
          obtain ⟨y22, hy⟩ : ∃ y, d21.alloc (.cells #[.int .u32 ((u0).toNat : Int), .int .u32 ((Z.a).toNat : Int), .int .u32 ((Z.b).toNat : Int), .int .u32 ((Z.c).toNat : Int), .int .u32 ((u4).toNat : Int), .int .u32 ((Z.e).toNat : Int), .int .u32 ((Z.f).toNat : Int), .int .u32 ((Z.g).toNat : Int)] 51) = y := ⟨_, rfl⟩
          obtain ⟨bn, hb⟩ : ∃ b, d21.heap.size = b := ⟨_, rfl⟩
          rw [hy, hb]
          have hy2 : d21.alloc (.cells ((⟨u0, Z.a, Z.b, Z.c, u4, Z.e, Z.f, Z.g⟩ : S8).list.map w32).toArray 51) = y22 := hy
          replace H := H.alloc hy2 hb; clear hy hy2 hb
          (refine Kr.outL hK (a' := ?_) ?_ (fun _ => ⟨(H.at 1 rfl), trivial⟩) ?_; rotate_left; (focus ((try simp only [Kr.PT]); first | done | rfl))); clear hK K
          (refine Kr.tPQ 27 (v := ?_) (a' := ?_) rfl (by kernel_rfl) (fun _ _ _ h => h) (by rfl) (fun _ => ⟨(H.at 1 rfl), trivial⟩) (fun wx => ?_) ?_ ?_; rotate_left 2; (focus (go_simp; first | done | rfl)); (focus ((try simp only [Kr.PT]); first | done | rfl)))
          refine Kr.doneL (by kernel_rfl) ?_ _
          replace H := H.erase 1; dsimp only [List.eraseIdx] at H
          obtain ⟨Z2, hZ2⟩ : ∃ z : S8, (⟨u0, Z.a, Z.b, Z.c, u4, Z.e, Z.f, Z.g⟩ : S8) = z := ⟨_, rfl⟩; rw [hZ2] at H hrn; have hZ2t : (Z2.list.map w32).take 8 = Z2.list.map w32 := List.take_of_length_le (Nat.le_refl 8)
          have HADD : IntKind.i64.wrap ((t : Int) + 1) = ((t + 1 : Nat) : Int) := wrap_nat (by omega) (by omega)
          go_upto_region 11 with fail
          refine Kr.seqStartW ?_
          (refine Kr.seqQ (v := ?_) (a' := ?_) (by rfl) ?_ ?_ ?_; rotate_left 2; (focus (go_simp; first | done | rfl)); (focus ((try simp only [Kr.PT]); first | done | rfl)))
          (refine Kr.seqQ (v := .int .i64 ((t + 1 : Nat) : Int)) (a' := ?_) (by rfl) ?_ ?_ ?_; rotate_left 1; (focus (exact Kr.valOf rfl (addI HADD))); (focus ((try simp only [Kr.PT]); first | done | rfl)))
          (refine Kr.seqQ (v := ?_) (a' := ?_) (by rfl) ?_ ?_ ?_; rotate_left 2; (focus (go_simp; first | done | rfl)); (focus ((try simp only [Kr.PT]); first | done | rfl)))
          refine Kr.seqDoneW ?_
          go_wp2; go_roundw
          case rel => exact ⟨t + 1, Z2, bn, 8, Z2.list.map w32, by omega, rfl, rfl, Lib.hid (by rw [rnds, HZ.out, hk0, hw0, hrn]), Lib.hid hZ2t, Lib.hid H⟩
          case measure => simp [intOf]; omega
end Go.Proofs.YtilbojcghladjaaDoor.Dg
