/- The reference's Decode. -/
import Derived.Test.YtlollhmheakcfaaDoorQBz
import Derived.Deep.Cut
namespace Go.Proofs.YtlollhmheakcfaaDoor.Dg
open Go Go.RowKit Go.Proofs.YtlollhmheakcfaaDoor.Ne Go.Proofs.YtlollhmheakcfaaDoor.Kr

set_option linter.unusedSimpArgs false in
set_option maxRecDepth 100000 in
set_option maxHeartbeats 16000000 in
theorem rDecode_big {w : World} {n c : Nat} {p : Option Addr} {l : List (BitVec 8)} (hl : l.length = n) (hn : 16384 < n) :
    Calls Tryd.prog 18 #[.slice p n c] w fun o w' => DecP w l o w' := by
  have H := Ow.start w
  go_enter Tryd.func18, Tryd.ntmps18
  go_upto_region 0 with fail
  refine Kr.seqStartW ?_
  refine Kr.seqR (by rfl) (fun K hK => ?_)
  refine wp_runV rfl newI ?_
  obtain ⟨y1, hy⟩ : ∃ y, w.alloc (.cells ([.int .i64 0, .int .i64 0, .slice none 0 0, .slice none 0 0]).toArray 25) = y := ⟨_, rfl⟩
  obtain ⟨bz, hb⟩ : ∃ b, w.heap.size = b := ⟨_, rfl⟩
  rw [hy, hb]
  have hg : Gr w y1 := hy ▸ (Gr.refl _).alloc _
  replace H := H.alloc hy hb
  clear hy hb hg
  (refine Kr.outS hK (a' := ?_) ?_ ?_; rotate_left; (focus ((try simp only [Kr.PT]); first | done | rfl))); clear hK K
  (refine Kr.seqQ (v := ?_) (a' := ?_) (by rfl) ?_ ?_ ?_; rotate_left 2; (focus (go_simp; first | done | rfl)); (focus ((try simp only [Kr.PT]); first | done | rfl)))
  refine Kr.seqDoneW ?_
  have C1 : decide ((16384 : Int) < (n : Int)) = true := decide_eq_true (by omega)
  go_upto_region 1 with fail
  refine Kr.seqStartW ?_
  (refine Kr.seqQ (v := ?_) (a' := ?_) (by rfl) ?_ ?_ ?_; rotate_left 2; (focus (go_simp; first | done | rfl)); (focus ((try simp only [Kr.PT]); first | done | rfl)))
  (refine Kr.seqQ (v := .int .i64 (n : Int)) (a' := ?_) (by rfl) ?_ ?_ ?_; rotate_left 1; (focus (exact Kr.valOf rfl ((by go_simp)))); (focus ((try simp only [Kr.PT]); first | done | rfl)))
  (refine Kr.seqQ (v := .bool true) (a' := ?_) (by rfl) ?_ ?_ ?_; rotate_left 1; (focus (exact Kr.valOf rfl (gtrI C1))); (focus ((try simp only [Kr.PT]); first | done | rfl)))
  refine Kr.seqDoneW ?_
  clear C1
  go_upto_region 2 with fail
  refine Kr.seqStartW ?_
  (refine Kr.seqQ (v := .agg #[.int .i64 0, .int .i64 0, .slice none 0 0, .slice none 0 0]) (a' := ?_) (by rfl) ?_ ?_ ?_; rotate_left 1; (focus (go_simp; first | done | rfl)); (focus ((try simp only [Kr.PT]); first | done | rfl)))
  refine Kr.seqR (by rfl) (fun K hK => ?_)
  refine wp_run rfl (stI (H.at 0 rfl) one4) ?_
  obtain ⟨y2, hy⟩ : ∃ y, y1.setRow bz ([.int .i64 0, .int .i64 0, .slice none 0 0, .slice none 0 0]).toArray = y := ⟨_, rfl⟩
  rw [hy]
  replace H := H.put 0 hy rfl
  dsimp only [List.set] at H
  clear hy
  (refine Kr.outS hK (a' := ?_) ?_ ?_; rotate_left; (focus ((try simp only [Kr.PT]); first | done | rfl))); clear hK K
  (refine Kr.seqQ (v := ?_) (a' := ?_) (by rfl) ?_ ?_ ?_; rotate_left 2; (focus (go_simp; first | done | rfl)); (focus ((try simp only [Kr.PT]); first | done | rfl)))
  refine Kr.seqDoneW ?_
  go_wp2
  refine bodyPost_ret (v := .tuple #[.agg #[.int .i64 0, .int .i64 0, .slice none 0 0, .slice none 0 0], .int .i64 5]) (results_row_tmp rfl _ _ bz 25 _ _ _ (by rfl) (H.at 0 rfl) Tryd.underlying25 rfl (show _ = some 4 from infoI) (by rfl)) rfl ⟨.int .i64 0, .int .i64 0, .slice none 0 0, .slice none 0 0, 5, rfl, H.g, one4, .inr ⟨by decide, rfl, rfl, rfl, rfl, by rw [if_pos (by omega)]⟩⟩
set_option linter.unusedSimpArgs false in
set_option maxRecDepth 100000 in
set_option maxHeartbeats 16000000 in
theorem rDecode_low {w : World} {b n c : Nat} {p : Option Addr} {l : List (BitVec 8)} (hR : ∀ W, Gr w W → Calls Tryd.prog 42 #[.slice p n c, .int .i64 0] W fun o w' => ReadP W b 8 l o w') (hl : l.length = n) (hn : n ≤ 16384) :
    Calls Tryd.prog 18 #[.slice p n c] w fun o w' => DecP w l o w' := by
  have H := Ow.start w
  go_enter Tryd.func18, Tryd.ntmps18
  go_upto_region 0 with fail
  refine Kr.seqStartW ?_
  refine Kr.seqR (by rfl) (fun K hK => ?_)
  refine wp_runV rfl newI ?_
  obtain ⟨y1, hy⟩ : ∃ y, w.alloc (.cells ([.int .i64 0, .int .i64 0, .slice none 0 0, .slice none 0 0]).toArray 25) = y := ⟨_, rfl⟩
  obtain ⟨bz, hb⟩ : ∃ b, w.heap.size = b := ⟨_, rfl⟩
  rw [hy, hb]
  have hg : Gr w y1 := hy ▸ (Gr.refl _).alloc _
  replace H := H.alloc hy hb
  clear hy hb hg
  (refine Kr.outS hK (a' := ?_) ?_ ?_; rotate_left; (focus ((try simp only [Kr.PT]); first | done | rfl))); clear hK K
  (refine Kr.seqQ (v := ?_) (a' := ?_) (by rfl) ?_ ?_ ?_; rotate_left 2; (focus (go_simp; first | done | rfl)); (focus ((try simp only [Kr.PT]); first | done | rfl)))
  refine Kr.seqDoneW ?_
  have C1 : decide ((16384 : Int) < (n : Int)) = false := decide_eq_false (by omega)
  go_upto_region 1 with fail
  refine Kr.seqStartW ?_
  (refine Kr.seqQ (v := ?_) (a' := ?_) (by rfl) ?_ ?_ ?_; rotate_left 2; (focus (go_simp; first | done | rfl)); (focus ((try simp only [Kr.PT]); first | done | rfl)))
  (refine Kr.seqQ (v := .int .i64 (n : Int)) (a' := ?_) (by rfl) ?_ ?_ ?_; rotate_left 1; (focus (exact Kr.valOf rfl ((by go_simp)))); (focus ((try simp only [Kr.PT]); first | done | rfl)))
  (refine Kr.seqQ (v := .bool false) (a' := ?_) (by rfl) ?_ ?_ ?_; rotate_left 1; (focus (exact Kr.valOf rfl (gtrI C1))); (focus ((try simp only [Kr.PT]); first | done | rfl)))
  refine Kr.seqDoneW ?_
  clear C1
  have HR := Lib.hid hR; clear hR
  go_upto_region 3 with fail
  refine Kr.seqStartW ?_
  (refine Kr.seqQ (v := ?_) (a' := ?_) (by rfl) ?_ ?_ ?_; rotate_left 2; (focus (go_simp; first | done | rfl)); (focus ((try simp only [Kr.PT]); first | done | rfl)))
  refine Kr.seqR (by rfl) (fun K hK => ?_)
  go_simp
  go_at_call 42
  have hsw := H.g.size; have hbz : bz < y1.heap.size := lt_of_heap (H.at 0 rfl)
  refine (HR.out y1 H.g).mono ?_
  rintro o9 y2 ⟨v0, v1, v2, v3, pr, nr, cr, e2, rfl, hg, hone, hout⟩
  obtain ⟨FF, hFF⟩ : ∃ z : Nat → Prop, (fun b => y1.heap.size ≤ b ∧ b < y2.heap.size) = z := ⟨_, rfl⟩; rw [hFF] at hout; have HFz : Hid (¬ FF bz) := Lib.hid (by rw [← hFF]; exact fun h => by have := h.1; omega); have HFn : Hid (∀ b, y2.heap.size ≤ b → ¬ FF b) := Lib.hid (fun b hb => by rw [← hFF]; exact fun h => by have := h.2; omega); have HFF : Hid (∀ b, FF b → w.heap.size ≤ b ∧ b < y2.heap.size) := Lib.hid (fun b hb => by rw [← hFF] at hb; exact ⟨Nat.le_trans hsw hb.1, hb.2⟩)
  have HONE := Lib.hid hone; have HOUT := Lib.hid hout; clear hone hout hFF hsw hbz
  replace H := H.grow hg
  clear hg
  (refine Kr.outS hK (a' := ?_) ?_ ?_; rotate_left; (focus ((try simp only [Kr.PT]); first | done | rfl))); clear hK K
  (refine Kr.seqQ (v := ?_) (a' := ?_) (by rfl) ?_ ?_ ?_; rotate_left 2; (focus (go_simp; first | done | rfl)); (focus ((try simp only [Kr.PT]); first | done | rfl)))
  (refine Kr.seqQ (v := .agg #[v0, v1, v2, v3]) (a' := ?_) (by rfl) ?_ ?_ ?_; rotate_left 1; (focus (go_simp; first | done | rfl)); (focus ((try simp only [Kr.PT]); first | done | rfl)))
  (refine Kr.seqQ (v := .slice pr nr cr) (a' := ?_) (by rfl) ?_ ?_ ?_; rotate_left 1; (focus (go_simp; first | done | rfl)); (focus ((try simp only [Kr.PT]); first | done | rfl)))
  (refine Kr.seqQ (v := .int .i64 e2) (a' := ?_) (by rfl) ?_ ?_ ?_; rotate_left 1; (focus (go_simp; first | done | rfl)); (focus ((try simp only [Kr.PT]); first | done | rfl)))
  refine Kr.seqR (by rfl) (fun K hK => ?_)
  refine wp_runV rfl newI ?_
  obtain ⟨y3, hy⟩ : ∃ y, y2.alloc (.cells ([.int .i64 0, .int .i64 0, .slice none 0 0, .slice none 0 0]).toArray 25) = y := ⟨_, rfl⟩
  obtain ⟨bi, hb⟩ : ∃ b, y2.heap.size = b := ⟨_, rfl⟩
  rw [hy, hb]
  have HGA : Hid (Gr y2 y3) := Lib.hid (hy ▸ (Gr.refl _).alloc _); have HBI : Hid (y2.heap.size ≤ bi) := Lib.hid (Nat.le_of_eq hb)
  have hg : Gr y2 y3 := hy ▸ (Gr.refl _).alloc _
  replace H := H.alloc hy hb
  clear hy hb hg
  (refine Kr.outS hK (a' := ?_) ?_ ?_; rotate_left; (focus ((try simp only [Kr.PT]); first | done | rfl))); clear hK K
  refine Kr.seqR (by rfl) (fun K hK => ?_)
  refine wp_run rfl (stI (H.at 0 rfl) HONE.out) ?_
  have hkp : ∀ z, FF z → (y3.setRow bi ([v0, v1, v2, v3] : List Value).toArray).heap[z]? = y2.heap[z]? := fun z hz => (setRow_other y3 bi z _ (by have := HBI.out; have := (HFF.out z hz).2; omega)).trans (HGA.out.block z (HFF.out z hz).2)
  have hks : y2.heap.size ≤ (y3.setRow bi ([v0, v1, v2, v3] : List Value).toArray).heap.size := Nat.le_trans HGA.out.size (Nat.le_of_eq (size_put (W := y3) (b := bi) (cs := ([v0, v1, v2, v3] : List Value).toArray)).symm)
  obtain ⟨y4, hy⟩ : ∃ y, y3.setRow bi ([v0, v1, v2, v3] : List Value).toArray = y := ⟨_, rfl⟩; rw [hy]; rw [hy] at hkp hks; have HKP := Lib.hid hkp; have HKS := Lib.hid hks; clear hkp hks
  replace H := H.put 0 hy rfl; dsimp only [List.set] at H; clear hy
  (refine Kr.outS hK (a' := ?_) ?_ ?_; rotate_left; (focus ((try simp only [Kr.PT]); first | done | rfl))); clear hK K
  (refine Kr.seqQ (v := ?_) (a' := ?_) (by rfl) ?_ ?_ ?_; rotate_left 2; (focus (go_simp; first | done | rfl)); (focus ((try simp only [Kr.PT]); first | done | rfl)))
  (refine Kr.seqQ (v := ?_) (a' := ?_) (by rfl) ?_ ?_ ?_; rotate_left 2; (focus (go_simp; first | done | rfl)); (focus ((try simp only [Kr.PT]); first | done | rfl)))
  refine Kr.seqDoneW ?_
  by_cases he : e2 = 0
  · have C4 : (!decide (e2 = 0)) = false := by rw [decide_eq_true he]; rfl
    have hcs := HOUT.out; obtain ⟨tt, m, hrd, hm, hnr, hit⟩ : ∃ tt m, rd 8 l = .ok (tt, m) ∧ m ≤ l.length ∧ nr = l.length - m ∧ ItV y2 9 FF (.agg #[v0, v1, v2, v3]) tt := by
      rcases hcs with ⟨_, t, m, _, h1, h2, _, h3, _, _, h4⟩ | ⟨h, _⟩
      · exact ⟨t, m, h1, h2, h3, h4⟩
      · exact absurd he h
    clear hcs HOUT he; rw [hl] at hm hnr; have hnr2 : m + nr = n := (by omega); clear hnr; have HRD := Lib.hid hrd; have HIT := Lib.hid (hit.kept HKP.out); clear hrd hit
    go_upto_region 4 with fail
    refine Kr.seqStartW ?_
    (refine Kr.seqQ (v := ?_) (a' := ?_) (by rfl) ?_ ?_ ?_; rotate_left 2; (focus (go_simp; first | done | rfl)); (focus ((try simp only [Kr.PT]); first | done | rfl)))
    (refine Kr.seqQ (v := .bool false) (a' := ?_) (by rfl) ?_ ?_ ?_; rotate_left 1; (focus (exact Kr.valOf rfl (neqI C4))); (focus ((try simp only [Kr.PT]); first | done | rfl)))
    refine Kr.seqDoneW ?_
    clear C4
    by_cases hz : 0 < nr
    · have C6 : decide ((0 : Int) < (nr : Int)) = true := decide_eq_true (by omega)
      go_upto_region 6 with fail
      refine Kr.seqStartW ?_
      (refine Kr.seqQ (v := ?_) (a' := ?_) (by rfl) ?_ ?_ ?_; rotate_left 2; (focus (go_simp; first | done | rfl)); (focus ((try simp only [Kr.PT]); first | done | rfl)))
      (refine Kr.seqQ (v := .int .i64 (nr : Int)) (a' := ?_) (by rfl) ?_ ?_ ?_; rotate_left 1; (focus (exact Kr.valOf rfl ((by go_simp)))); (focus ((try simp only [Kr.PT]); first | done | rfl)))
      (refine Kr.seqQ (v := .bool true) (a' := ?_) (by rfl) ?_ ?_ ?_; rotate_left 1; (focus (exact Kr.valOf rfl (gtrI C6))); (focus ((try simp only [Kr.PT]); first | done | rfl)))
      refine Kr.seqDoneW ?_
      clear C6
      go_upto_region 7 with fail
      refine Kr.seqStartW ?_
      (refine Kr.seqQ (v := .agg #[.int .i64 0, .int .i64 0, .slice none 0 0, .slice none 0 0]) (a' := ?_) (by rfl) ?_ ?_ ?_; rotate_left 1; (focus (go_simp; first | done | rfl)); (focus ((try simp only [Kr.PT]); first | done | rfl)))
      refine Kr.seqR (by rfl) (fun K hK => ?_)
      refine wp_run rfl (stI (H.at 1 rfl) one4) ?_
      obtain ⟨y6, hy⟩ : ∃ y, y4.setRow bz ([.int .i64 0, .int .i64 0, .slice none 0 0, .slice none 0 0]).toArray = y := ⟨_, rfl⟩
      rw [hy]
      replace H := H.put 1 hy rfl
      dsimp only [List.set] at H
      clear hy
      (refine Kr.outS hK (a' := ?_) ?_ ?_; rotate_left; (focus ((try simp only [Kr.PT]); first | done | rfl))); clear hK K
      (refine Kr.seqQ (v := ?_) (a' := ?_) (by rfl) ?_ ?_ ?_; rotate_left 2; (focus (go_simp; first | done | rfl)); (focus ((try simp only [Kr.PT]); first | done | rfl)))
      refine Kr.seqDoneW ?_
      go_wp2
      refine bodyPost_ret (v := .tuple #[.agg #[.int .i64 0, .int .i64 0, .slice none 0 0, .slice none 0 0], .int .i64 3]) (results_row_tmp rfl _ _ bz 25 _ _ _ (by rfl) (H.at 1 rfl) Tryd.underlying25 rfl (show _ = some 4 from infoI) (by rfl)) rfl ⟨.int .i64 0, .int .i64 0, .slice none 0 0, .slice none 0 0, 3, rfl, H.g, one4, .inr ⟨by decide, rfl, rfl, rfl, rfl, by rw [if_neg (by omega), HRD.out]; exact ⟨by omega, rfl⟩⟩⟩
    have C6 : decide ((0 : Int) < (nr : Int)) = false := decide_eq_false (by omega)
    go_upto_region 6 with fail
    refine Kr.seqStartW ?_
    (refine Kr.seqQ (v := ?_) (a' := ?_) (by rfl) ?_ ?_ ?_; rotate_left 2; (focus (go_simp; first | done | rfl)); (focus ((try simp only [Kr.PT]); first | done | rfl)))
    (refine Kr.seqQ (v := .int .i64 (nr : Int)) (a' := ?_) (by rfl) ?_ ?_ ?_; rotate_left 1; (focus (exact Kr.valOf rfl ((by go_simp)))); (focus ((try simp only [Kr.PT]); first | done | rfl)))
    (refine Kr.seqQ (v := .bool false) (a' := ?_) (by rfl) ?_ ?_ ?_; rotate_left 1; (focus (exact Kr.valOf rfl (gtrI C6))); (focus ((try simp only [Kr.PT]); first | done | rfl)))
    refine Kr.seqDoneW ?_
    clear C6
    go_upto_region 8 with fail
    refine Kr.seqStartW ?_
    (refine Kr.seqQ (v := .agg #[v0, v1, v2, v3]) (a' := ?_) (by rfl) ?_ ?_ ?_; rotate_left 1; (focus (exact Kr.valOf rfl (ldI (H.at 0 rfl)))); (focus ((try simp only [Kr.PT]); first | done | rfl)))
    refine Kr.seqR (by rfl) (fun K hK => ?_)
    refine wp_run rfl (stI (H.at 1 rfl) HONE.out) ?_
    have hkp := HIT.out.kept (same_put (W := y4) (b := bz) (cs := ([v0, v1, v2, v3] : List Value).toArray) HFz.out); have hsz := Nat.le_of_eq (size_put (W := y4) (b := bz) (cs := ([v0, v1, v2, v3] : List Value).toArray)).symm
    obtain ⟨y7, hy⟩ : ∃ y, y4.setRow bz ([v0, v1, v2, v3] : List Value).toArray = y := ⟨_, rfl⟩; rw [hy]; rw [hy] at hkp hsz; have HIT2 := Lib.hid (hkp.mono (G := fun bb => w.heap.size ≤ bb ∧ bb < y7.heap.size) (fun bb hb => ⟨(HFF.out bb hb).1, by have h1 := (HFF.out bb hb).2; have h2 := HKS.out; omega⟩)); clear hkp hsz HIT
    replace H := H.put 1 hy rfl; dsimp only [List.set] at H; clear hy
    (refine Kr.outS hK (a' := ?_) ?_ ?_; rotate_left; (focus ((try simp only [Kr.PT]); first | done | rfl))); clear hK K
    (refine Kr.seqQ (v := ?_) (a' := ?_) (by rfl) ?_ ?_ ?_; rotate_left 2; (focus (go_simp; first | done | rfl)); (focus ((try simp only [Kr.PT]); first | done | rfl)))
    refine Kr.seqDoneW ?_
    go_wp2
    refine bodyPost_ret (v := .tuple #[.agg #[v0, v1, v2, v3], .int .i64 0]) (results_row_tmp rfl _ _ bz 25 _ _ _ (by rfl) (H.at 1 rfl) Tryd.underlying25 rfl (show _ = some 4 from infoI) (by rfl)) rfl ⟨v0, v1, v2, v3, 0, rfl, H.g, HONE.out, .inl ⟨rfl, tt, by omega, (by rw [HRD.out, show l.length = m by omega]), HIT2.out⟩⟩
  · have HER : Hid (rd 8 l = .error e2) := Lib.hid (by
      rcases HOUT.out with ⟨h0, _⟩ | ⟨_, h1, _⟩
      · exact absurd h0 he
      · exact h1)
    have C4 : (!decide (e2 = 0)) = true := by rw [decide_eq_false he]; rfl
    go_upto_region 4 with fail
    refine Kr.seqStartW ?_
    (refine Kr.seqQ (v := ?_) (a' := ?_) (by rfl) ?_ ?_ ?_; rotate_left 2; (focus (go_simp; first | done | rfl)); (focus ((try simp only [Kr.PT]); first | done | rfl)))
    (refine Kr.seqQ (v := .bool true) (a' := ?_) (by rfl) ?_ ?_ ?_; rotate_left 1; (focus (exact Kr.valOf rfl (neqI C4))); (focus ((try simp only [Kr.PT]); first | done | rfl)))
    refine Kr.seqDoneW ?_
    clear C4
    go_upto_region 5 with fail
    refine Kr.seqStartW ?_
    (refine Kr.seqQ (v := .agg #[.int .i64 0, .int .i64 0, .slice none 0 0, .slice none 0 0]) (a' := ?_) (by rfl) ?_ ?_ ?_; rotate_left 1; (focus (go_simp; first | done | rfl)); (focus ((try simp only [Kr.PT]); first | done | rfl)))
    (refine Kr.seqQ (v := ?_) (a' := ?_) (by rfl) ?_ ?_ ?_; rotate_left 2; (focus (go_simp; first | done | rfl)); (focus ((try simp only [Kr.PT]); first | done | rfl)))
    refine Kr.seqR (by rfl) (fun K hK => ?_)
    refine wp_run rfl (stI (H.at 1 rfl) one4) ?_
    obtain ⟨y5, hy⟩ : ∃ y, y4.setRow bz ([.int .i64 0, .int .i64 0, .slice none 0 0, .slice none 0 0]).toArray = y := ⟨_, rfl⟩
    rw [hy]
    replace H := H.put 1 hy rfl
    dsimp only [List.set] at H
    clear hy
    (refine Kr.outS hK (a' := ?_) ?_ ?_; rotate_left; (focus ((try simp only [Kr.PT]); first | done | rfl))); clear hK K
    (refine Kr.seqQ (v := ?_) (a' := ?_) (by rfl) ?_ ?_ ?_; rotate_left 2; (focus (go_simp; first | done | rfl)); (focus ((try simp only [Kr.PT]); first | done | rfl)))
    refine Kr.seqDoneW ?_
    go_wp2
    refine bodyPost_ret (v := .tuple #[.agg #[.int .i64 0, .int .i64 0, .slice none 0 0, .slice none 0 0], .int .i64 e2]) (results_row_tmp rfl _ _ bz 25 _ _ _ (by rfl) (H.at 1 rfl) Tryd.underlying25 rfl (show _ = some 4 from infoI) (by rfl)) rfl ⟨.int .i64 0, .int .i64 0, .slice none 0 0, .slice none 0 0, e2, rfl, H.g, one4, .inr ⟨he, rfl, rfl, rfl, rfl, by rw [if_neg (by omega), HER.out]⟩⟩
theorem rDecode_v {w : World} {n c : Nat} {p : Option Addr} {l : List (BitVec 8)} (hS : SrcB p l w) (hl : l.length = n) (hc : n ≤ c) :
    Calls Tryd.prog 18 #[.slice p n c] w fun o w' => DecP w l o w' := by
  rcases Nat.lt_or_ge 16384 n with h | h
  · exact rDecode_big hl h
  rcases Nat.eq_zero_or_pos n with h0 | h0
  · exact rDecode_low (b := 0) (fun W _ => read_nil h0 (List.eq_nil_of_length_eq_zero (hl.trans h0))) hl h
  obtain ⟨b, off, rfl, _⟩ := src_some hS (by omega)
  exact rDecode_low (b := b) (fun W g => read_v 8 (wi := 0) rfl (hS.grow g) hl (by omega) hc) hl h
/-- What is known of an item that was decoded. -/
def DecV (W : World) (F : Nat → Prop) (l : List (BitVec 8)) (v0 v1 v2 v3 : Value) (e : Int) : Prop :=
  (e = 0 ∧ ∃ t, rd 8 l = .ok (t, l.length) ∧ ItV W 9 F (.agg #[v0, v1, v2, v3]) t ∧ l.length ≤ 16384) ∨
  (e ≠ 0 ∧ v0 = .int .i64 0 ∧ v1 = .int .i64 0 ∧ v2 = .slice none 0 0 ∧ v3 = .slice none 0 0 ∧ (if 16384 < l.length then e = 5 else match rd 8 l with | .error c => e = c | .ok (_, m) => m < l.length ∧ e = 3))
theorem DecV.kept {W W' : World} {F : Nat → Prop} {l : List (BitVec 8)} {v0 v1 v2 v3 : Value} {e : Int} (h : DecV W F l v0 v1 v2 v3 e) (g : ∀ b, F b → W'.heap[b]? = W.heap[b]?) : DecV W' F l v0 v1 v2 v3 e :=
  h.imp (fun ⟨h1, t, h2, h3, h4⟩ => ⟨h1, t, h2, h3.kept g, h4⟩) id
theorem itv_zero {W : World} {d : Nat} {F : Nat → Prop} : ItV W (d + 1) F (.agg #[.int .i64 0, .int .i64 0, .slice none 0 0, .slice none 0 0]) (.mk 0 0 [] []) :=
  ⟨none, 0, none, 0, rfl, ⟨by show (-9223372036854775808 : Int) ≤ 0; decide, by show (0 : Int) < 9223372036854775808; decide⟩, ⟨by show (-9223372036854775808 : Int) ≤ 0; decide, by show (0 : Int) < 9223372036854775808; decide⟩, fun _ => rfl, Nat.le_refl _, Nat.zero_le _, Nat.zero_le _, .inl rfl, fun j x hx => by simp [It.l] at hx⟩
theorem DecV.same {W : World} {F F2 : Nat → Prop} {l : List (BitVec 8)} {v0 v1 v2 v3 u0 u1 u2 u3 : Value} {e e2 : Int} (h : DecV W F l v0 v1 v2 v3 e) (k : DecV W F2 l u0 u1 u2 u3 e2) : e = e2 ∧ ∃ t, ItV W 9 F (.agg #[v0, v1, v2, v3]) t ∧ ItV W 9 F2 (.agg #[u0, u1, u2, u3]) t := by
  rcases h with ⟨rfl, t, h1, h2, h3⟩ | ⟨h0, rfl, rfl, rfl, rfl, h1⟩ <;> rcases k with ⟨rfl, t2, k1, k2, k3⟩ | ⟨k0, rfl, rfl, rfl, rfl, k1⟩
  · rw [h1] at k1
    cases k1
    exact ⟨rfl, t, h2, k2⟩
  · rw [if_neg (by omega), h1] at k1
    exact absurd k1.1 (Nat.lt_irrefl _)
  · rw [if_neg (by omega), k1] at h1
    exact absurd h1.1 (Nat.lt_irrefl _)
  · refine ⟨?_, _, itv_zero, itv_zero⟩
    by_cases hl : 16384 < l.length
    · rw [if_pos hl] at h1 k1; rw [h1, k1]
    · rw [if_neg hl] at h1 k1
      cases hr : rd 8 l with
      | error c => rw [hr] at h1 k1; exact Eq.trans h1 (Eq.symm k1)
      | ok x => rw [hr] at h1 k1; exact h1.2.trans k1.2.symm

end Go.Proofs.YtlollhmheakcfaaDoor.Dg
