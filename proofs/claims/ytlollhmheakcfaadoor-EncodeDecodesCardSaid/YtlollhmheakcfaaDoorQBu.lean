/- EncodeOwn. -/
import Derived.Test.YtlollhmheakcfaaDoorQBt
import Derived.Deep.Cut
namespace Go.Proofs.YtlollhmheakcfaaDoor.Dg
open Go Go.RowKit Go.Proofs.YtlollhmheakcfaaDoor.Ne Go.Proofs.YtlollhmheakcfaaDoor.Kr

set_option linter.unusedSimpArgs false in
set_option maxRecDepth 100000 in
set_option maxHeartbeats 16000000 in
theorem own_ok {w : World} {p : Option Addr} {n c : Nat} {l : List (BitVec 8)} {t : It} (hS : SrcB p l w) (hl : l.length = n) (hp : p = none → n = 0) (hn : n ≤ 3000) (h0 : 0 < n) (hok : rd 8 l = .ok (t, n)) (hvl : vld 8 t = true) (hel : enc 8 t = l) (hT : Tab w) :
    Calls Tryd.prog 9 #[.slice p n c] w fun e w' => e = .returned (.bool true) ∧ Gr w w' := by
  have HTAB := Lib.hid hT; clear hT
  have HS := Lib.hid hS; clear hS
  have H := Ow.start w
  go_enter Tryd.func9, Tryd.ntmps9
  go_upto_region 0 with fail
  refine Kr.seqStartW ?_
  (refine Kr.seqQ (v := ?_) (a' := ?_) (by rfl) ?_ ?_ ?_; rotate_left 2; (focus (go_simp; first | done | rfl)); (focus ((try simp only [Kr.PT]); first | done | rfl)))
  refine Kr.seqDoneW ?_
  have C1 : decide ((3000 : Int) < (n : Int)) = false := decide_eq_false (by omega)
  go_upto_region 1 with fail
  refine Kr.seqStartW ?_
  refine Kr.seqR (by rfl) (fun K hK => ?_)
  go_simp
  go_at_call 10
  refine (awake_v (HTAB.out.grow H.g)).mono ?_
  rintro e y1 ⟨rfl, hg⟩
  replace H := H.grow hg
  clear hg
  (refine Kr.outS hK (a' := ?_) ?_ ?_; rotate_left; (focus ((try simp only [Kr.PT]); first | done | rfl))); clear hK K
  (refine Kr.seqQ (v := ?_) (a' := ?_) (by rfl) ?_ ?_ ?_; rotate_left 2; (focus (go_simp; first | done | rfl)); (focus ((try simp only [Kr.PT]); first | done | rfl)))
  (refine Kr.seqQ (v := ?_) (a' := ?_) (by rfl) ?_ ?_ ?_; rotate_left 2; (focus (go_simp; first | done | rfl)); (focus ((try simp only [Kr.PT]); first | done | rfl)))
  (refine Kr.seqQ (v := ?_) (a' := ?_) (by rfl) ?_ ?_ ?_; rotate_left 2; (focus (go_simp; first | done | rfl)); (focus ((try simp only [Kr.PT]); first | done | rfl)))
  (refine Kr.seqQ (v := .int .i64 (n : Int)) (a' := ?_) (by rfl) ?_ ?_ ?_; rotate_left 1; (focus (exact Kr.valOf rfl ((by go_simp)))); (focus ((try simp only [Kr.PT]); first | done | rfl)))
  (refine Kr.seqQ (v := .bool false) (a' := ?_) (by rfl) ?_ ?_ ?_; rotate_left 1; (focus (exact Kr.valOf rfl (gtrI C1))); (focus ((try simp only [Kr.PT]); first | done | rfl)))
  (refine Kr.seqQ (v := ?_) (a' := ?_) (by rfl) ?_ ?_ ?_; rotate_left 2; (focus (go_simp; first | done | rfl)); (focus ((try simp only [Kr.PT]); first | done | rfl)))
  refine Kr.seqDoneW ?_
  go_upto_region 3 with fail
  refine Kr.seqStartW ?_
  (refine Kr.seqQ (v := ?_) (a' := ?_) (by rfl) ?_ ?_ ?_; rotate_left 2; (focus (go_simp; first | done | rfl)); (focus ((try simp only [Kr.PT]); first | done | rfl)))
  refine Kr.seqR (by rfl) (fun K hK => ?_)
  go_simp
  go_at_call 33
  refine (BClone_v (c := c) (HS.out.grow H.g) hl (by omega) hp).mono ?_
  rintro e y2 ⟨q, cq, rfl, hR, hg⟩
  obtain ⟨go, co, curo, hvo, hco, hge, hh, htk⟩ := rowG_own hR (by rw [List.length_map]; omega); rw [List.length_map, hl] at hvo hco htk; cases hvo; have HTO := Lib.hid htk; clear htk hR
  replace H := H.made hg hge hh; clear hg hge hh
  (refine Kr.outS hK (a' := ?_) ?_ ?_; rotate_left; (focus ((try simp only [Kr.PT]); first | done | rfl))); clear hK K
  (refine Kr.seqQ (v := ?_) (a' := ?_) (by rfl) ?_ ?_ ?_; rotate_left 2; (focus (go_simp; first | done | rfl)); (focus ((try simp only [Kr.PT]); first | done | rfl)))
  refine Kr.seqDoneW ?_
  go_upto_region 4 with fail
  refine Kr.seqStartW ?_
  (refine Kr.seqQ (v := ?_) (a' := ?_) (by rfl) ?_ ?_ ?_; rotate_left 2; (focus (go_simp; first | done | rfl)); (focus ((try simp only [Kr.PT]); first | done | rfl)))
  refine Kr.seqR (by rfl) (fun K hK => ?_)
  go_simp
  go_at_call 17
  have hgo : go < y2.heap.size := lt_of_heap (H.at 0 rfl)
  refine (Decode_v (w := y2) (l := l) (c := cq) (.inr ⟨go, 0, rfl, bytes_drop (a := 0) (H.at 0 rfl) HTO.out hl⟩) hl hco).mono ?_
  rintro e y3 hdec; obtain ⟨v0, v1, v2, v3, er, rfl, hg, hone, hcs⟩ := hdec
  have hq : er = 0 ∧ ItV y3 9 (fun b => y2.heap.size ≤ b ∧ b < y3.heap.size) (.agg #[v0, v1, v2, v3]) t := by
    rcases hcs with ⟨h0, t2, _, h, hi⟩ | ⟨_, _, _, _, _, h⟩
    · rw [hok, hl] at h; cases h; exact ⟨h0, hi⟩
    · rw [if_neg (by omega), hok] at h; have := h.1; omega
  obtain ⟨rfl, hit⟩ := hq; obtain ⟨FF, hFF⟩ : ∃ z : Nat → Prop, (fun b => y2.heap.size ≤ b ∧ b < y3.heap.size) = z := ⟨_, rfl⟩; rw [hFF] at hit
  have HFo : Hid (¬ FF go) := Lib.hid (by rw [← hFF]; exact fun h => by have := h.1; omega)
  have HFn : Hid (∀ b, y3.heap.size ≤ b → ¬ FF b) := Lib.hid (fun b hb => by rw [← hFF]; exact fun h => by have := h.2; omega)
  have HIT := Lib.hid hit; have HONE := Lib.hid hone; clear hit hone hcs hFF hgo
  replace H := H.grow hg
  have HSZ := Lib.hid (Nat.le_refl y3.heap.size); clear hg
  (refine Kr.outS hK (a' := ?_) ?_ ?_; rotate_left; (focus ((try simp only [Kr.PT]); first | done | rfl))); clear hK K
  (refine Kr.seqQ (v := ?_) (a' := ?_) (by rfl) ?_ ?_ ?_; rotate_left 2; (focus (go_simp; first | done | rfl)); (focus ((try simp only [Kr.PT]); first | done | rfl)))
  (refine Kr.seqQ (v := .agg #[v0, v1, v2, v3]) (a' := ?_) (by rfl) ?_ ?_ ?_; rotate_left 1; (focus (go_simp; first | done | rfl)); (focus ((try simp only [Kr.PT]); first | done | rfl)))
  (refine Kr.seqQ (v := .int .i64 0) (a' := ?_) (by rfl) ?_ ?_ ?_; rotate_left 1; (focus (go_simp; first | done | rfl)); (focus ((try simp only [Kr.PT]); first | done | rfl)))
  refine Kr.seqR (by rfl) (fun K hK => ?_)
  refine wp_runV rfl newI ?_
  obtain ⟨y4, hy⟩ : ∃ y, y3.alloc (.cells ([.int .i64 0, .int .i64 0, .slice none 0 0, .slice none 0 0]).toArray 25) = y := ⟨_, rfl⟩
  obtain ⟨bi, hb⟩ : ∃ b, y3.heap.size = b := ⟨_, rfl⟩
  rw [hy, hb]
  have HFi : Hid (¬ FF bi) := Lib.hid (HFn.out _ (by have := HSZ.out; omega))
  have HSZ2 := Lib.hid (Nat.le_trans HSZ.out ((hy ▸ (Gr.refl _).alloc _ : Gr y3 y4).size))
  have hg : Gr y3 y4 := hy ▸ (Gr.refl _).alloc _
  replace H := H.alloc hy hb
  replace HIT := Lib.hid (HIT.out.grow hg)
  clear hy hb hg
  replace HSZ := HSZ2; clear HSZ2
  (refine Kr.outS hK (a' := ?_) ?_ ?_; rotate_left; (focus ((try simp only [Kr.PT]); first | done | rfl))); clear hK K
  refine Kr.seqR (by rfl) (fun K hK => ?_)
  refine wp_run rfl (stI (H.at 0 rfl) HONE.out) ?_
  have hkp := HIT.out.kept (same_put (W := y4) (b := bi) (cs := ([v0, v1, v2, v3] : List Value).toArray) HFi.out); have hsz := Nat.le_trans HSZ.out (Nat.le_of_eq (size_put (W := y4) (b := bi) (cs := ([v0, v1, v2, v3] : List Value).toArray)).symm)
  obtain ⟨y5, hy⟩ : ∃ y, y4.setRow bi ([v0, v1, v2, v3] : List Value).toArray = y := ⟨_, rfl⟩; rw [hy]; rw [hy] at hkp hsz; replace HIT := Lib.hid hkp; replace HSZ := Lib.hid hsz; clear hkp hsz
  replace H := H.put 0 hy rfl; dsimp only [List.set] at H; clear hy
  (refine Kr.outS hK (a' := ?_) ?_ ?_; rotate_left; (focus ((try simp only [Kr.PT]); first | done | rfl))); clear hK K
  (refine Kr.seqQ (v := ?_) (a' := ?_) (by rfl) ?_ ?_ ?_; rotate_left 2; (focus (go_simp; first | done | rfl)); (focus ((try simp only [Kr.PT]); first | done | rfl)))
  refine Kr.seqDoneW ?_
  have C2 : (!decide ((0 : Int) = 0)) = false := rfl
  go_upto_region 5 with fail
  refine Kr.seqStartW ?_
  (refine Kr.seqQ (v := ?_) (a' := ?_) (by rfl) ?_ ?_ ?_; rotate_left 2; (focus (go_simp; first | done | rfl)); (focus ((try simp only [Kr.PT]); first | done | rfl)))
  (refine Kr.seqQ (v := .bool false) (a' := ?_) (by rfl) ?_ ?_ ?_; rotate_left 1; (focus (exact Kr.valOf rfl (neqI C2))); (focus ((try simp only [Kr.PT]); first | done | rfl)))
  refine Kr.seqDoneW ?_
  go_upto_region 7 with fail
  refine Kr.seqStartW ?_
  (refine Kr.seqQ (v := .agg #[v0, v1, v2, v3]) (a' := ?_) (by rfl) ?_ ?_ ?_; rotate_left 1; (focus (exact Kr.valOf rfl (ldI (H.at 0 rfl)))); (focus ((try simp only [Kr.PT]); first | done | rfl)))
  refine Kr.seqR (by rfl) (fun K hK => ?_)
  go_simp
  go_at_call 12
  have hP := Encode_ok (w := y5) HIT.out hvl (by rw [hel, hl]; omega); rw [hel, hl] at hP
  refine hP.mono ?_; clear hP
  rintro e y6 ⟨p2, c2, rfl, hR, hg⟩
  obtain ⟨gx, cx, curx, hvx, hcx, hge, hh, htk⟩ := rowG_own hR (by rw [List.length_map]; omega); rw [List.length_map, hl] at hvx hcx htk; cases hvx; have HTX := Lib.hid htk; clear htk hR
  have HFx : Hid (¬ FF gx) := Lib.hid (HFn.out _ (by have := HSZ.out; omega)); replace HIT := Lib.hid (HIT.out.grow hg); clear HSZ
  replace H := H.made hg hge hh; clear hg hge hh
  (refine Kr.outS hK (a' := ?_) ?_ ?_; rotate_left; (focus ((try simp only [Kr.PT]); first | done | rfl))); clear hK K
  (refine Kr.seqQ (v := ?_) (a' := ?_) (by rfl) ?_ ?_ ?_; rotate_left 2; (focus (go_simp; first | done | rfl)); (focus ((try simp only [Kr.PT]); first | done | rfl)))
  (refine Kr.seqQ (v := .slice (some ⟨gx, 0, none⟩) n c2) (a' := ?_) (by rfl) ?_ ?_ ?_; rotate_left 1; (focus (go_simp; first | done | rfl)); (focus ((try simp only [Kr.PT]); first | done | rfl)))
  (refine Kr.seqQ (v := .int .i64 0) (a' := ?_) (by rfl) ?_ ?_ ?_; rotate_left 1; (focus (go_simp; first | done | rfl)); (focus ((try simp only [Kr.PT]); first | done | rfl)))
  (refine Kr.seqQ (v := ?_) (a' := ?_) (by rfl) ?_ ?_ ?_; rotate_left 2; (focus (go_simp; first | done | rfl)); (focus ((try simp only [Kr.PT]); first | done | rfl)))
  (refine Kr.seqQ (v := ?_) (a' := ?_) (by rfl) ?_ ?_ ?_; rotate_left 2; (focus (go_simp; first | done | rfl)); (focus ((try simp only [Kr.PT]); first | done | rfl)))
  refine Kr.seqDoneW ?_
  go_upto_region 8 with fail
  refine Kr.seqStartW ?_
  (refine Kr.seqQ (v := ?_) (a' := ?_) (by rfl) ?_ ?_ ?_; rotate_left 2; (focus (go_simp; first | done | rfl)); (focus ((try simp only [Kr.PT]); first | done | rfl)))
  (refine Kr.seqQ (v := .bool false) (a' := ?_) (by rfl) ?_ ?_ ?_; rotate_left 1; (focus (exact Kr.valOf rfl (neqI C2))); (focus ((try simp only [Kr.PT]); first | done | rfl)))
  refine Kr.seqDoneW ?_
  have HTM : Hid (∀ m : List (BitVec 8), m.length = n → True) := Lib.hid (fun _ _ => trivial); clear HTM
  go_upto_region 10 with fail
  refine Kr.seqStartW ?_
  (refine Kr.seqQ (v := ?_) (a' := ?_) (by rfl) ?_ ?_ ?_; rotate_left 2; (focus (go_simp; first | done | rfl)); (focus ((try simp only [Kr.PT]); first | done | rfl)))
  (refine Kr.seqQ (v := .int .i64 (n : Int)) (a' := ?_) (by rfl) ?_ ?_ ?_; rotate_left 1; (focus (exact Kr.valOf rfl ((by go_simp)))); (focus ((try simp only [Kr.PT]); first | done | rfl)))
  (refine Kr.seqQ (v := ?_) (a' := ?_) (by rfl) ?_ ?_ ?_; rotate_left 2; (focus (go_simp; first | done | rfl)); (focus ((try simp only [Kr.PT]); first | done | rfl)))
  refine Kr.seqDoneW ?_
  have hm0 : ∃ m : List (BitVec 8), m.length = n ∧ curx.take n = m.map w8 := ⟨l, hl, HTX.out⟩; have HM0 := Lib.hid hm0; clear hm0
  have H2 := Lib.hid H; clear H
  go_wp2_with fail
  go_loopw [41] (fun iv wr => ∃ (j : Nat) (cur9 : List Value), j ≤ n ∧ iv = .int .i64 (j : Int) ∧ Hid (∃ m : List (BitVec 8), m.length = n ∧ cur9.take n = m.map w8) ∧ Hid (ItV wr 9 FF (.agg #[v0, v1, v2, v3]) t) ∧ Hid (Ow w wr [(gx, 5, cur9), (bi, 25, [v0, v1, v2, v3]), (go, 5, curo)])) (fun iv _ => (n - (intOf iv).toNat))
  case atStart => exact ⟨0, curx, by omega, rfl, HM0, HIT, H2⟩
  case round =>
    clear H2 HM0 HIT; obtain ⟨j, cur9, hj, rfl, HM, HIT, HH⟩ := hrel; have H := HH.out; clear HH
    by_cases hje : j = n
    · have C3 : decide ((j : Int) < (n : Int)) = false := decide_eq_false (by omega)
      clear hje
      go_upto_region 11 with fail
      refine Kr.seqStartW ?_
      (refine Kr.seqQ (v := .bool false) (a' := ?_) (by rfl) ?_ ?_ ?_; rotate_left 1; (focus (exact Kr.valOf rfl (lssT C3))); (focus ((try simp only [Kr.PT]); first | done | rfl)))
      refine Kr.seqDoneW ?_
      obtain ⟨curxz, hcz⟩ : ∃ z, cur9 = z := ⟨_, rfl⟩; rw [hcz] at H; clear hcz HM C3
      go_upto_region 15 with fail
      refine Kr.seqStartW ?_
      (refine Kr.seqQ (v := ?_) (a' := ?_) (by rfl) ?_ ?_ ?_; rotate_left 2; (focus (go_simp; first | done | rfl)); (focus ((try simp only [Kr.PT]); first | done | rfl)))
      (refine Kr.seqQ (v := .int .i64 (n : Int)) (a' := ?_) (by rfl) ?_ ?_ ?_; rotate_left 1; (focus (exact Kr.valOf rfl ((by go_simp)))); (focus ((try simp only [Kr.PT]); first | done | rfl)))
      (refine Kr.seqQ (v := ?_) (a' := ?_) (by rfl) ?_ ?_ ?_; rotate_left 2; (focus (go_simp; first | done | rfl)); (focus ((try simp only [Kr.PT]); first | done | rfl)))
      refine Kr.seqDoneW ?_
      have hm0 : ∃ m : List (BitVec 8), m.length = n ∧ curo.take n = m.map w8 := ⟨l, hl, HTO.out⟩; have HM0 := Lib.hid hm0; clear hm0
      have H2 := Lib.hid H; clear H
      go_wp2_with fail
      go_loopw [53] (fun iv wr => ∃ (j : Nat) (cur9 : List Value), j ≤ n ∧ iv = .int .i64 (j : Int) ∧ Hid (∃ m : List (BitVec 8), m.length = n ∧ cur9.take n = m.map w8) ∧ Hid (ItV wr 9 FF (.agg #[v0, v1, v2, v3]) t) ∧ Hid (Ow w wr [(gx, 5, curxz), (bi, 25, [v0, v1, v2, v3]), (go, 5, cur9)])) (fun iv _ => (n - (intOf iv).toNat))
      case atStart => exact ⟨0, curo, by omega, rfl, HM0, HIT, H2⟩
      case round =>
        clear H2 HM0 HIT; obtain ⟨j, cur9, hj, rfl, HM, HIT, HH⟩ := hrel; have H := HH.out; clear HH
        by_cases hje : j = n
        · have C3 : decide ((j : Int) < (n : Int)) = false := decide_eq_false (by omega)
          clear hje
          go_upto_region 16 with fail
          refine Kr.seqStartW ?_
          (refine Kr.seqQ (v := .bool false) (a' := ?_) (by rfl) ?_ ?_ ?_; rotate_left 1; (focus (exact Kr.valOf rfl (lssT C3))); (focus ((try simp only [Kr.PT]); first | done | rfl)))
          refine Kr.seqDoneW ?_
          obtain ⟨curoz, hcz⟩ : ∃ z, cur9 = z := ⟨_, rfl⟩; rw [hcz] at H; clear hcz HM C3
          go_upto_region 20 with fail
          refine Kr.seqStartW ?_
          (refine Kr.seqQ (v := .agg #[v0, v1, v2, v3]) (a' := ?_) (by rfl) ?_ ?_ ?_; rotate_left 1; (focus (exact Kr.valOf rfl (ldI (H.at 1 rfl)))); (focus ((try simp only [Kr.PT]); first | done | rfl)))
          refine Kr.seqR (by rfl) (fun K hK => ?_)
          go_simp
          go_at_call 12
          have hP := Encode_ok (w := wr) HIT.out hvl (by rw [hel, hl]; omega); rw [hel, hl] at hP
          refine hP.mono ?_; clear hP
          rintro e y7 ⟨p3, c3, rfl, hR, hg⟩
          have HY := Lib.hid (srcB_ofRow hR hl); clear hR
          replace H := H.grow hg
          clear hg
          (refine Kr.outS hK (a' := ?_) ?_ ?_; rotate_left; (focus ((try simp only [Kr.PT]); first | done | rfl))); clear hK K
          (refine Kr.seqQ (v := ?_) (a' := ?_) (by rfl) ?_ ?_ ?_; rotate_left 2; (focus (go_simp; first | done | rfl)); (focus ((try simp only [Kr.PT]); first | done | rfl)))
          (refine Kr.seqQ (v := .slice p3 n c3) (a' := ?_) (by rfl) ?_ ?_ ?_; rotate_left 1; (focus (go_simp; first | done | rfl)); (focus ((try simp only [Kr.PT]); first | done | rfl)))
          (refine Kr.seqQ (v := .int .i64 0) (a' := ?_) (by rfl) ?_ ?_ ?_; rotate_left 1; (focus (go_simp; first | done | rfl)); (focus ((try simp only [Kr.PT]); first | done | rfl)))
          (refine Kr.seqQ (v := ?_) (a' := ?_) (by rfl) ?_ ?_ ?_; rotate_left 2; (focus (go_simp; first | done | rfl)); (focus ((try simp only [Kr.PT]); first | done | rfl)))
          (refine Kr.seqQ (v := ?_) (a' := ?_) (by rfl) ?_ ?_ ?_; rotate_left 2; (focus (go_simp; first | done | rfl)); (focus ((try simp only [Kr.PT]); first | done | rfl)))
          refine Kr.seqDoneW ?_
          go_upto_region 21 with fail
          refine Kr.seqStartW ?_
          (refine Kr.seqQ (v := ?_) (a' := ?_) (by rfl) ?_ ?_ ?_; rotate_left 2; (focus (go_simp; first | done | rfl)); (focus ((try simp only [Kr.PT]); first | done | rfl)))
          (refine Kr.seqQ (v := ?_) (a' := ?_) (by rfl) ?_ ?_ ?_; rotate_left 2; (focus (go_simp; first | done | rfl)); (focus ((try simp only [Kr.PT]); first | done | rfl)))
          (refine Kr.seqQ (v := ?_) (a' := ?_) (by rfl) ?_ ?_ ?_; rotate_left 2; (focus (go_simp; first | done | rfl)); (focus ((try simp only [Kr.PT]); first | done | rfl)))
          (refine Kr.seqQ (v := ?_) (a' := ?_) (by rfl) ?_ ?_ ?_; rotate_left 2; (focus (go_simp; first | done | rfl)); (focus ((try simp only [Kr.PT]); first | done | rfl)))
          (refine Kr.seqQ (v := ?_) (a' := ?_) (by rfl) ?_ ?_ ?_; rotate_left 2; (focus (go_simp; first | done | rfl)); (focus ((try simp only [Kr.PT]); first | done | rfl)))
          refine Kr.seqR (by rfl) (fun K hK => ?_)
          go_simp
          go_at_call 16
          have hP := Equal_v (w := y7) (c := c3) (d := c) (b := true) HY.out hl (HS.out.grow H.g) hl (decide_eq_true rfl)
          refine hP.mono ?_
          rintro e w9 ⟨rfl, hw⟩
          rw [hw]
          clear hw w9 hP
          (refine Kr.outS hK (a' := ?_) ?_ ?_; rotate_left; (focus ((try simp only [Kr.PT]); first | done | rfl))); clear hK K
          (refine Kr.seqQ (v := ?_) (a' := ?_) (by rfl) ?_ ?_ ?_; rotate_left 2; (focus (go_simp; first | done | rfl)); (focus ((try simp only [Kr.PT]); first | done | rfl)))
          (refine Kr.seqQ (v := ?_) (a' := ?_) (by rfl) ?_ ?_ ?_; rotate_left 2; (focus (go_simp; first | done | rfl)); (focus ((try simp only [Kr.PT]); first | done | rfl)))
          refine Kr.seqDoneW ?_
          have hk := trivial
          go_wp2
          refine bodyPost_ret (v := .bool true) (by simp [results, Tryd.results9, go_sem, hk]) rfl ⟨rfl, H.g⟩
        · have hjl : j < n := by omega
          have C3 : decide ((j : Int) < (n : Int)) = true := decide_eq_true (by omega)
          obtain ⟨m, hml, hmt⟩ := HM.out; obtain ⟨x0, hx0⟩ : ∃ x, m[j]? = some x := ⟨_, List.getElem?_eq_getElem (by omega)⟩; obtain ⟨z0, hz0⟩ : ∃ z, x0 ^^^ 255#8 = z := ⟨_, rfl⟩
          have HCI := Lib.hid (cur_get hmt hjl hx0); have HM2 : Hid (∃ m2 : List (BitVec 8), m2.length = n ∧ (cur9.set j (.int .u8 (z0.toNat : Int))).take n = m2.map w8) := Lib.hid ⟨m.set j z0, by rw [List.length_set]; exact hml, take_set8 hmt⟩; clear hx0 hmt hml hje
          go_upto_region 16 with fail
          refine Kr.seqStartW ?_
          (refine Kr.seqQ (v := .bool true) (a' := ?_) (by rfl) ?_ ?_ ?_; rotate_left 1; (focus (exact Kr.valOf rfl (lssT C3))); (focus ((try simp only [Kr.PT]); first | done | rfl)))
          refine Kr.seqDoneW ?_
          go_upto_region 17 with fail
          refine Kr.seqStartW ?_
          (refine Kr.seqQ (v := ?_) (a' := ?_) (by rfl) ?_ ?_ ?_; rotate_left 2; (focus (go_simp; first | done | rfl)); (focus ((try simp only [Kr.PT]); first | done | rfl)))
          (refine Kr.seqQ (v := ?_) (a' := ?_) (by rfl) ?_ ?_ ?_; rotate_left 2; (focus (go_simp; first | done | rfl)); (focus ((try simp only [Kr.PT]); first | done | rfl)))
          refine Kr.seqDoneW ?_
          go_upto_region 18 with fail
          refine Kr.seqStartW ?_
          (refine Kr.seqQ (v := ?_) (a' := ?_) (by rfl) ?_ ?_ ?_; rotate_left 2; (focus (go_simp; first | done | rfl)); (focus ((try simp only [Kr.PT]); first | done | rfl)))
          (refine Kr.seqQ (v := ?_) (a' := ?_) (by rfl) ?_ ?_ ?_; rotate_left 2; (focus (go_simp; first | done | rfl)); (focus ((try simp only [Kr.PT]); first | done | rfl)))
          (refine Kr.seqQ (v := .pointer (some ⟨go, j, none⟩)) (a' := ?_) (by rfl) ?_ ?_ ?_; rotate_left 1; (focus (exact Kr.valOf rfl (ixB0 hjl))); (focus ((try simp only [Kr.PT]); first | done | rfl)))
          (refine Kr.seqQ (v := .int .u8 ((x0).toNat : Int)) (a' := ?_) (by rfl) ?_ ?_ ?_; rotate_left 1; (focus (exact Kr.valOf rfl (ldE8 (rowCell (H.at 2 rfl) HCI.out)))); (focus ((try simp only [Kr.PT]); first | done | rfl)))
          (refine Kr.seqQ (v := .int .u8 ((z0).toNat : Int)) (a' := ?_) (by rfl) ?_ ?_ ?_; rotate_left 1; (focus (exact Kr.valOf rfl (xor8 (y := 255#8) hz0))); (focus ((try simp only [Kr.PT]); first | done | rfl)))
          (refine Kr.seqQ (v := .pointer (some ⟨go, j, none⟩)) (a' := ?_) (by rfl) ?_ ?_ ?_; rotate_left 1; (focus (exact Kr.valOf rfl (ixB0 hjl))); (focus ((try simp only [Kr.PT]); first | done | rfl)))
          refine Kr.seqR (by rfl) (fun K hK => ?_)
          refine wp_run rfl (stE8 (H.cell 2 rfl HCI.out) (H.frozen 2 rfl j)) ?_
          have hkp := HIT.out.kept (same_set (W := wr) (b := go) (j := j) (u := .int .u8 (z0.toNat : Int)) HFo.out)
          obtain ⟨y8, hy⟩ : ∃ y, wr.setCell ⟨go, j, none⟩ (.int .u8 (z0.toNat : Int)) = y := ⟨_, rfl⟩; rw [hy]; rw [hy] at hkp; replace HIT := Lib.hid hkp; clear hkp
          replace H := H.set 2 (j) hy rfl; dsimp only [List.set] at H; clear hy
          (refine Kr.outS hK (a' := ?_) ?_ ?_; rotate_left; (focus ((try simp only [Kr.PT]); first | done | rfl))); clear hK K
          refine Kr.seqDoneW ?_
          have HADD : IntKind.i64.wrap ((j : Int) + 1) = ((j + 1 : Nat) : Int) := wrap_nat (by omega) (by omega)
          go_upto_region 19 with fail
          refine Kr.seqStartW ?_
          (refine Kr.seqQ (v := .int .i64 ((j + 1 : Nat) : Int)) (a' := ?_) (by rfl) ?_ ?_ ?_; rotate_left 1; (focus (exact Kr.valOf rfl (addI HADD))); (focus ((try simp only [Kr.PT]); first | done | rfl)))
          (refine Kr.seqQ (v := ?_) (a' := ?_) (by rfl) ?_ ?_ ?_; rotate_left 2; (focus (go_simp; first | done | rfl)); (focus ((try simp only [Kr.PT]); first | done | rfl)))
          refine Kr.seqDoneW ?_
          go_wp2; go_roundw
          case rel =>
            first
            | exact ⟨j + 1, _, by omega, rfl, HM2, HIT, Lib.hid H⟩
            | (repeat apply Exists.intro); exact ⟨⟨j + 1, _, by omega, rfl, HM2, HIT, Lib.hid H⟩, rfl⟩
            | (repeat apply Exists.intro); refine ⟨⟨j + 1, _, by omega, rfl, HM2, HIT, Lib.hid H⟩, ?_⟩; refine ⟨?_, ?_⟩ <;> (repeat apply And.intro) <;> rfl
          case measure => simp [intOf]; omega
    · have hjl : j < n := by omega
      have C3 : decide ((j : Int) < (n : Int)) = true := decide_eq_true (by omega)
      obtain ⟨m, hml, hmt⟩ := HM.out; obtain ⟨x0, hx0⟩ : ∃ x, m[j]? = some x := ⟨_, List.getElem?_eq_getElem (by omega)⟩; obtain ⟨z0, hz0⟩ : ∃ z, x0 ^^^ 255#8 = z := ⟨_, rfl⟩
      have HCI := Lib.hid (cur_get hmt hjl hx0); have HM2 : Hid (∃ m2 : List (BitVec 8), m2.length = n ∧ (cur9.set j (.int .u8 (z0.toNat : Int))).take n = m2.map w8) := Lib.hid ⟨m.set j z0, by rw [List.length_set]; exact hml, take_set8 hmt⟩; clear hx0 hmt hml hje
      go_upto_region 11 with fail
      refine Kr.seqStartW ?_
      (refine Kr.seqQ (v := .bool true) (a' := ?_) (by rfl) ?_ ?_ ?_; rotate_left 1; (focus (exact Kr.valOf rfl (lssT C3))); (focus ((try simp only [Kr.PT]); first | done | rfl)))
      refine Kr.seqDoneW ?_
      go_upto_region 12 with fail
      refine Kr.seqStartW ?_
      (refine Kr.seqQ (v := ?_) (a' := ?_) (by rfl) ?_ ?_ ?_; rotate_left 2; (focus (go_simp; first | done | rfl)); (focus ((try simp only [Kr.PT]); first | done | rfl)))
      (refine Kr.seqQ (v := ?_) (a' := ?_) (by rfl) ?_ ?_ ?_; rotate_left 2; (focus (go_simp; first | done | rfl)); (focus ((try simp only [Kr.PT]); first | done | rfl)))
      refine Kr.seqDoneW ?_
      go_upto_region 13 with fail
      refine Kr.seqStartW ?_
      (refine Kr.seqQ (v := ?_) (a' := ?_) (by rfl) ?_ ?_ ?_; rotate_left 2; (focus (go_simp; first | done | rfl)); (focus ((try simp only [Kr.PT]); first | done | rfl)))
      (refine Kr.seqQ (v := ?_) (a' := ?_) (by rfl) ?_ ?_ ?_; rotate_left 2; (focus (go_simp; first | done | rfl)); (focus ((try simp only [Kr.PT]); first | done | rfl)))
      (refine Kr.seqQ (v := .pointer (some ⟨gx, j, none⟩)) (a' := ?_) (by rfl) ?_ ?_ ?_; rotate_left 1; (focus (exact Kr.valOf rfl (ixB0 hjl))); (focus ((try simp only [Kr.PT]); first | done | rfl)))
      (refine Kr.seqQ (v := .int .u8 ((x0).toNat : Int)) (a' := ?_) (by rfl) ?_ ?_ ?_; rotate_left 1; (focus (exact Kr.valOf rfl (ldE8 (rowCell (H.at 0 rfl) HCI.out)))); (focus ((try simp only [Kr.PT]); first | done | rfl)))
      (refine Kr.seqQ (v := .int .u8 ((z0).toNat : Int)) (a' := ?_) (by rfl) ?_ ?_ ?_; rotate_left 1; (focus (exact Kr.valOf rfl (xor8 (y := 255#8) hz0))); (focus ((try simp only [Kr.PT]); first | done | rfl)))
      (refine Kr.seqQ (v := .pointer (some ⟨gx, j, none⟩)) (a' := ?_) (by rfl) ?_ ?_ ?_; rotate_left 1; (focus (exact Kr.valOf rfl (ixB0 hjl))); (focus ((try simp only [Kr.PT]); first | done | rfl)))
      refine Kr.seqR (by rfl) (fun K hK => ?_)
      refine wp_run rfl (stE8 (H.cell 0 rfl HCI.out) (H.frozen 0 rfl j)) ?_
      have hkp := HIT.out.kept (same_set (W := wr) (b := gx) (j := j) (u := .int .u8 (z0.toNat : Int)) HFx.out)
      obtain ⟨y9, hy⟩ : ∃ y, wr.setCell ⟨gx, j, none⟩ (.int .u8 (z0.toNat : Int)) = y := ⟨_, rfl⟩; rw [hy]; rw [hy] at hkp; replace HIT := Lib.hid hkp; clear hkp
      replace H := H.set 0 (j) hy rfl; dsimp only [List.set] at H; clear hy
      (refine Kr.outS hK (a' := ?_) ?_ ?_; rotate_left; (focus ((try simp only [Kr.PT]); first | done | rfl))); clear hK K
      refine Kr.seqDoneW ?_
      have HADD : IntKind.i64.wrap ((j : Int) + 1) = ((j + 1 : Nat) : Int) := wrap_nat (by omega) (by omega)
      go_upto_region 14 with fail
      refine Kr.seqStartW ?_
      (refine Kr.seqQ (v := .int .i64 ((j + 1 : Nat) : Int)) (a' := ?_) (by rfl) ?_ ?_ ?_; rotate_left 1; (focus (exact Kr.valOf rfl (addI HADD))); (focus ((try simp only [Kr.PT]); first | done | rfl)))
      (refine Kr.seqQ (v := ?_) (a' := ?_) (by rfl) ?_ ?_ ?_; rotate_left 2; (focus (go_simp; first | done | rfl)); (focus ((try simp only [Kr.PT]); first | done | rfl)))
      refine Kr.seqDoneW ?_
      go_wp2; go_roundw
      case rel =>
        first
        | exact ⟨j + 1, _, by omega, rfl, HM2, HIT, Lib.hid H⟩
        | (repeat apply Exists.intro); exact ⟨⟨j + 1, _, by omega, rfl, HM2, HIT, Lib.hid H⟩, rfl⟩
        | (repeat apply Exists.intro); refine ⟨⟨j + 1, _, by omega, rfl, HM2, HIT, Lib.hid H⟩, ?_⟩; refine ⟨?_, ?_⟩ <;> (repeat apply And.intro) <;> rfl
      case measure => simp [intOf]; omega
end Go.Proofs.YtlollhmheakcfaaDoor.Dg
