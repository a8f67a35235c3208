/- The reference's Tag, Join, Tagged. -/
import Derived.Test.YtilbojcghladjaaDoorQEk
import Derived.Test.YtilbojcghladjaaDoorQEf
import Derived.Deep.Cut
namespace Go.Proofs.YtilbojcghladjaaDoor.Dg
open Go Go.RowKit Go.Proofs.YtilbojcghladjaaDoor.Ne Go.Proofs.YtilbojcghladjaaDoor.Kr

set_option linter.unusedSimpArgs false in
set_option maxRecDepth 100000 in
set_option maxHeartbeats 16000000 in
theorem Tag_v {t : ByteArray} {b : Bool} {w : World} (hb : decide (1 ≤ t.size ∧ t.size ≤ 100) = b) :
    Calls Tryd.prog 15 #[.string t] w fun e w' => e = .returned (.bool b) ∧ Gr w w' := by
  obtain ⟨c1, hc1⟩ : ∃ z, decide ((1 : Int) ≤ (t.size : Int)) = z := ⟨_, rfl⟩
  obtain ⟨c2, hc2⟩ : ∃ z, decide ((t.size : Int) ≤ 100) = z := ⟨_, rfl⟩
  have hbb : (c1 && c2) = b := by rw [← hc1, ← hc2, ← hb, Bool.eq_iff_iff]; simp; omega
  clear hb
  have H := Ow.start w
  go_enter Tryd.func15, Tryd.ntmps15
  go_upto_region 0 with fail
  refine Kr.seqStartW ?_
  (refine Kr.seqQ (v := ?_) (a' := ?_) (by rfl) ?_ ?_ ?_; rotate_left 2; (focus (go_simp; first | done | rfl)); (focus ((try simp only [Kr.PT]); first | done | rfl)))
  refine Kr.seqDoneW ?_
  cases c1
  · have hb2 : b = false := by rw [← hbb]; rfl
    subst hb2; clear hbb hc2
    go_upto_region 1 with fail
    refine Kr.seqStartW ?_
    (refine Kr.seqQ (v := ?_) (a' := ?_) (by rfl) ?_ ?_ ?_; rotate_left 2; (focus (go_simp; first | done | rfl)); (focus ((try simp only [Kr.PT]); first | done | rfl)))
    (refine Kr.seqQ (v := .int .i64 (t.size : Int)) (a' := ?_) (by rfl) ?_ ?_ ?_; rotate_left 1; (focus (exact Kr.valOf rfl ((by go_simp)))); (focus ((try simp only [Kr.PT]); first | done | rfl)))
    (refine Kr.seqQ (v := .bool false) (a' := ?_) (by rfl) ?_ ?_ ?_; rotate_left 1; (focus (exact Kr.valOf rfl (geqI hc1))); (focus ((try simp only [Kr.PT]); first | done | rfl)))
    (refine Kr.seqQ (v := ?_) (a' := ?_) (by rfl) ?_ ?_ ?_; rotate_left 2; (focus (go_simp; first | done | rfl)); (focus ((try simp only [Kr.PT]); first | done | rfl)))
    (refine Kr.seqSkipQ (a' := ?_) (by rfl) ?_ ?_; rotate_left; (focus ((try simp only [Kr.PT]); first | done | rfl)))
    (refine Kr.seqSkipQ (a' := ?_) (by rfl) ?_ ?_; rotate_left; (focus ((try simp only [Kr.PT]); first | done | rfl)))
    (refine Kr.seqSkipQ (a' := ?_) (by rfl) ?_ ?_; rotate_left; (focus ((try simp only [Kr.PT]); first | done | rfl)))
    (refine Kr.seqQ (v := ?_) (a' := ?_) (by rfl) ?_ ?_ ?_; rotate_left 2; (focus (go_simp; first | done | rfl)); (focus ((try simp only [Kr.PT]); first | done | rfl)))
    (refine Kr.seqQ (v := ?_) (a' := ?_) (by rfl) ?_ ?_ ?_; rotate_left 2; (focus (go_simp; first | done | rfl)); (focus ((try simp only [Kr.PT]); first | done | rfl)))
    refine Kr.seqDoneW ?_
    have hk := trivial
    go_wp2
    refine bodyPost_ret (v := .bool false) (by simp [results, Tryd.results15, go_sem, hk]) rfl ⟨rfl, H.g⟩
  · have hb2 : b = c2 := by rw [← hbb]; rfl
    subst hb2; clear hbb
    go_upto_region 1 with fail
    refine Kr.seqStartW ?_
    (refine Kr.seqQ (v := ?_) (a' := ?_) (by rfl) ?_ ?_ ?_; rotate_left 2; (focus (go_simp; first | done | rfl)); (focus ((try simp only [Kr.PT]); first | done | rfl)))
    (refine Kr.seqQ (v := .int .i64 (t.size : Int)) (a' := ?_) (by rfl) ?_ ?_ ?_; rotate_left 1; (focus (exact Kr.valOf rfl ((by go_simp)))); (focus ((try simp only [Kr.PT]); first | done | rfl)))
    (refine Kr.seqQ (v := .bool true) (a' := ?_) (by rfl) ?_ ?_ ?_; rotate_left 1; (focus (exact Kr.valOf rfl (geqI hc1))); (focus ((try simp only [Kr.PT]); first | done | rfl)))
    (refine Kr.seqQ (v := ?_) (a' := ?_) (by rfl) ?_ ?_ ?_; rotate_left 2; (focus (go_simp; first | done | rfl)); (focus ((try simp only [Kr.PT]); first | done | rfl)))
    (refine Kr.seqQ (v := ?_) (a' := ?_) (by rfl) ?_ ?_ ?_; rotate_left 2; (focus (go_simp; first | done | rfl)); (focus ((try simp only [Kr.PT]); first | done | rfl)))
    (refine Kr.seqQ (v := .int .i64 (t.size : Int)) (a' := ?_) (by rfl) ?_ ?_ ?_; rotate_left 1; (focus (exact Kr.valOf rfl ((by go_simp)))); (focus ((try simp only [Kr.PT]); first | done | rfl)))
    (refine Kr.seqQ (v := .bool b) (a' := ?_) (by rfl) ?_ ?_ ?_; rotate_left 1; (focus (exact Kr.valOf rfl (leqI hc2))); (focus ((try simp only [Kr.PT]); first | done | rfl)))
    (refine Kr.seqQ (v := ?_) (a' := ?_) (by rfl) ?_ ?_ ?_; rotate_left 2; (focus (go_simp; first | done | rfl)); (focus ((try simp only [Kr.PT]); first | done | rfl)))
    (refine Kr.seqQ (v := ?_) (a' := ?_) (by rfl) ?_ ?_ ?_; rotate_left 2; (focus (go_simp; first | done | rfl)); (focus ((try simp only [Kr.PT]); first | done | rfl)))
    refine Kr.seqDoneW ?_
    have hk := trivial
    go_wp2
    refine bodyPost_ret (v := .bool b) (by simp [results, Tryd.results15, go_sem, hk]) rfl ⟨rfl, H.g⟩
set_option linter.unusedSimpArgs false in
set_option maxRecDepth 100000 in
set_option maxHeartbeats 16000000 in
theorem Join_v {p : Option Addr} {n c : Nat} {l h : List (BitVec 8)} {w : World} (hS : SrcB p l w) (hl : l.length = n) (hp : p = none → c = 0) (hn : n ≤ 1000000) (hh : h.length = 32) :
    Calls Tryd.prog 38 #[.slice p n c, .agg (h.map w8).toArray] w fun e w' => ∃ q c2, e = .returned (.slice q (n + 32) c2) ∧ n + 32 ≤ c2 ∧ (q = none → c2 = 0) ∧ SrcB q (l ++ h) w' ∧ RowG 5 w.heap.size (.slice q (n + 32) c2) ((l ++ h).map w8) w' ∧ Gr w w' := by
  have HS := Lib.hid hS; clear hS
  have hh32 : (h.map w8).length = 32 := by rw [List.length_map]; exact hh
  have H := Ow.start w
  go_enter Tryd.func38, Tryd.ntmps38
  go_upto_region 0 with fail
  refine Kr.seqStartW ?_
  refine Kr.seqR (by rfl) (fun K hK => ?_)
  refine wp_runV rfl boxH ?_
  obtain ⟨y1, hy⟩ : ∃ y, w.alloc (.cells (h.map w8).toArray 25) = y := ⟨_, rfl⟩
  obtain ⟨ba, hb⟩ : ∃ b, w.heap.size = b := ⟨_, rfl⟩
  rw [hy, hb]
  have hg : Gr w y1 := hy ▸ (Gr.refl _).alloc _
  replace H := H.alloc hy hb
  clear hy hb hg
  (refine Kr.outS hK (a' := ?_) ?_ ?_; rotate_left; (focus ((try simp only [Kr.PT]); first | done | rfl))); clear hK K
  (refine Kr.seqQ (v := ?_) (a' := ?_) (by rfl) ?_ ?_ ?_; rotate_left 2; (focus (go_simp; first | done | rfl)); (focus ((try simp only [Kr.PT]); first | done | rfl)))
  refine Kr.seqDoneW ?_
  go_upto_region 1 with fail
  refine Kr.seqStartW ?_
  refine Kr.seqR (by rfl) (fun K hK => ?_)
  go_simp
  obtain ⟨y2, hy⟩ : ∃ y, y1.alloc (.cells #[] 5) = y := ⟨_, rfl⟩
  obtain ⟨bnew, hbn⟩ : ∃ b, y1.heap.size = b := ⟨_, rfl⟩
  have hnew := row_new2 H hy hbn; rw [hy, hbn]
  have hg : Gr y1 y2 := hy ▸ (Gr.refl _).alloc _
  obtain ⟨hR, HA⟩ := hnew; have HR := Lib.hid hR; clear hR
  replace H := H.grow hg
  clear hg hy hbn
  (refine Kr.outS hK (a' := ?_) ?_ ?_; rotate_left; (focus ((try simp only [Kr.PT]); first | done | rfl))); clear hK K
  (refine Kr.seqQ (v := ?_) (a' := ?_) (by rfl) ?_ ?_ ?_; rotate_left 2; (focus (go_simp; first | done | rfl)); (focus ((try simp only [Kr.PT]); first | done | rfl)))
  refine Kr.seqR (by rfl) (fun K hK => ?_)
  refine wp_appG (T := 5) (TS := 22) Tryd.underlying22 info8 rfl (.tmp 7) (.tmp 8) rfl (v := .slice (some ⟨bnew, 0, none⟩) 0 0) (r := []) (d := (l.map w8)) (p := p) (m := n) (c := c) (rs := [(ba, 25, h.map w8)]) rfl rfl (by rw [List.length_map]; exact hl) ((HS.out.grow H.g).srcG) (one_lit8 l) (hp) H HR.out HA (by show 0 + n ≤ _; omega) (by decide) ?_
  intro v1 y3 H3 hR3 hA3
  clear H HR HA ; have H := H3; have HR := Lib.hid hR3; have HA := hA3; clear H3 hR3 hA3
  (refine Kr.outS hK (a' := ?_) ?_ ?_; rotate_left; (focus ((try simp only [Kr.PT]); first | done | rfl))); clear hK K
  (refine Kr.seqQ (v := ?_) (a' := ?_) (by rfl) ?_ ?_ ?_; rotate_left 2; (focus (go_simp; first | done | rfl)); (focus ((try simp only [Kr.PT]); first | done | rfl)))
  refine Kr.seqDoneW ?_
  go_upto_region 2 with fail
  refine Kr.seqStartW ?_
  (refine Kr.seqQ (v := ?_) (a' := ?_) (by rfl) ?_ ?_ ?_; rotate_left 2; (focus (go_simp; first | done | rfl)); (focus ((try simp only [Kr.PT]); first | done | rfl)))
  refine Kr.seqDoneW ?_
  rw [List.nil_append] at HR
  have H2 := Lib.hid H; clear H
  go_wp2_with fail
  go_loopw [5, 6] (fun v iv wr => ∃ (j : Nat), j ≤ 32 ∧ iv = .int .i64 (j : Int) ∧ Hid (RowG 5 w.heap.size v ((l ++ h.take j).map w8) wr) ∧ Hid (Apt v [(ba, 25, h.map w8)]) ∧ Hid (Ow w wr [(ba, 25, h.map w8)])) (fun _ iv _ => (32 - (intOf iv).toNat))
  case atStart => exact ⟨0, by decide, rfl, (by rw [List.take_zero, List.append_nil]; exact HR), Lib.hid HA, H2⟩
  case round =>
    clear H2 HR HA; obtain ⟨j, hj, rfl, HR, HA, HH⟩ := hrel; have H := HH.out; replace HA := HA.out; clear HH
    by_cases hje : j = 32
    · have HC : decide ((j : Int) < 32) = false := decide_eq_false (by omega)
      rw [show h.take j = h from List.take_of_length_le (by omega)] at HR
      clear hje
      obtain ⟨q, c2, rfl, hc, hpn, hsrc⟩ := HR.out.src
      rw [List.length_map, List.length_append, hl, hh] at hc HR ⊢
      have HSRC := Lib.hid (srcB_of hsrc); have HPN := Lib.hid hpn; clear hsrc HA hpn
      go_upto_region 3 with fail
      refine Kr.seqStartW ?_
      (refine Kr.seqQ (v := ?_) (a' := ?_) (by rfl) ?_ ?_ ?_; rotate_left 2; (focus (go_simp; first | done | rfl)); (focus ((try simp only [Kr.PT]); first | done | rfl)))
      (refine Kr.seqQ (v := .bool false) (a' := ?_) (by rfl) ?_ ?_ ?_; rotate_left 1; (focus (exact Kr.valOf rfl (lssT HC))); (focus ((try simp only [Kr.PT]); first | done | rfl)))
      refine Kr.seqDoneW ?_
      go_upto_region 6 with fail
      refine Kr.seqStartW ?_
      (refine Kr.seqQ (v := ?_) (a' := ?_) (by rfl) ?_ ?_ ?_; rotate_left 2; (focus (go_simp; first | done | rfl)); (focus ((try simp only [Kr.PT]); first | done | rfl)))
      (refine Kr.seqQ (v := ?_) (a' := ?_) (by rfl) ?_ ?_ ?_; rotate_left 2; (focus (go_simp; first | done | rfl)); (focus ((try simp only [Kr.PT]); first | done | rfl)))
      refine Kr.seqDoneW ?_
      have hk := trivial
      go_wp2
      refine bodyPost_ret (v := .slice q (n + 32) c2) (by simp [results, Tryd.results38, go_sem, hk]) rfl ⟨q, c2, rfl, hc, HPN.out, HSRC.out, HR.out, H.g⟩
    · have hjl : j < 32 := by omega
      have HC : decide ((j : Int) < 32) = true := decide_eq_true (by omega)
      obtain ⟨x, hx⟩ : ∃ x, h[j]? = some x := ⟨_, List.getElem?_eq_getElem (by omega)⟩
      have htk : (l ++ h.take (j + 1)).map w8 = (l ++ h.take j).map w8 ++ [w8 x] := by rw [List.take_add_one, hx, ← List.append_assoc, List.map_append (l₁ := l ++ h.take j)]; rfl
      have hln : ((l ++ h.take j).map w8).length = n + j := by rw [List.length_map, List.length_append, List.length_take, hl, hh]; omega
      go_upto_region 3 with fail
      refine Kr.seqStartW ?_
      (refine Kr.seqQ (v := ?_) (a' := ?_) (by rfl) ?_ ?_ ?_; rotate_left 2; (focus (go_simp; first | done | rfl)); (focus ((try simp only [Kr.PT]); first | done | rfl)))
      (refine Kr.seqQ (v := .bool true) (a' := ?_) (by rfl) ?_ ?_ ?_; rotate_left 1; (focus (exact Kr.valOf rfl (lssT HC))); (focus ((try simp only [Kr.PT]); first | done | rfl)))
      refine Kr.seqDoneW ?_
      go_upto_region 5 with fail
      refine Kr.seqStartW ?_
      (refine Kr.seqQ (v := ?_) (a' := ?_) (by rfl) ?_ ?_ ?_; rotate_left 2; (focus (go_simp; first | done | rfl)); (focus ((try simp only [Kr.PT]); first | done | rfl)))
      (refine Kr.seqQ (v := ?_) (a' := ?_) (by rfl) ?_ ?_ ?_; rotate_left 2; (focus (go_simp; first | done | rfl)); (focus ((try simp only [Kr.PT]); first | done | rfl)))
      (refine Kr.seqQ (v := .pointer (some ⟨ba, j, none⟩)) (a' := ?_) (by rfl) ?_ ?_ ?_; rotate_left 1; (focus (exact Kr.valOf rfl (ixH hjl))); (focus ((try simp only [Kr.PT]); first | done | rfl)))
      (refine Kr.seqQ (v := .int .u8 ((x).toNat : Int)) (a' := ?_) (by rfl) ?_ ?_ ?_; rotate_left 1; (focus (exact Kr.valOf rfl (ldE8 (rowCell (H.at 0 rfl) (map_get8 hx))))); (focus ((try simp only [Kr.PT]); first | done | rfl)))
      refine Kr.seqR (by rfl) (fun K hK => ?_)
      go_simp
      obtain ⟨y4, hy⟩ : ∃ y, wr.alloc (.cells #[.int .u8 ((x).toNat : Int)] 5) = y := ⟨_, rfl⟩
      obtain ⟨bone, hbn⟩ : ∃ b, wr.heap.size = b := ⟨_, rfl⟩
      rw [hy, hbn]
      have hy2 : wr.alloc (.cells ([.int .u8 ((x).toNat : Int)] : List Value).toArray 5) = y4 := hy
      have hg : Gr wr y4 := hy ▸ (Gr.refl _).alloc _
      have HLIT := Lib.hid (hbn ▸ hy2 ▸ lit_src (W := wr) (T := 5) [.int .u8 ((x).toNat : Int)]); clear hy2
      replace H := H.grow hg
      replace HR := Lib.hid (HR.out.grow hg)
      clear hg hy hbn
      (refine Kr.outS hK (a' := ?_) ?_ ?_; rotate_left; (focus ((try simp only [Kr.PT]); first | done | rfl))); clear hK K
      refine Kr.seqR (by rfl) (fun K hK => ?_)
      refine wp_appG (T := 5) (TS := 22) Tryd.underlying22 info8 rfl (.tmp 14) (.tmp 18) rfl (v := u5) (r := ((l ++ h.take j).map w8)) (d := [w8 x]) (p := (some ⟨bone, 0, none⟩)) (m := 1) (c := 1) (rs := [(ba, 25, h.map w8)]) rfl rfl (rfl) (HLIT.out) (one_lit8 [x]) (fun e => by cases e) H HR.out HA (by rw [hln]; omega) (by decide) ?_
      intro v1 y5 H3 hR3 hA3
      clear H HR HA HLIT; have H := H3; have HR := Lib.hid hR3; have HA := hA3; clear H3 hR3 hA3
      (refine Kr.outS hK (a' := ?_) ?_ ?_; rotate_left; (focus ((try simp only [Kr.PT]); first | done | rfl))); clear hK K
      (refine Kr.seqQ (v := ?_) (a' := ?_) (by rfl) ?_ ?_ ?_; rotate_left 2; (focus (go_simp; first | done | rfl)); (focus ((try simp only [Kr.PT]); first | done | rfl)))
      refine Kr.seqDoneW ?_
      rw [← htk] at HR
      have HADD : IntKind.i64.wrap ((j : Int) + 1) = ((j + 1 : Nat) : Int) := wrap_nat (by omega) (by omega)
      go_upto_region 4 with fail
      refine Kr.seqStartW ?_
      (refine Kr.seqQ (v := ?_) (a' := ?_) (by rfl) ?_ ?_ ?_; rotate_left 2; (focus (go_simp; first | done | rfl)); (focus ((try simp only [Kr.PT]); first | done | rfl)))
      (refine Kr.seqQ (v := .int .i64 ((j + 1 : Nat) : Int)) (a' := ?_) (by rfl) ?_ ?_ ?_; rotate_left 1; (focus (exact Kr.valOf rfl (addI HADD))); (focus ((try simp only [Kr.PT]); first | done | rfl)))
      (refine Kr.seqQ (v := ?_) (a' := ?_) (by rfl) ?_ ?_ ?_; rotate_left 2; (focus (go_simp; first | done | rfl)); (focus ((try simp only [Kr.PT]); first | done | rfl)))
      refine Kr.seqDoneW ?_
      go_wp2; go_roundw
      case rel => exact ⟨j + 1, by omega, rfl, HR, Lib.hid HA, Lib.hid H⟩
      case measure => simp [intOf]; omega
theorem apt_rowG {w W W' : World} {T : TypeId} {rs : List Blk} {v : Value} {xs : List Value} (H : Ow w W rs) (h : RowG T W.heap.size v xs W') : Apt v rs := fun k hk x hx e => by
  have h1 := (h.lt k hk).1
  have h2 := H.lt hx
  omega
set_option linter.unusedSimpArgs false in
set_option maxRecDepth 100000 in
set_option maxHeartbeats 16000000 in
theorem rTagged_v {t : ByteArray} {p : Option Addr} {n c : Nat} {l : List (BitVec 8)} {w : World} (ht2 : t.size ≤ 100) (hS : SrcB p l w) (hl : l.length = n) (hp : p = none → c = 0) (hn : n ≤ 100000) :
    Calls Tryd.prog 16 #[.string t, .slice p n c] w fun e w' => e = .returned (.agg ((tg t l).map w8).toArray) ∧ Gr w w' := by
  have h0 : (zH.map w8).length = 32 := rfl
  have HS := Lib.hid hS; clear hS
  obtain ⟨A, hA⟩ : ∃ z, sha (s8 t) = z := ⟨_, rfl⟩; obtain ⟨R, hR⟩ : ∃ z, tg t l = z := ⟨_, rfl⟩
  have hAl : A.length = 32 := by rw [← hA]; exact sha_length _
  have hRl : R.length = 32 := by rw [← hR]; exact sha_length _
  have hR2 : sha ([] ++ A ++ A ++ l) = R := by rw [← hR, ← hA, List.nil_append, List.append_assoc]; rfl
  rw [hR]; have HRR := Lib.hid hR2; have HAA := Lib.hid hA; clear hR hR2 hA
  have hA32 : (A.map w8).length = 32 := by rw [List.length_map]; exact hAl
  have hR32 : (R.map w8).length = 32 := by rw [List.length_map]; exact hRl
  have H := Ow.start w
  go_enter Tryd.func16, Tryd.ntmps16
  go_upto_region 0 with fail
  refine Kr.seqStartW ?_
  refine Kr.seqR (by rfl) (fun K hK => ?_)
  refine wp_runV rfl newHz ?_
  obtain ⟨y1, hy⟩ : ∃ y, w.alloc (.cells (zH.map w8).toArray 25) = y := ⟨_, rfl⟩
  obtain ⟨br, hb⟩ : ∃ b, w.heap.size = b := ⟨_, rfl⟩
  rw [hy, hb]
  have hg : Gr w y1 := hy ▸ (Gr.refl _).alloc _
  replace H := H.alloc hy hb
  clear hy hb hg
  (refine Kr.outS hK (a' := ?_) ?_ ?_; rotate_left; (focus ((try simp only [Kr.PT]); first | done | rfl))); clear hK K
  refine Kr.seqDoneW ?_
  go_upto_region 1 with fail
  refine Kr.seqStartW ?_
  (refine Kr.seqQ (v := ?_) (a' := ?_) (by rfl) ?_ ?_ ?_; rotate_left 2; (focus (go_simp; first | done | rfl)); (focus ((try simp only [Kr.PT]); first | done | rfl)))
  refine Kr.seqR (by rfl) (fun K hK => ?_)
  obtain ⟨cap, y2, bs, hbk, hrun, hcp, hba, hgr⟩ := conv_str y1 t
  refine wp_runV rfl hrun ?_
  have HB := Lib.hid hba; have HBc := Lib.hid hcp; clear hrun hbk hba hcp
  replace H := H.grow hgr
  clear hgr
  (refine Kr.outS hK (a' := ?_) ?_ ?_; rotate_left; (focus ((try simp only [Kr.PT]); first | done | rfl))); clear hK K
  refine Kr.seqR (by rfl) (fun K hK => ?_)
  go_simp
  go_at_call 13
  have hP := rSum_v (c := cap) (.inr ⟨bs, 0, rfl, HB.out⟩) (s8_length t) (fun e => by cases e) (by omega); rw [HAA.out] at hP
  refine (hP).mono ?_
  rintro e y3 ⟨rfl, hg⟩
  replace H := H.grow hg
  clear hg
  clear hP
  (refine Kr.outS hK (a' := ?_) ?_ ?_; rotate_left; (focus ((try simp only [Kr.PT]); first | done | rfl))); clear hK K
  refine Kr.seqR (by rfl) (fun K hK => ?_)
  refine wp_runV rfl newHz ?_
  obtain ⟨y4, hy⟩ : ∃ y, y3.alloc (.cells (zH.map w8).toArray 25) = y := ⟨_, rfl⟩
  obtain ⟨bh, hb⟩ : ∃ b, y3.heap.size = b := ⟨_, rfl⟩
  rw [hy, hb]
  have hg : Gr y3 y4 := hy ▸ (Gr.refl _).alloc _
  replace H := H.alloc hy hb
  clear hy hb hg
  (refine Kr.outS hK (a' := ?_) ?_ ?_; rotate_left; (focus ((try simp only [Kr.PT]); first | done | rfl))); clear hK K
  refine Kr.seqR (by rfl) (fun K hK => ?_)
  refine wp_run rfl (stH (H.at 0 rfl) h0 hA32 (oneCell_bytes _)) ?_
  obtain ⟨y5, hy⟩ : ∃ y, y4.setRow bh (A.map w8).toArray = y := ⟨_, rfl⟩
  rw [hy]
  replace H := H.put 0 hy rfl
  dsimp only [List.set] at H
  clear hy
  (refine Kr.outS hK (a' := ?_) ?_ ?_; rotate_left; (focus ((try simp only [Kr.PT]); first | done | rfl))); clear hK K
  refine Kr.seqDoneW ?_
  go_upto_region 2 with fail
  refine Kr.startL (fun W' => (W'.heap[bh]? = some (.cells (A.map w8).toArray 25 (0, 0))) ∧ True) [7] (by kernel_rfl) ?_
  have gd : Gr y5 y5.drew := (Gr.refl _).drew
  generalize y5.drew = d6 at gd ⊢
  replace H := H.grow gd
  clear gd
  (refine Kr.tSQ 0 [1, 3, 5, 6, 7] (v := .agg (A.map w8).toArray) (a' := ?_) rfl (by kernel_rfl) (fun _ _ _ h => h) (by rfl) ⟨(H.at 0 rfl), trivial⟩ (fun wx hSx => ?_) ?_ ?_; rotate_left 1; (focus (exact Kr.valOf rfl (ldH hSx.1 hA32))); (focus ((try simp only [Kr.PT]); first | done | rfl)))
  (refine Kr.tSQ 2 [3, 5, 6, 7] (v := .agg (A.map w8).toArray) (a' := ?_) rfl (by kernel_rfl) (fun _ _ _ h => h) (by rfl) ⟨(H.at 0 rfl), trivial⟩ (fun wx hSx => ?_) ?_ ?_; rotate_left 1; (focus (exact Kr.valOf rfl (ldH hSx.1 hA32))); (focus ((try simp only [Kr.PT]); first | done | rfl)))
  (refine Kr.tPQ 4 (v := ?_) (a' := ?_) rfl (by kernel_rfl) (fun _ _ _ h => h) (by rfl) (fun _ => ⟨(H.at 0 rfl), trivial⟩) (fun wx => ?_) ?_ ?_; rotate_left 2; (focus (go_simp; first | done | rfl)); (focus ((try simp only [Kr.PT]); first | done | rfl)))
  refine Kr.readyL (rs := [1]) (by kernel_rfl) (by simp) ?_
  refine Kr.AllL.cons rfl (fun K hK => ?_) Kr.AllL.nil
  go_simp
  go_at_call 38
  have hP := Join_v (p := none) (n := 0) (c := 0) (l := []) (h := A) (w := d6) (.inl rfl) rfl (fun _ => rfl) (by decide) hAl
  refine hP.mono ?_; clear hP
  rintro e y7 ⟨q1, c1, rfl, hc1, hp1, hs1, hr1, hg⟩
  have HJ1 := Lib.hid hs1; have HJ1p := Lib.hid hp1; have hJ1 : ([] ++ A).length = 0 + 32 := by rw [List.nil_append, hAl]
  clear hs1 hp1 hr1 hc1
  replace H := H.grow hg
  clear hg
  (refine Kr.outL hK (a' := ?_) ?_ (fun _ => ⟨(H.at 0 rfl), trivial⟩) ?_; rotate_left; (focus ((try simp only [Kr.PT]); first | done | rfl))); clear hK K
  refine Kr.readyL (rs := [3]) (by kernel_rfl) (by simp) ?_
  refine Kr.AllL.cons rfl (fun K hK => ?_) Kr.AllL.nil
  go_simp
  go_at_call 38
  have hP := Join_v (c := c1) (h := A) (w := y7) HJ1.out hJ1 HJ1p.out (by decide) hAl
  refine hP.mono ?_; clear hP
  rintro e y8 ⟨q2, c2, rfl, hc2, hp2, hs2, hr2, hg⟩
  have HR := Lib.hid (show RowG 5 w.heap.size (.slice q2 (0 + 32 + 32) c2) (([] ++ A ++ A).map w8) y8 from rowG_low H.g.le hr2)
  have HA := apt_rowG H hr2
  clear hs2 hp2 hr2 hc2 HJ1 HJ1p hJ1
  replace H := H.grow hg
  clear hg
  (refine Kr.outL hK (a' := ?_) ?_ (fun _ => ⟨(H.at 0 rfl), trivial⟩) ?_; rotate_left; (focus ((try simp only [Kr.PT]); first | done | rfl))); clear hK K
  refine Kr.readyL (rs := [5]) (by kernel_rfl) (by simp) ?_
  refine Kr.AllL.cons rfl (fun K hK => ?_) Kr.AllL.nil
  rw [if_pos (by rfl)]
  refine wp_appG (T := 5) (TS := 22) Tryd.underlying22 info8 rfl (.tmp 12) (.tmp 13) rfl (v := .slice q2 (0 + 32 + 32) c2) (r := (([] ++ A ++ A).map w8)) (d := (l.map w8)) (p := p) (m := n) (c := c) (rs := [(bh, 25, A.map w8), (br, 25, zH.map w8)]) rfl rfl (by rw [List.length_map]; exact hl) ((HS.out.grow H.g).srcG) (one_lit8 l) (hp) H HR.out HA (by simp [hAl]; omega) (by decide) ?_
  intro v1 y9 H3 hR3 hA3
  clear H HR HA ; have H := H3; have HR := Lib.hid hR3; have HA := hA3; clear H3 hR3 hA3
  (refine Kr.outL hK (a' := ?_) ?_ (fun _ => ⟨(H.at 0 rfl), trivial⟩) ?_; rotate_left; (focus ((try simp only [Kr.PT]); first | done | rfl))); clear hK K
  refine Kr.readyL (rs := [6]) (by kernel_rfl) (by simp) ?_
  refine Kr.AllL.cons rfl (fun K hK => ?_) Kr.AllL.nil
  go_simp
  go_at_call 13
  obtain ⟨q3, c3, rfl, hc3, hp3, hs3⟩ := HR.out.src
  rw [← List.map_append] at hs3 hc3 ⊢; have hln : ([] ++ A ++ A ++ l).length = 64 + n := by simp [hAl, hl]; omega
  rw [List.length_map, hln] at hc3 ⊢
  have hP := rSum_v (c := c3) (w := y9) (srcB_of hs3) hln hp3 (by omega); rw [HRR.out] at hP
  clear hs3 hp3 hc3 HR HA
  refine (hP).mono ?_
  rintro e y10 ⟨rfl, hg⟩
  replace H := H.grow hg
  clear hg
  clear hP
  (refine Kr.outL hK (a' := ?_) ?_ (fun _ => ⟨(H.at 0 rfl), trivial⟩) ?_; rotate_left; (focus ((try simp only [Kr.PT]); first | done | rfl))); clear hK K
  refine Kr.readyL (rs := [7]) (by kernel_rfl) (by simp) ?_
  refine Kr.AllL.cons rfl (fun K hK => ?_) Kr.AllL.nil
  rw [if_pos (by rfl)]
  refine wp_run rfl (stH (H.at 1 rfl) h0 hR32 (oneCell_bytes _)) ?_
  obtain ⟨y11, hy⟩ : ∃ y, y10.setRow br (R.map w8).toArray = y := ⟨_, rfl⟩
  rw [hy]
  replace H := H.put 1 hy rfl
  dsimp only [List.set] at H
  clear hy
  (refine Kr.outL hK (a' := ?_) ?_ (Kr.noStill (by kernel_rfl)) ?_; rotate_left; (focus ((try simp only [Kr.PT]); first | done | rfl))); clear hK K
  refine Kr.doneL (by kernel_rfl) ?_ _
  go_wp2
  refine bodyPost_ret (v := .agg (R.map w8).toArray) (results_cell_row rfl _ _ br 25 _ _ _ (by rfl) (H.at 1 rfl) Tryd.underlying25 rfl (by rw [List.size_toArray, hR32]; exact infoH)) rfl ⟨rfl, H.g⟩
end Go.Proofs.YtilbojcghladjaaDoor.Dg
