/- The padded form. -/
import Derived.Test.YtilbojcghladjaaDoorQDy
import Derived.Deep.Cut
namespace Go.Proofs.YtilbojcghladjaaDoor.Dg
open Go Go.RowKit Go.Proofs.YtilbojcghladjaaDoor.Ne Go.Proofs.YtilbojcghladjaaDoor.Kr

/-- How many zeros stand in the padded form of k bytes. -/
def zc (k : Nat) : Nat := (119 - k % 64) % 64
def pre (l : List (BitVec 8)) (j : Nat) : List (BitVec 8) := l ++ [128#8] ++ List.replicate j 0#8
/-- The padded form. -/
def pd (l : List (BitVec 8)) : List (BitVec 8) := pre l (zc l.length) ++ be8 (8 * l.length)
theorem pre_length (l : List (BitVec 8)) (j : Nat) : (pre l j).length = l.length + 1 + j := by simp [pre]; omega
theorem pre_succ (l : List (BitVec 8)) (j : Nat) : pre l (j + 1) = pre l j ++ [0#8] := by
  unfold pre; rw [List.replicate_succ', ← List.append_assoc]
theorem pd_length (l : List (BitVec 8)) : (pd l).length = l.length + 9 + zc l.length := by
  unfold pd; rw [List.length_append, pre_length, be8_length]; omega
theorem rowG_own {T : TypeId} {B : Nat} {v : Value} {xs : List Value} {W : World} (h : RowG T B v xs W) (hn : 0 < xs.length) :
    ∃ (g cap : Nat) (cur : List Value), v = .slice (some ⟨g, 0, none⟩) xs.length cap ∧ xs.length ≤ cap ∧ B ≤ g ∧ W.heap[g]? = some (.cells cur.toArray T (0, 0)) ∧ cur.take xs.length = xs := by
  rcases h.2 with ⟨h1, h2⟩ | ⟨g, cap, cur, h1, h2, h3, h4, _, _, h6⟩
  · omega
  · exact ⟨g, cap, cur.toList, h1, h4, h2, h3, by rw [← Nat.mul_one xs.length]; exact h6⟩
def lenV : Value → Nat
  | .slice _ n _ => n
  | _ => 0
theorem lenV_row {T : TypeId} {B : Nat} {v : Value} {xs : List Value} {W : World} (h : RowG T B v xs W) : lenV v = xs.length := by
  obtain ⟨p, c, rfl, _⟩ := h.src
  rfl

set_option linter.unusedSimpArgs false in
set_option maxRecDepth 100000 in
set_option maxHeartbeats 16000000 in
theorem padded_v {p : Option Addr} {k c : Nat} {l : List (BitVec 8)} {w : World} (hS : SrcB p l w) (hl : l.length = k) (hp : p = none → c = 0) (hk : k ≤ 1000000) :
    Calls Tryd.prog 35 #[.slice p k c] w fun e w' => ∃ (g cq : Nat) (cur : List Value), e = .returned (.slice (some ⟨g, 0, none⟩) (pd l).length cq) ∧ (pd l).length ≤ cq ∧ w.heap.size ≤ g ∧ w'.heap[g]? = some (.cells cur.toArray 5 (0, 0)) ∧ cur.take (pd l).length = (pd l).map w8 ∧ Gr w w' := by
  have HS := Lib.hid hS; clear hS
  obtain ⟨Z, hZ⟩ : ∃ z, zc k = z := ⟨_, rfl⟩
  have hZ2 : (k + 1 + Z) % 64 = 56 ∧ Z < 64 := by unfold zc at hZ; omega
  obtain ⟨k8, hk8⟩ : ∃ z, 8 * k = z := ⟨_, rfl⟩
  have hpd : pd l = pre l Z ++ be8 k8 := by unfold pd; rw [hl, hZ, hk8]
  have hM : (pd l).length = k + 1 + Z + 8 := by rw [hpd, List.length_append, pre_length, be8_length, hl]
  obtain ⟨M, hM2⟩ : ∃ z, k + 1 + Z + 8 = z := ⟨_, rfl⟩
  rw [hM2] at hM; rw [hM]
  have H := Ow.start w
  go_enter Tryd.func35, Tryd.ntmps35
  go_upto_region 0 with fail
  refine Kr.seqStartW ?_
  (refine Kr.seqQ (v := ?_) (a' := ?_) (by rfl) ?_ ?_ ?_; rotate_left 2; (focus (go_simp; first | done | rfl)); (focus ((try simp only [Kr.PT]); first | done | rfl)))
  refine Kr.seqDoneW ?_
  go_upto_region 1 with fail
  refine Kr.seqStartW ?_
  refine Kr.seqR (by rfl) (fun K hK => ?_)
  go_simp
  obtain ⟨y1, hy⟩ : ∃ y, w.alloc (.cells #[] 5) = y := ⟨_, rfl⟩
  obtain ⟨bnew, hbn⟩ : ∃ b, w.heap.size = b := ⟨_, rfl⟩
  have hnew := row_new2 H hy hbn; rw [hy, hbn]
  have hg : Gr w y1 := hy ▸ (Gr.refl _).alloc _
  obtain ⟨hR, HA⟩ := hnew; have HR := Lib.hid hR; clear hR
  replace H := H.grow hg
  clear hg hy hbn
  (refine Kr.outS hK (a' := ?_) ?_ ?_; rotate_left; (focus ((try simp only [Kr.PT]); first | done | rfl))); clear hK K
  (refine Kr.seqQ (v := ?_) (a' := ?_) (by rfl) ?_ ?_ ?_; rotate_left 2; (focus (go_simp; first | done | rfl)); (focus ((try simp only [Kr.PT]); first | done | rfl)))
  refine Kr.seqR (by rfl) (fun K hK => ?_)
  refine wp_appG (T := 5) (TS := 22) Tryd.underlying22 info8 rfl (.tmp 4) (.tmp 5) rfl (v := (.slice (some ⟨bnew, 0, none⟩) 0 0)) (r := []) (d := (l.map w8)) (p := p) (m := k) (c := c) (rs := []) rfl rfl (by rw [List.length_map]; exact hl) ((HS.out.grow H.g).srcG) (oneCell_bytes l) (hp) H HR.out HA (by show 0 + k ≤ 100000000; omega) (by decide) ?_
  intro v1 y2 H3 hR3 hA3
  clear H HR HA ; have H := H3; have HR := Lib.hid hR3; have HA := hA3; clear H3 hR3 hA3
  (refine Kr.outS hK (a' := ?_) ?_ ?_; rotate_left; (focus ((try simp only [Kr.PT]); first | done | rfl))); clear hK K
  refine Kr.seqR (by rfl) (fun K hK => ?_)
  go_simp
  obtain ⟨y3, hy⟩ : ∃ y, y2.alloc (.cells #[.int .u8 128] 5) = y := ⟨_, rfl⟩
  obtain ⟨bone, hbn⟩ : ∃ b, y2.heap.size = b := ⟨_, rfl⟩
  rw [hy, hbn]
  have hy2 : y2.alloc (.cells ([.int .u8 128] : List Value).toArray 5) = y3 := hy
  have hg : Gr y2 y3 := hy ▸ (Gr.refl _).alloc _
  have HLIT := Lib.hid (hbn ▸ hy2 ▸ lit_src (W := y2) (T := 5) [.int .u8 128]); clear hy2
  replace H := H.grow hg
  replace HR := Lib.hid (HR.out.grow hg)
  clear hg hy hbn
  (refine Kr.outS hK (a' := ?_) ?_ ?_; rotate_left; (focus ((try simp only [Kr.PT]); first | done | rfl))); clear hK K
  refine Kr.seqR (by rfl) (fun K hK => ?_)
  refine wp_appG (T := 5) (TS := 22) Tryd.underlying22 info8 rfl (.tmp 6) (.tmp 7) rfl (v := v1) (r := ([] ++ l.map w8)) (d := [w8 128#8]) (p := (some ⟨bone, 0, none⟩)) (m := 1) (c := 1) (rs := []) rfl rfl (rfl) (HLIT.out) (one_lit8 [128#8]) (fun e => by cases e) H HR.out HA (by rw [List.nil_append, List.length_map, hl]; omega) (by decide) ?_
  intro v2 y4 H3 hR3 hA3
  clear H HR HA HLIT; have H := H3; have HR := Lib.hid hR3; have HA := hA3; clear H3 hR3 hA3
  (refine Kr.outS hK (a' := ?_) ?_ ?_; rotate_left; (focus ((try simp only [Kr.PT]); first | done | rfl))); clear hK K
  (refine Kr.seqQ (v := ?_) (a' := ?_) (by rfl) ?_ ?_ ?_; rotate_left 2; (focus (go_simp; first | done | rfl)); (focus ((try simp only [Kr.PT]); first | done | rfl)))
  refine Kr.seqDoneW ?_
  have h0 : Hid (RowG 5 w.heap.size v2 ((pre l 0).map w8) y4) := Lib.hid (by have h9 := HR.out; rw [List.nil_append] at h9; unfold pre; rw [List.replicate_zero, List.append_nil, List.map_append]; exact h9)
  clear HR
  have H2 := Lib.hid H; have HA2 := Lib.hid HA; clear H HA
  go_wp2_with fail
  go_loopw [3] (fun v wr => ∃ (j : Nat), j ≤ Z ∧ Hid (RowG 5 w.heap.size v ((pre l j).map w8) wr) ∧ Hid (Apt v []) ∧ Hid (Ow w wr [])) (fun v _ => k + 66 - lenV v)
  case atStart => exact ⟨0, Nat.zero_le _, h0, HA2, H2⟩
  case round =>
    clear H2 h0 HA2; obtain ⟨j, hj, HR, HA, HH⟩ := hrel; have H := HH.out; replace HA := HA.out; clear HH
    obtain ⟨N, hN⟩ : ∃ z, k + 1 + j = z := ⟨_, rfl⟩
    have hXl : ((pre l j).map w8).length = N := by rw [List.length_map, pre_length, hl, hN]
    obtain ⟨q, cq, hu3, hcq, hqn, _⟩ := HR.out.src
    rw [hXl] at hu3 hcq
    have hlv := lenV_row HR.out; rw [hXl] at hlv
    subst hu3
    obtain ⟨e0, he0⟩ : ∃ z, N % 64 = z := ⟨_, rfl⟩
    by_cases hje : j = Z
    · have HC : (!decide ((e0 : Int) = 56)) = false := by rw [decide_eq_true (show (e0 : Int) = 56 by omega)]; rfl
      subst hje
      go_upto_region 2 with fail
      refine Kr.seqStartW ?_
      (refine Kr.seqQ (v := ?_) (a' := ?_) (by rfl) ?_ ?_ ?_; rotate_left 2; (focus (go_simp; first | done | rfl)); (focus ((try simp only [Kr.PT]); first | done | rfl)))
      (refine Kr.seqQ (v := .int .i64 (N : Int)) (a' := ?_) (by rfl) ?_ ?_ ?_; rotate_left 1; (focus (exact Kr.valOf rfl ((by go_simp)))); (focus ((try simp only [Kr.PT]); first | done | rfl)))
      (refine Kr.seqQ (v := .int .i64 (e0 : Int)) (a' := ?_) (by rfl) ?_ ?_ ?_; rotate_left 1; (focus (exact Kr.valOf rfl (remI (d := 64) (by decide) he0 (by decide)))); (focus ((try simp only [Kr.PT]); first | done | rfl)))
      (refine Kr.seqQ (v := .bool false) (a' := ?_) (by rfl) ?_ ?_ ?_; rotate_left 1; (focus (exact Kr.valOf rfl (neqI HC))); (focus ((try simp only [Kr.PT]); first | done | rfl)))
      refine Kr.seqDoneW ?_
      have hm8 : IntKind.i64.wrap ((8 : Int) * (k : Int)) = (k8 : Int) := wrap_nat (by omega) (by omega)
      go_upto_region 4 with fail
      refine Kr.seqStartW ?_
      (refine Kr.seqQ (v := ?_) (a' := ?_) (by rfl) ?_ ?_ ?_; rotate_left 2; (focus (go_simp; first | done | rfl)); (focus ((try simp only [Kr.PT]); first | done | rfl)))
      (refine Kr.seqQ (v := ?_) (a' := ?_) (by rfl) ?_ ?_ ?_; rotate_left 2; (focus (go_simp; first | done | rfl)); (focus ((try simp only [Kr.PT]); first | done | rfl)))
      (refine Kr.seqQ (v := .int .i64 (k : Int)) (a' := ?_) (by rfl) ?_ ?_ ?_; rotate_left 1; (focus (exact Kr.valOf rfl ((by go_simp)))); (focus ((try simp only [Kr.PT]); first | done | rfl)))
      (refine Kr.seqQ (v := .int .i64 (k8 : Int)) (a' := ?_) (by rfl) ?_ ?_ ?_; rotate_left 1; (focus (exact Kr.valOf rfl (mulI hm8))); (focus ((try simp only [Kr.PT]); first | done | rfl)))
      refine Kr.seqR (by rfl) (fun K hK => ?_)
      go_simp
      go_at_call 41
      refine (rBytes_v (n := k8)).mono ?_
      rintro e y5 ⟨p2, c2, rfl, hc2, hsr2, hg⟩
      replace H := H.grow hg
      replace HR := Lib.hid (HR.out.grow hg)
      have HS2 := Lib.hid hsr2; clear hsr2 hg
      (refine Kr.outS hK (a' := ?_) ?_ ?_; rotate_left; (focus ((try simp only [Kr.PT]); first | done | rfl))); clear hK K
      refine Kr.seqR (by rfl) (fun K hK => ?_)
      have hp2 : p2 = none → c2 = 0 := src_ne HS2.out (by rw [be8_length]; decide)
      refine wp_appG (T := 5) (TS := 22) Tryd.underlying22 info8 rfl (.tmp 16) (.tmp 20) rfl (v := (.slice q N cq)) (r := ((pre l j).map w8)) (d := ((be8 k8).map w8)) (p := p2) (m := 8) (c := c2) (rs := []) rfl rfl (by rw [List.length_map, be8_length]) (HS2.out.srcG) (oneCell_bytes _) (hp2) H HR.out HA (by rw [hXl]; omega) (by decide) ?_
      intro v3 y6 H3 hR3 hA3
      clear H HR HA ; have H := H3; have HR := Lib.hid hR3; have HA := hA3; clear H3 hR3 hA3
      (refine Kr.outS hK (a' := ?_) ?_ ?_; rotate_left; (focus ((try simp only [Kr.PT]); first | done | rfl))); clear hK K
      (refine Kr.seqQ (v := ?_) (a' := ?_) (by rfl) ?_ ?_ ?_; rotate_left 2; (focus (go_simp; first | done | rfl)); (focus ((try simp only [Kr.PT]); first | done | rfl)))
      refine Kr.seqDoneW ?_
      rw [← List.map_append, ← hpd] at HR; have hxl : ((pd l).map w8).length = M := by rw [List.length_map, hM]
      obtain ⟨g3, c3, cur3, hv3, hc3, hb3, hh3, ht3⟩ := rowG_own HR.out (by rw [hxl]; omega)
      rw [hxl] at hv3 hc3 ht3; have HH3 := Lib.hid hh3; clear hh3 HR; subst hv3
      have hk := trivial
      go_wp2
      refine bodyPost_ret (v := .slice (some ⟨g3, 0, none⟩) M c3) (by simp [results, Tryd.results35, go_sem, hk]) rfl ⟨g3, c3, cur3, rfl, hc3, hb3, HH3.out, ht3, H.g⟩
    · have hjz : j < Z := by omega
      have hN56 : e0 ≠ 56 := by omega
      have HC : (!decide ((e0 : Int) = 56)) = true := by rw [decide_eq_false (show ¬ (e0 : Int) = 56 by omega)]; rfl
      go_upto_region 2 with fail
      refine Kr.seqStartW ?_
      (refine Kr.seqQ (v := ?_) (a' := ?_) (by rfl) ?_ ?_ ?_; rotate_left 2; (focus (go_simp; first | done | rfl)); (focus ((try simp only [Kr.PT]); first | done | rfl)))
      (refine Kr.seqQ (v := .int .i64 (N : Int)) (a' := ?_) (by rfl) ?_ ?_ ?_; rotate_left 1; (focus (exact Kr.valOf rfl ((by go_simp)))); (focus ((try simp only [Kr.PT]); first | done | rfl)))
      (refine Kr.seqQ (v := .int .i64 (e0 : Int)) (a' := ?_) (by rfl) ?_ ?_ ?_; rotate_left 1; (focus (exact Kr.valOf rfl (remI (d := 64) (by decide) he0 (by decide)))); (focus ((try simp only [Kr.PT]); first | done | rfl)))
      (refine Kr.seqQ (v := .bool true) (a' := ?_) (by rfl) ?_ ?_ ?_; rotate_left 1; (focus (exact Kr.valOf rfl (neqI HC))); (focus ((try simp only [Kr.PT]); first | done | rfl)))
      refine Kr.seqDoneW ?_
      go_upto_region 3 with fail
      refine Kr.seqStartW ?_
      (refine Kr.seqQ (v := ?_) (a' := ?_) (by rfl) ?_ ?_ ?_; rotate_left 2; (focus (go_simp; first | done | rfl)); (focus ((try simp only [Kr.PT]); first | done | rfl)))
      refine Kr.seqR (by rfl) (fun K hK => ?_)
      go_simp
      obtain ⟨y7, hy⟩ : ∃ y, wr.alloc (.cells #[.int .u8 0] 5) = y := ⟨_, rfl⟩
      obtain ⟨bone, hbn⟩ : ∃ b, wr.heap.size = b := ⟨_, rfl⟩
      rw [hy, hbn]
      have hy2 : wr.alloc (.cells ([.int .u8 0] : List Value).toArray 5) = y7 := hy
      have hg : Gr wr y7 := hy ▸ (Gr.refl _).alloc _
      have HLIT := Lib.hid (hbn ▸ hy2 ▸ lit_src (W := wr) (T := 5) [.int .u8 0]); clear hy2
      replace H := H.grow hg
      replace HR := Lib.hid (HR.out.grow hg)
      clear hg hy hbn
      (refine Kr.outS hK (a' := ?_) ?_ ?_; rotate_left; (focus ((try simp only [Kr.PT]); first | done | rfl))); clear hK K
      refine Kr.seqR (by rfl) (fun K hK => ?_)
      refine wp_appG (T := 5) (TS := 22) Tryd.underlying22 info8 rfl (.tmp 13) (.tmp 14) rfl (v := (.slice q N cq)) (r := ((pre l j).map w8)) (d := [w8 0#8]) (p := (some ⟨bone, 0, none⟩)) (m := 1) (c := 1) (rs := []) rfl rfl (rfl) (HLIT.out) (one_lit8 [0#8]) (fun e => by cases e) H HR.out HA (by rw [hXl]; omega) (by decide) ?_
      intro v4 y8 H3 hR3 hA3
      clear H HR HA HLIT; have H := H3; have HR := Lib.hid hR3; have HA := hA3; clear H3 hR3 hA3
      (refine Kr.outS hK (a' := ?_) ?_ ?_; rotate_left; (focus ((try simp only [Kr.PT]); first | done | rfl))); clear hK K
      (refine Kr.seqQ (v := ?_) (a' := ?_) (by rfl) ?_ ?_ ?_; rotate_left 2; (focus (go_simp; first | done | rfl)); (focus ((try simp only [Kr.PT]); first | done | rfl)))
      refine Kr.seqDoneW ?_
      rw [show (pre l j).map w8 ++ [w8 0#8] = (pre l (j + 1)).map w8 by rw [pre_succ, List.map_append]; rfl] at HR
      have hlv4 := lenV_row HR.out; rw [List.length_map, pre_length, hl] at hlv4
      go_wp2; go_roundw
      case rel => exact ⟨j + 1, by omega, HR, Lib.hid HA, Lib.hid H⟩
      case measure => rw [hlv4]; simp only [lenV]; omega
end Go.Proofs.YtilbojcghladjaaDoor.Dg
