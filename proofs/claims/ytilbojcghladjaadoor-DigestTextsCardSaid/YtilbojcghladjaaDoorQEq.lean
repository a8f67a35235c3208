/- slices.Clone at bytes. -/
import Derived.Test.YtilbojcghladjaaDoorQEp
import Derived.Deep.Cut
namespace Go.Proofs.YtilbojcghladjaaDoor.Dg
open Go Go.RowKit Go.Proofs.YtilbojcghladjaaDoor.Ne Go.Proofs.YtilbojcghladjaaDoor.Kr

theorem xor8 {w : World} {x y z : BitVec 8} (hz : x ^^^ y = z) : (binOp .xor 5 (.int .u8 (x.toNat : Int)) (.int .u8 (y.toNat : Int))).run Tryd.prog w = .ok (.int .u8 (z.toNat : Int)) w := by
  have e : bits BinOp.xor IntKind.u8 (x.toNat : Int) (y.toNat : Int) = (z.toNat : Int) := by
    rw [u8_xor_nat _ _ x.isLt y.isLt, ← hz]; simp
  clear hz
  go_simp
theorem eqBool {w : World} {b : Bool} : (binOp .eql 4 (.bool b) (.bool b)).run Tryd.prog w = .ok (.bool true) w := by
  cases b <;> go_simp
theorem take_set8 {cur : List Value} {l : List (BitVec 8)} {n i : Nat} {z : BitVec 8} (h : cur.take n = l.map w8) : (cur.set i (.int .u8 (z.toNat : Int))).take n = (l.set i z).map w8 := by
  rw [List.take_set, h, List.map_set]; rfl
theorem cur_get {cur : List Value} {l : List (BitVec 8)} {n i : Nat} {x : BitVec 8} (h : cur.take n = l.map w8) (hi : i < n) (hx : l[i]? = some x) : cur[i]? = some (.int .u8 (x.toNat : Int)) := of_take h hi (map_get8 hx)
theorem notNil {w : World} {a : Addr} {n c : Nat} : (binOp .eql 22 (.slice (some a) n c) (.slice none 0 0)).run Tryd.prog w = .ok (.bool false) w := by
  kernel_rfl

set_option linter.unusedSimpArgs false in
set_option maxRecDepth 100000 in
set_option maxHeartbeats 16000000 in
theorem Clone_v {p : Option Addr} {n c : Nat} {l : List (BitVec 8)} {w : World} (hS : SrcB p l w) (hl : l.length = n) (hn : n ≤ 1000000) (h0 : 0 < n) :
    Calls Tryd.prog 30 #[.slice p n c] w fun e w' => ∃ g cap cur, e = .returned (.slice (some ⟨g, 0, none⟩) n cap) ∧ n ≤ cap ∧ w.heap.size ≤ g ∧ w'.heap[g]? = some (.cells (cur : List Value).toArray 5 (0, 0)) ∧ cur.take n = l.map w8 ∧ Gr w w' := by
  obtain ⟨b, off, hp, hB⟩ := src_some hS (by omega); subst hp; have HS := Lib.hid hS; clear hS hB
  have H := Ow.start w
  go_enter Tryd.func30, Tryd.ntmps30
  go_upto_region 0 with fail
  refine Kr.seqStartW ?_
  (refine Kr.seqQ (v := ?_) (a' := ?_) (by rfl) ?_ ?_ ?_; rotate_left 2; (focus (go_simp; first | done | rfl)); (focus ((try simp only [Kr.PT]); first | done | rfl)))
  refine Kr.seqDoneW ?_
  go_upto_region 1 with fail
  refine Kr.seqStartW ?_
  (refine Kr.seqQ (v := ?_) (a' := ?_) (by rfl) ?_ ?_ ?_; rotate_left 2; (focus (go_simp; first | done | rfl)); (focus ((try simp only [Kr.PT]); first | done | rfl)))
  (refine Kr.seqQ (v := .bool false) (a' := ?_) (by rfl) ?_ ?_ ?_; rotate_left 1; (focus (exact Kr.valOf rfl (notNil))); (focus ((try simp only [Kr.PT]); first | done | rfl)))
  refine Kr.seqDoneW ?_
  go_upto_region 3 with fail
  refine Kr.seqStartW ?_
  refine Kr.seqR (by rfl) (fun K hK => ?_)
  go_simp
  obtain ⟨y1, hy⟩ : ∃ y, w.alloc (.cells #[] 5) = y := ⟨_, rfl⟩
  obtain ⟨bnew, hbn⟩ : ∃ b, w.heap.size = b := ⟨_, rfl⟩
  have hnew := row_new2 H hy hbn; rw [hy, hbn]
  have hg : Gr w y1 := hy ▸ (Gr.refl _).alloc _
  obtain ⟨hR, HA⟩ := hnew; have HR := Lib.hid hR; clear hR
  replace H := H.grow hg
  clear hg hy hbn
  (refine Kr.outS hK (a' := ?_) ?_ ?_; rotate_left; (focus ((try simp only [Kr.PT]); first | done | rfl))); clear hK K
  (refine Kr.seqQ (v := ?_) (a' := ?_) (by rfl) ?_ ?_ ?_; rotate_left 2; (focus (go_simp; first | done | rfl)); (focus ((try simp only [Kr.PT]); first | done | rfl)))
  refine Kr.seqR (by rfl) (fun K hK => ?_)
  refine wp_appG (T := 5) (TS := 22) Tryd.underlying22 info8 rfl (.tmp 5) (.tmp 6) rfl (v := .slice (some ⟨bnew, 0, none⟩) 0 0) (r := []) (d := (l.map w8)) (p := some ⟨b, off, none⟩) (m := n) (c := c) (rs := []) rfl rfl (by rw [List.length_map]; exact hl) ((HS.out.grow H.g).srcG) (one_lit8 l) ((fun e => by cases e)) H HR.out HA (by show 0 + n ≤ _; omega) (by decide) ?_
  intro v1 y2 H3 hR3 hA3
  clear H HR HA ; have H := H3; have HR := Lib.hid hR3; have HA := hA3; clear H3 hR3 hA3
  (refine Kr.outS hK (a' := ?_) ?_ ?_; rotate_left; (focus ((try simp only [Kr.PT]); first | done | rfl))); clear hK K
  (refine Kr.seqQ (v := ?_) (a' := ?_) (by rfl) ?_ ?_ ?_; rotate_left 2; (focus (go_simp; first | done | rfl)); (focus ((try simp only [Kr.PT]); first | done | rfl)))
  refine Kr.seqDoneW ?_
  rw [List.nil_append] at HR; obtain ⟨g, cap, cur, hv, hcap, hg, hh, htk⟩ := rowG_own HR.out (by rw [List.length_map]; omega)
  rw [List.length_map, hl] at hv hcap htk; subst hv; have HH := Lib.hid hh; have HTK := Lib.hid htk; clear hh htk HR HA
  have hk := trivial
  go_wp2
  refine bodyPost_ret (v := .slice (some ⟨g, 0, none⟩) n cap) (by simp [results, Tryd.results30, go_sem, hk]) rfl ⟨g, cap, cur, rfl, hcap, hg, HH.out, HTK.out, H.g⟩
end Go.Proofs.YtilbojcghladjaaDoor.Dg
