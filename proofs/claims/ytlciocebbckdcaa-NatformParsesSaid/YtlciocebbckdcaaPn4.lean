/- A part of the proofs, joined of smaller texts: Fn, Rl, Nlaw, Pa, Pb. -/
import Derived.Test.YtlciocebbckdcaaPn3
import Derived.Deep.Cut
import Derived.Test.YtlciocebbckdcaaPn1
import Derived.Test.YtlciocebbckdcaaRows
import Derived.WalkKit
import Derived.ProofKit
import Derived.OpenShut
import Derived.OpenVars
import Derived.ChangeSlices

/- The contract of natform's read. -/
namespace Go.Proofs.Ytlciocebbckdcaa.Ff
open Go.RowKit Go.Shelf Go.Proofs.Ytlciocebbckdcaa.Nm Go.Proofs.Ytlciocebbckdcaa.Ne Go.Proofs.Ytlciocebbckdcaa.Nf Go.Proofs.Ytlciocebbckdcaa.Nk Go.Proofs.Ytlciocebbckdcaa.Nv Go.Proofs.Ytlciocebbckdcaa.Nr2 Go.Proofs.Ytlciocebbckdcaa.Kr Go.Proofs.Ytlciocebbckdcaa.Fb

set_option linter.unusedSimpArgs false in
set_option maxRecDepth 100000 in
set_option maxHeartbeats 16000000 in
theorem read_big {S : ByteArray} {g : Nat} {w : World} (h0 : 1000 < S.size) :
    Calls Try.prog 104 #[.string S, .int .i64 (g : Int)] w (HasE 0 5 w) := by
  have h1 : (1000 : Int) < (S.size : Int) := by omega
  have H := Sta.start w
  go_enter Try.func104, Try.ntmps104
  go_upto_region 0 with fail
  refine Kr.seqStartW ?_
  refine Kr.seqR (by rfl) (fun K hK => ?_)
  go_simp
  obtain ⟨y1, hy⟩ : ∃ y, w.alloc (.cells #[.slice none 0 0] 24) = y := ⟨_, rfl⟩
  obtain ⟨br, hb⟩ : ∃ b, w.heap.size = b := ⟨_, rfl⟩
  rw [hy, hb]
  replace H := H.alloc hy hb rfl
  clear hy hb
  (refine Kr.outS hK (a' := ?_) ?_ ?_; rotate_left; (focus ((try simp only [Act.put, List.getElem_toArray, List.getElem_cons_zero, List.getElem_cons_succ, List.setIfInBounds_toArray, List.set_cons_zero, List.set_cons_succ]); first | done | rfl))); clear hK K
  (refine Kr.seqQ (v := ?_) (a' := ?_) (by rfl) ?_ ?_ ?_; rotate_left 2; (focus (go_simp; first | done | rfl)); (focus ((try simp only [Act.put, List.getElem_toArray, List.getElem_cons_zero, List.getElem_cons_succ, List.setIfInBounds_toArray, List.set_cons_zero, List.set_cons_succ]); first | done | rfl)))
  refine Kr.seqDoneW ?_
  go_upto_region 1 with fail
  refine Kr.seqStartW ?_
  iterate 4 (refine Kr.seqQ (v := ?_) (a' := ?_) (by rfl) ?_ ?_ ?_; rotate_left 2; (focus (go_simp; first | done | rfl)); (focus ((try simp only [Act.put, List.getElem_toArray, List.getElem_cons_zero, List.getElem_cons_succ, List.setIfInBounds_toArray, List.set_cons_zero, List.set_cons_succ]); first | done | rfl)))
  refine Kr.seqDoneW ?_
  go_upto_region 2 with fail
  refine Kr.seqStartW ?_
  (refine Kr.seqQ (v := ?_) (a' := ?_) (by rfl) ?_ ?_ ?_; rotate_left 2; (focus (go_simp; first | done | rfl)); (focus ((try simp only [Act.put, List.getElem_toArray, List.getElem_cons_zero, List.getElem_cons_succ, List.setIfInBounds_toArray, List.set_cons_zero, List.set_cons_succ]); first | done | rfl)))
  have hk := H.c
  simp only [Kr.Cells] at hk
  refine Kr.seqR (by rfl) (fun K hK => ?_)
  go_simp
  clear hk
  obtain ⟨y2, hy⟩ : ∃ y, y1.setCell ⟨br, 0, none⟩ (.slice none 0 0) = y := ⟨_, rfl⟩
  rw [hy]
  replace H := H.store 0 hy rfl rfl
  dsimp only [List.set] at H
  clear hy
  (refine Kr.outS hK (a' := ?_) ?_ ?_; rotate_left; (focus ((try simp only [Act.put, List.getElem_toArray, List.getElem_cons_zero, List.getElem_cons_succ, List.setIfInBounds_toArray, List.set_cons_zero, List.set_cons_succ]); first | done | rfl))); clear hK K
  (refine Kr.seqQ (v := ?_) (a' := ?_) (by rfl) ?_ ?_ ?_; rotate_left 2; (focus (go_simp; first | done | rfl)); (focus ((try simp only [Act.put, List.getElem_toArray, List.getElem_cons_zero, List.getElem_cons_succ, List.setIfInBounds_toArray, List.set_cons_zero, List.set_cons_succ]); first | done | rfl)))
  refine Kr.seqDoneW ?_
  have hk := H.c
  simp only [Kr.Cells] at hk
  go_wp2
  refine bodyPost_ret (v := .tuple #[.agg #[.slice none 0 0], .int .i64 5]) (by simp [results, Try.results104, go_sem, hk]) rfl ⟨none, 0, 0, rfl, nw_none _, H.g⟩
theorem run_eql_t {P : Program} {w : World} (t : TypeId) {a : ByteArray} (b : ByteArray) (h : a = b) : (binOp .eql t (.string a) (.string b)).run P w = .ok (.bool true) w := by rw [run_eql, decide_eq_true h]
theorem run_eql_f {P : Program} {w : World} (t : TypeId) {a : ByteArray} (b : ByteArray) (h : a ≠ b) : (binOp .eql t (.string a) (.string b)).run P w = .ok (.bool false) w := by rw [run_eql, decide_eq_false h]
theorem run_neq_t {P : Program} {w : World} (t : TypeId) {a : ByteArray} (b : ByteArray) (h : a ≠ b) : (binOp .neq t (.string a) (.string b)).run P w = .ok (.bool true) w := by rw [run_neq, decide_eq_false h]; rfl
theorem run_neq_f {P : Program} {w : World} (t : TypeId) {a : ByteArray} (b : ByteArray) (h : a = b) : (binOp .neq t (.string a) (.string b)).run P w = .ok (.bool false) w := by rw [run_neq, decide_eq_true h]; rfl
theorem run_at0 {P : Program} {w : World} {t : TypeId} (ht : P.underlying t = some .string) {s : ByteArray} {c : Nat} (h0 : 0 < s.size) (hc : (bs s)[0]?.getD 0 = c) : (Instr.index t (.string s) (.int .i64 0)).run P w = .ok (.int .u8 (c : Int)) w := by
  have h := run_at (P := P) (w := w) ht .i64 s h0
  rw [hc] at h
  exact h
set_option linter.unusedSimpArgs false in
set_option maxRecDepth 100000 in
set_option maxHeartbeats 16000000 in
theorem read_empty {S : ByteArray} {g : Nat} {w : World} (h0 : S.size ≤ 1000) (hs : S = ⟨#[]⟩) :
    Calls Try.prog 104 #[.string S, .int .i64 (g : Int)] w (HasE 0 3 w) := by
  have HS := Lib.hid hs
  clear hs
  have h1 : ¬ (1000 : Int) < (S.size : Int) := by omega
  have H := Sta.start w
  go_enter Try.func104, Try.ntmps104
  go_upto_region 0 with fail
  refine Kr.seqStartW ?_
  refine Kr.seqR (by rfl) (fun K hK => ?_)
  go_simp
  obtain ⟨y1, hy⟩ : ∃ y, w.alloc (.cells #[.slice none 0 0] 24) = y := ⟨_, rfl⟩
  obtain ⟨br, hb⟩ : ∃ b, w.heap.size = b := ⟨_, rfl⟩
  rw [hy, hb]
  replace H := H.alloc hy hb rfl
  clear hy hb
  (refine Kr.outS hK (a' := ?_) ?_ ?_; rotate_left; (focus ((try simp only [Act.put, List.getElem_toArray, List.getElem_cons_zero, List.getElem_cons_succ, List.setIfInBounds_toArray, List.set_cons_zero, List.set_cons_succ]); first | done | rfl))); clear hK K
  (refine Kr.seqQ (v := ?_) (a' := ?_) (by rfl) ?_ ?_ ?_; rotate_left 2; (focus (go_simp; first | done | rfl)); (focus ((try simp only [Act.put, List.getElem_toArray, List.getElem_cons_zero, List.getElem_cons_succ, List.setIfInBounds_toArray, List.set_cons_zero, List.set_cons_succ]); first | done | rfl)))
  refine Kr.seqDoneW ?_
  go_upto_region 1 with fail
  refine Kr.seqStartW ?_
  iterate 4 (refine Kr.seqQ (v := ?_) (a' := ?_) (by rfl) ?_ ?_ ?_; rotate_left 2; (focus (go_simp; first | done | rfl)); (focus ((try simp only [Act.put, List.getElem_toArray, List.getElem_cons_zero, List.getElem_cons_succ, List.setIfInBounds_toArray, List.set_cons_zero, List.set_cons_succ]); first | done | rfl)))
  refine Kr.seqDoneW ?_
  clear h1 h0
  go_upto_region 3 with fail
  refine Kr.seqStartW ?_
  (refine Kr.seqQ (v := ?_) (a' := ?_) (by rfl) ?_ ?_ ?_; rotate_left 2; (focus (go_simp; first | done | rfl)); (focus ((try simp only [Act.put, List.getElem_toArray, List.getElem_cons_zero, List.getElem_cons_succ, List.setIfInBounds_toArray, List.set_cons_zero, List.set_cons_succ]); first | done | rfl)))
  (refine Kr.seqQ (v := .bool true) (a' := ?_) (by rfl) ?_ ?_ ?_; rotate_left 1; (focus (exact val_of rfl (run_eql_t 9 _ HS.out))); (focus ((try simp only [Act.put, List.getElem_toArray, List.getElem_cons_zero, List.getElem_cons_succ, List.setIfInBounds_toArray, List.set_cons_zero, List.set_cons_succ]); first | done | rfl)))
  (refine Kr.seqQ (v := ?_) (a' := ?_) (by rfl) ?_ ?_ ?_; rotate_left 2; (focus (go_simp; first | done | rfl)); (focus ((try simp only [Act.put, List.getElem_toArray, List.getElem_cons_zero, List.getElem_cons_succ, List.setIfInBounds_toArray, List.set_cons_zero, List.set_cons_succ]); first | done | rfl)))
  (refine Kr.seqSkipQ (a' := ?_) (by rfl) ?_ ?_; rotate_left; (focus ((try simp only [Act.put, List.getElem_toArray, List.getElem_cons_zero, List.getElem_cons_succ, List.setIfInBounds_toArray, List.set_cons_zero, List.set_cons_succ]); first | done | rfl)))
  (refine Kr.seqSkipQ (a' := ?_) (by rfl) ?_ ?_; rotate_left; (focus ((try simp only [Act.put, List.getElem_toArray, List.getElem_cons_zero, List.getElem_cons_succ, List.setIfInBounds_toArray, List.set_cons_zero, List.set_cons_succ]); first | done | rfl)))
  (refine Kr.seqSkipQ (a' := ?_) (by rfl) ?_ ?_; rotate_left; (focus ((try simp only [Act.put, List.getElem_toArray, List.getElem_cons_zero, List.getElem_cons_succ, List.setIfInBounds_toArray, List.set_cons_zero, List.set_cons_succ]); first | done | rfl)))
  (refine Kr.seqSkipQ (a' := ?_) (by rfl) ?_ ?_; rotate_left; (focus ((try simp only [Act.put, List.getElem_toArray, List.getElem_cons_zero, List.getElem_cons_succ, List.setIfInBounds_toArray, List.set_cons_zero, List.set_cons_succ]); first | done | rfl)))
  (refine Kr.seqSkipQ (a' := ?_) (by rfl) ?_ ?_; rotate_left; (focus ((try simp only [Act.put, List.getElem_toArray, List.getElem_cons_zero, List.getElem_cons_succ, List.setIfInBounds_toArray, List.set_cons_zero, List.set_cons_succ]); first | done | rfl)))
  (refine Kr.seqSkipQ (a' := ?_) (by rfl) ?_ ?_; rotate_left; (focus ((try simp only [Act.put, List.getElem_toArray, List.getElem_cons_zero, List.getElem_cons_succ, List.setIfInBounds_toArray, List.set_cons_zero, List.set_cons_succ]); first | done | rfl)))
  (refine Kr.seqSkipQ (a' := ?_) (by rfl) ?_ ?_; rotate_left; (focus ((try simp only [Act.put, List.getElem_toArray, List.getElem_cons_zero, List.getElem_cons_succ, List.setIfInBounds_toArray, List.set_cons_zero, List.set_cons_succ]); first | done | rfl)))
  iterate 2 (refine Kr.seqQ (v := ?_) (a' := ?_) (by rfl) ?_ ?_ ?_; rotate_left 2; (focus (go_simp; first | done | rfl)); (focus ((try simp only [Act.put, List.getElem_toArray, List.getElem_cons_zero, List.getElem_cons_succ, List.setIfInBounds_toArray, List.set_cons_zero, List.set_cons_succ]); first | done | rfl)))
  refine Kr.seqDoneW ?_
  go_upto_region 4 with fail
  refine Kr.seqStartW ?_
  (refine Kr.seqQ (v := ?_) (a' := ?_) (by rfl) ?_ ?_ ?_; rotate_left 2; (focus (go_simp; first | done | rfl)); (focus ((try simp only [Act.put, List.getElem_toArray, List.getElem_cons_zero, List.getElem_cons_succ, List.setIfInBounds_toArray, List.set_cons_zero, List.set_cons_succ]); first | done | rfl)))
  have hk := H.c
  simp only [Kr.Cells] at hk
  refine Kr.seqR (by rfl) (fun K hK => ?_)
  go_simp
  clear hk
  obtain ⟨y2, hy⟩ : ∃ y, y1.setCell ⟨br, 0, none⟩ (.slice none 0 0) = y := ⟨_, rfl⟩
  rw [hy]
  replace H := H.store 0 hy rfl rfl
  dsimp only [List.set] at H
  clear hy
  (refine Kr.outS hK (a' := ?_) ?_ ?_; rotate_left; (focus ((try simp only [Act.put, List.getElem_toArray, List.getElem_cons_zero, List.getElem_cons_succ, List.setIfInBounds_toArray, List.set_cons_zero, List.set_cons_succ]); first | done | rfl))); clear hK K
  (refine Kr.seqQ (v := ?_) (a' := ?_) (by rfl) ?_ ?_ ?_; rotate_left 2; (focus (go_simp; first | done | rfl)); (focus ((try simp only [Act.put, List.getElem_toArray, List.getElem_cons_zero, List.getElem_cons_succ, List.setIfInBounds_toArray, List.set_cons_zero, List.set_cons_succ]); first | done | rfl)))
  refine Kr.seqDoneW ?_
  have hk := H.c
  simp only [Kr.Cells] at hk
  go_wp2
  refine bodyPost_ret (v := .tuple #[.agg #[.slice none 0 0], .int .i64 3]) (by simp [results, Try.results104, go_sem, hk]) rfl ⟨none, 0, 0, rfl, nw_none _, H.g⟩
set_option linter.unusedSimpArgs false in
set_option maxRecDepth 100000 in
set_option maxHeartbeats 16000000 in
theorem read_lead {S : ByteArray} {g : Nat} {w : World} (h0 : S.size ≤ 1000) (hs : S ≠ ⟨#[]⟩) (hn : S ≠ ⟨#[48]⟩) (hn0 : 0 < S.size) (hc0 : (bs S)[0]?.getD 0 = 48) :
    Calls Try.prog 104 #[.string S, .int .i64 (g : Int)] w (HasE 0 3 w) := by
  have HS := Lib.hid hs
  have HN := Lib.hid hn
  have HN0 := Lib.hid hn0
  have HC0 := Lib.hid hc0
  clear hs hn hn0 hc0
  have h1 : ¬ (1000 : Int) < (S.size : Int) := by omega
  have H := Sta.start w
  go_enter Try.func104, Try.ntmps104
  go_upto_region 0 with fail
  refine Kr.seqStartW ?_
  refine Kr.seqR (by rfl) (fun K hK => ?_)
  go_simp
  obtain ⟨y1, hy⟩ : ∃ y, w.alloc (.cells #[.slice none 0 0] 24) = y := ⟨_, rfl⟩
  obtain ⟨br, hb⟩ : ∃ b, w.heap.size = b := ⟨_, rfl⟩
  rw [hy, hb]
  replace H := H.alloc hy hb rfl
  clear hy hb
  (refine Kr.outS hK (a' := ?_) ?_ ?_; rotate_left; (focus ((try simp only [Act.put, List.getElem_toArray, List.getElem_cons_zero, List.getElem_cons_succ, List.setIfInBounds_toArray, List.set_cons_zero, List.set_cons_succ]); first | done | rfl))); clear hK K
  (refine Kr.seqQ (v := ?_) (a' := ?_) (by rfl) ?_ ?_ ?_; rotate_left 2; (focus (go_simp; first | done | rfl)); (focus ((try simp only [Act.put, List.getElem_toArray, List.getElem_cons_zero, List.getElem_cons_succ, List.setIfInBounds_toArray, List.set_cons_zero, List.set_cons_succ]); first | done | rfl)))
  refine Kr.seqDoneW ?_
  go_upto_region 1 with fail
  refine Kr.seqStartW ?_
  iterate 4 (refine Kr.seqQ (v := ?_) (a' := ?_) (by rfl) ?_ ?_ ?_; rotate_left 2; (focus (go_simp; first | done | rfl)); (focus ((try simp only [Act.put, List.getElem_toArray, List.getElem_cons_zero, List.getElem_cons_succ, List.setIfInBounds_toArray, List.set_cons_zero, List.set_cons_succ]); first | done | rfl)))
  refine Kr.seqDoneW ?_
  clear h1 h0
  go_upto_region 3 with fail
  refine Kr.seqStartW ?_
  (refine Kr.seqQ (v := ?_) (a' := ?_) (by rfl) ?_ ?_ ?_; rotate_left 2; (focus (go_simp; first | done | rfl)); (focus ((try simp only [Act.put, List.getElem_toArray, List.getElem_cons_zero, List.getElem_cons_succ, List.setIfInBounds_toArray, List.set_cons_zero, List.set_cons_succ]); first | done | rfl)))
  (refine Kr.seqQ (v := .bool false) (a' := ?_) (by rfl) ?_ ?_ ?_; rotate_left 1; (focus (exact val_of rfl (run_eql_f 9 _ HS.out))); (focus ((try simp only [Act.put, List.getElem_toArray, List.getElem_cons_zero, List.getElem_cons_succ, List.setIfInBounds_toArray, List.set_cons_zero, List.set_cons_succ]); first | done | rfl)))
  iterate 2 (refine Kr.seqQ (v := ?_) (a' := ?_) (by rfl) ?_ ?_ ?_; rotate_left 2; (focus (go_simp; first | done | rfl)); (focus ((try simp only [Act.put, List.getElem_toArray, List.getElem_cons_zero, List.getElem_cons_succ, List.setIfInBounds_toArray, List.set_cons_zero, List.set_cons_succ]); first | done | rfl)))
  (refine Kr.seqQ (v := .int .u8 48) (a' := ?_) (by rfl) ?_ ?_ ?_; rotate_left 1; (focus (exact val_of rfl (run_at0 Try.underlying9 HN0.out HC0.out))); (focus ((try simp only [Act.put, List.getElem_toArray, List.getElem_cons_zero, List.getElem_cons_succ, List.setIfInBounds_toArray, List.set_cons_zero, List.set_cons_succ]); first | done | rfl)))
  iterate 3 (refine Kr.seqQ (v := ?_) (a' := ?_) (by rfl) ?_ ?_ ?_; rotate_left 2; (focus (go_simp; first | done | rfl)); (focus ((try simp only [Act.put, List.getElem_toArray, List.getElem_cons_zero, List.getElem_cons_succ, List.setIfInBounds_toArray, List.set_cons_zero, List.set_cons_succ]); first | done | rfl)))
  (refine Kr.seqQ (v := .bool true) (a' := ?_) (by rfl) ?_ ?_ ?_; rotate_left 1; (focus (exact val_of rfl (run_neq_t 9 _ HN.out))); (focus ((try simp only [Act.put, List.getElem_toArray, List.getElem_cons_zero, List.getElem_cons_succ, List.setIfInBounds_toArray, List.set_cons_zero, List.set_cons_succ]); first | done | rfl)))
  iterate 3 (refine Kr.seqQ (v := ?_) (a' := ?_) (by rfl) ?_ ?_ ?_; rotate_left 2; (focus (go_simp; first | done | rfl)); (focus ((try simp only [Act.put, List.getElem_toArray, List.getElem_cons_zero, List.getElem_cons_succ, List.setIfInBounds_toArray, List.set_cons_zero, List.set_cons_succ]); first | done | rfl)))
  refine Kr.seqDoneW ?_
  go_upto_region 4 with fail
  refine Kr.seqStartW ?_
  (refine Kr.seqQ (v := ?_) (a' := ?_) (by rfl) ?_ ?_ ?_; rotate_left 2; (focus (go_simp; first | done | rfl)); (focus ((try simp only [Act.put, List.getElem_toArray, List.getElem_cons_zero, List.getElem_cons_succ, List.setIfInBounds_toArray, List.set_cons_zero, List.set_cons_succ]); first | done | rfl)))
  have hk := H.c
  simp only [Kr.Cells] at hk
  refine Kr.seqR (by rfl) (fun K hK => ?_)
  go_simp
  clear hk
  obtain ⟨y2, hy⟩ : ∃ y, y1.setCell ⟨br, 0, none⟩ (.slice none 0 0) = y := ⟨_, rfl⟩
  rw [hy]
  replace H := H.store 0 hy rfl rfl
  dsimp only [List.set] at H
  clear hy
  (refine Kr.outS hK (a' := ?_) ?_ ?_; rotate_left; (focus ((try simp only [Act.put, List.getElem_toArray, List.getElem_cons_zero, List.getElem_cons_succ, List.setIfInBounds_toArray, List.set_cons_zero, List.set_cons_succ]); first | done | rfl))); clear hK K
  (refine Kr.seqQ (v := ?_) (a' := ?_) (by rfl) ?_ ?_ ?_; rotate_left 2; (focus (go_simp; first | done | rfl)); (focus ((try simp only [Act.put, List.getElem_toArray, List.getElem_cons_zero, List.getElem_cons_succ, List.setIfInBounds_toArray, List.set_cons_zero, List.set_cons_succ]); first | done | rfl)))
  refine Kr.seqDoneW ?_
  have hk := H.c
  simp only [Kr.Cells] at hk
  go_wp2
  refine bodyPost_ret (v := .tuple #[.agg #[.slice none 0 0], .int .i64 3]) (by simp [results, Try.results104, go_sem, hk]) rfl ⟨none, 0, 0, rfl, nw_none _, H.g⟩
theorem bs_nil {S : ByteArray} (h : bs S = []) : S = ⟨#[]⟩ := by rw [← str_bs S, h]; rfl
set_option linter.unusedSimpArgs false in
set_option maxRecDepth 100000 in
set_option maxHeartbeats 16000000 in
theorem read_one {S : ByteArray} {g : Nat} {w : World} (h0 : S.size ≤ 1000) (hs : S ≠ ⟨#[]⟩) (hn : S = ⟨#[48]⟩) (hn0 : 0 < S.size) (hc0 : (bs S)[0]?.getD 0 = 48) (hg : 2 ≤ g ∧ g ≤ 16) (hbad : ¬ ((bs S).head? = some 48 ∧ bs S ≠ [48])) :
    Calls Try.prog 104 #[.string S, .int .i64 (g : Int)] w fun e w' => ∃ z k, Parsed g (bs S) z k ∧ HasE z k w e w' := by
  have HBAD := Lib.hid hbad
  clear hbad
  have HS := Lib.hid hs
  have HN := Lib.hid hn
  have HN0 := Lib.hid hn0
  have HC0 := Lib.hid hc0
  have HG := Lib.hid hg
  clear hs hn hn0 hc0 hg
  have h1 : ¬ (1000 : Int) < (S.size : Int) := by omega
  have H := Sta.start w
  go_enter Try.func104, Try.ntmps104
  go_upto_region 0 with fail
  refine Kr.seqStartW ?_
  refine Kr.seqR (by rfl) (fun K hK => ?_)
  go_simp
  obtain ⟨y1, hy⟩ : ∃ y, w.alloc (.cells #[.slice none 0 0] 24) = y := ⟨_, rfl⟩
  obtain ⟨br, hb⟩ : ∃ b, w.heap.size = b := ⟨_, rfl⟩
  rw [hy, hb]
  replace H := H.alloc hy hb rfl
  clear hy hb
  (refine Kr.outS hK (a' := ?_) ?_ ?_; rotate_left; (focus ((try simp only [Act.put, List.getElem_toArray, List.getElem_cons_zero, List.getElem_cons_succ, List.setIfInBounds_toArray, List.set_cons_zero, List.set_cons_succ]); first | done | rfl))); clear hK K
  (refine Kr.seqQ (v := ?_) (a' := ?_) (by rfl) ?_ ?_ ?_; rotate_left 2; (focus (go_simp; first | done | rfl)); (focus ((try simp only [Act.put, List.getElem_toArray, List.getElem_cons_zero, List.getElem_cons_succ, List.setIfInBounds_toArray, List.set_cons_zero, List.set_cons_succ]); first | done | rfl)))
  refine Kr.seqDoneW ?_
  go_upto_region 1 with fail
  refine Kr.seqStartW ?_
  iterate 4 (refine Kr.seqQ (v := ?_) (a' := ?_) (by rfl) ?_ ?_ ?_; rotate_left 2; (focus (go_simp; first | done | rfl)); (focus ((try simp only [Act.put, List.getElem_toArray, List.getElem_cons_zero, List.getElem_cons_succ, List.setIfInBounds_toArray, List.set_cons_zero, List.set_cons_succ]); first | done | rfl)))
  refine Kr.seqDoneW ?_
  clear h1
  go_upto_region 3 with fail
  refine Kr.seqStartW ?_
  (refine Kr.seqQ (v := ?_) (a' := ?_) (by rfl) ?_ ?_ ?_; rotate_left 2; (focus (go_simp; first | done | rfl)); (focus ((try simp only [Act.put, List.getElem_toArray, List.getElem_cons_zero, List.getElem_cons_succ, List.setIfInBounds_toArray, List.set_cons_zero, List.set_cons_succ]); first | done | rfl)))
  (refine Kr.seqQ (v := .bool false) (a' := ?_) (by rfl) ?_ ?_ ?_; rotate_left 1; (focus (exact val_of rfl (run_eql_f 9 _ HS.out))); (focus ((try simp only [Act.put, List.getElem_toArray, List.getElem_cons_zero, List.getElem_cons_succ, List.setIfInBounds_toArray, List.set_cons_zero, List.set_cons_succ]); first | done | rfl)))
  iterate 2 (refine Kr.seqQ (v := ?_) (a' := ?_) (by rfl) ?_ ?_ ?_; rotate_left 2; (focus (go_simp; first | done | rfl)); (focus ((try simp only [Act.put, List.getElem_toArray, List.getElem_cons_zero, List.getElem_cons_succ, List.setIfInBounds_toArray, List.set_cons_zero, List.set_cons_succ]); first | done | rfl)))
  (refine Kr.seqQ (v := .int .u8 48) (a' := ?_) (by rfl) ?_ ?_ ?_; rotate_left 1; (focus (exact val_of rfl (run_at0 Try.underlying9 HN0.out HC0.out))); (focus ((try simp only [Act.put, List.getElem_toArray, List.getElem_cons_zero, List.getElem_cons_succ, List.setIfInBounds_toArray, List.set_cons_zero, List.set_cons_succ]); first | done | rfl)))
  iterate 3 (refine Kr.seqQ (v := ?_) (a' := ?_) (by rfl) ?_ ?_ ?_; rotate_left 2; (focus (go_simp; first | done | rfl)); (focus ((try simp only [Act.put, List.getElem_toArray, List.getElem_cons_zero, List.getElem_cons_succ, List.setIfInBounds_toArray, List.set_cons_zero, List.set_cons_succ]); first | done | rfl)))
  (refine Kr.seqQ (v := .bool false) (a' := ?_) (by rfl) ?_ ?_ ?_; rotate_left 1; (focus (exact val_of rfl (run_neq_f 9 _ HN.out))); (focus ((try simp only [Act.put, List.getElem_toArray, List.getElem_cons_zero, List.getElem_cons_succ, List.setIfInBounds_toArray, List.set_cons_zero, List.set_cons_succ]); first | done | rfl)))
  iterate 3 (refine Kr.seqQ (v := ?_) (a' := ?_) (by rfl) ?_ ?_ ?_; rotate_left 2; (focus (go_simp; first | done | rfl)); (focus ((try simp only [Act.put, List.getElem_toArray, List.getElem_cons_zero, List.getElem_cons_succ, List.setIfInBounds_toArray, List.set_cons_zero, List.set_cons_succ]); first | done | rfl)))
  refine Kr.seqDoneW ?_
  obtain ⟨l, hl⟩ : ∃ l, bs S = l := ⟨_, rfl⟩
  have hml : l.length = S.size := by rw [← hl, bs_length]
  have HL256 : Hid (∀ x ∈ l, x < 256) := Lib.hid (by rw [← hl]; exact bs_lt S)
  obtain ⟨m, hm⟩ : ∃ m, S.size = m := ⟨_, rfl⟩
  rw [hm] at hml h0
  have HM := Lib.hid hml; have HSM := Lib.hid hm; have HBL := Lib.hid hl
  clear hml hm hl
  go_upto_region 5 with fail
  refine Kr.seqStartW ?_
  (refine Kr.seqQ (v := ?_) (a' := ?_) (by rfl) ?_ ?_ ?_; rotate_left 2; (focus (go_simp; first | done | rfl)); (focus ((try simp only [Act.put, List.getElem_toArray, List.getElem_cons_zero, List.getElem_cons_succ, List.setIfInBounds_toArray, List.set_cons_zero, List.set_cons_succ]); first | done | rfl)))
  refine Kr.seqR (by rfl) (fun K hK => ?_)
  refine wp_bytes S (.tmp 27) rfl rfl ?_
  intro b cap yb hrow hg hb hcap
  have HB := Lib.hid (Nat.le_trans H.g.le hb)
  rw [HBL.out] at hrow
  rw [HSM.out] at hcap ⊢
  have HCAP := Lib.hid hcap
  clear hb hcap
  replace H := H.grow hg
  replace H := H.add (keepRw _ _) hrow
  clear hrow hg
  (refine Kr.outS hK (a' := ?_) ?_ ?_; rotate_left; (focus ((try simp only [Act.put, List.getElem_toArray, List.getElem_cons_zero, List.getElem_cons_succ, List.setIfInBounds_toArray, List.set_cons_zero, List.set_cons_succ]); first | done | rfl))); clear hK K
  (refine Kr.seqQ (v := ?_) (a' := ?_) (by rfl) ?_ ?_ ?_; rotate_left 2; (focus (go_simp; first | done | rfl)); (focus ((try simp only [Act.put, List.getElem_toArray, List.getElem_cons_zero, List.getElem_cons_succ, List.setIfInBounds_toArray, List.set_cons_zero, List.set_cons_succ]); first | done | rfl)))
  refine Kr.seqDoneW ?_
  go_upto_region 6 with fail
  refine Kr.seqStartW ?_
  iterate 3 (refine Kr.seqQ (v := ?_) (a' := ?_) (by rfl) ?_ ?_ ?_; rotate_left 2; (focus (go_simp; first | done | rfl)); (focus ((try simp only [Act.put, List.getElem_toArray, List.getElem_cons_zero, List.getElem_cons_succ, List.setIfInBounds_toArray, List.set_cons_zero, List.set_cons_succ]); first | done | rfl)))
  refine Kr.seqDoneW ?_
  have H2 : Hid (Sta w yb [(br, 0, .slice none 0 0)] [Rw b (mix wv l 0)]) := Lib.hid (by rw [mix_zero]; exact H)
  go_wp2
  go_loopw [31] (fun i wr => ∃ k : Nat, k ≤ m ∧ i = .int .i64 (k : Int) ∧ Hid (∀ j, j < k → wv (l[j]?.getD 0) < g) ∧ Hid (Sta w wr [(br, 0, .slice none 0 0)] [Rw b (mix wv l k)])) (fun i _ => m - (intOf i).toNat)
  case atStart => exact ⟨0, Nat.zero_le _, rfl, Lib.hid (fun j hj => absurd hj (Nat.not_lt_zero j)), H2⟩
  case round =>
    clear H H2
    obtain ⟨k, hk, rfl, HOK, HH⟩ := hrel
    have H := HH.out
    clear HH
    by_cases hlt : k < m
    · skip
      have hlL : k < l.length := by rw [HM.out]; exact hlt
      have hlx : k < (mix wv l k).length := by rw [mix_len]; exact hlL
      have HXL2 : Hid (k < (mix wv l (k + 1)).length) := Lib.hid (by rw [mix_len]; exact hlL)
      have hc := ((H.fact 0 rfl : Rw b (mix wv l k) wr) k hlx).1
      rw [mix_get hlL] at hc
      have hset := Lib.hid (mix_set (f := wv) hlL); have hgot := Lib.hid (mix_got (f := wv) hlL)
      obtain ⟨c, hd⟩ : ∃ c, l[k]?.getD 0 = c := ⟨_, rfl⟩
      rw [hd] at hc hset hgot
      have HC256 : Hid (c < 256) := Lib.hid (by rw [← hd]; exact HL256.out _ (get_mem hlL))
      have HCK := Lib.hid hd
      clear hd
      obtain ⟨q, hq⟩ : ∃ q, wv c = q := ⟨_, rfl⟩
      have HQ := Lib.hid hq
      have hq256 : q < 256 := by rw [← hq]; exact wv_lt c HC256.out
      rw [hq] at hset hgot
      clear hq
      have HXL := Lib.hid hlx; have HLL := Lib.hid hlL
      clear hlx hlL
      have k0 : (0 : Int) ≤ (k : Int) := by omega
      have k1 : (k : Int) < (m : Int) := by omega
      have kt : ((k : Int)).toNat = k := by omega
      have kw : IntKind.i64.wrap ((k : Int) + 1) = (k : Int) + 1 := IntWalk.i64_in _ (by omega)
      have qw : IntKind.i64.wrap (q : Int) = (q : Int) := IntWalk.i64_in _ (by omega)
      go_upto_region 8 with fail
      refine Kr.seqStartW ?_
      iterate 2 (refine Kr.seqQ (v := ?_) (a' := ?_) (by rfl) ?_ ?_ ?_; rotate_left 2; (focus (go_simp; first | done | rfl)); (focus ((try simp only [Act.put, List.getElem_toArray, List.getElem_cons_zero, List.getElem_cons_succ, List.setIfInBounds_toArray, List.set_cons_zero, List.set_cons_succ]); first | done | rfl)))
      have hk := H.c
      simp only [Kr.Cells] at hk
      iterate 3 (refine Kr.seqQ (v := ?_) (a' := ?_) (by rfl) ?_ ?_ ?_; rotate_left 2; (focus (go_simp; first | done | rfl)); (focus ((try simp only [Act.put, List.getElem_toArray, List.getElem_cons_zero, List.getElem_cons_succ, List.setIfInBounds_toArray, List.set_cons_zero, List.set_cons_succ]); first | done | rfl)))
      clear hk
      refine Kr.seqDoneW ?_
      clear hc
      go_upto_region 9 with fail
      refine Kr.seqStartW ?_
      iterate 3 (refine Kr.seqQ (v := ?_) (a' := ?_) (by rfl) ?_ ?_ ?_; rotate_left 2; (focus (go_simp; first | done | rfl)); (focus ((try simp only [Act.put, List.getElem_toArray, List.getElem_cons_zero, List.getElem_cons_succ, List.setIfInBounds_toArray, List.set_cons_zero, List.set_cons_succ]); first | done | rfl)))
      refine Kr.seqR (by rfl) (fun K hK => ?_)
      go_simp
      go_at_call 125
      refine (worth_v HC256.out).mono ?_
      rintro e y2 ⟨rfl, hg⟩
      rw [HQ.out]
      replace H := H.grow hg
      clear hg
      (refine Kr.outS hK (a' := ?_) ?_ ?_; rotate_left; (focus ((try simp only [Act.put, List.getElem_toArray, List.getElem_cons_zero, List.getElem_cons_succ, List.setIfInBounds_toArray, List.set_cons_zero, List.set_cons_succ]); first | done | rfl))); clear hK K
      (refine Kr.seqQ (v := ?_) (a' := ?_) (by rfl) ?_ ?_ ?_; rotate_left 2; (focus (go_simp; first | done | rfl)); (focus ((try simp only [Act.put, List.getElem_toArray, List.getElem_cons_zero, List.getElem_cons_succ, List.setIfInBounds_toArray, List.set_cons_zero, List.set_cons_succ]); first | done | rfl)))
      obtain ⟨hc, hf⟩ := (H.fact 0 rfl : Rw b (mix wv l k) y2) k HXL.out
      refine Kr.seqR (by rfl) (fun K hK => ?_)
      go_simp
      obtain ⟨ys, hy⟩ : ∃ y, y2.setCell ⟨b, k, none⟩ (.int .u8 (q : Int)) = y := ⟨_, rfl⟩
      rw [hy]
      replace H := sta_byte H HB.out HXL.out hy
      rw [hset.out] at H
      clear hy hc hf
      (refine Kr.outS hK (a' := ?_) ?_ ?_; rotate_left; (focus ((try simp only [Act.put, List.getElem_toArray, List.getElem_cons_zero, List.getElem_cons_succ, List.setIfInBounds_toArray, List.set_cons_zero, List.set_cons_succ]); first | done | rfl))); clear hK K
      refine Kr.seqDoneW ?_
      have hc := ((H.fact 0 rfl : Rw b (mix wv l (k + 1)) ys) k HXL2.out).1
      rw [hgot.out] at hc
      by_cases hgq : g ≤ q
      · have hgi : (g : Int) ≤ (q : Int) := by omega
        go_upto_region 10 with fail
        refine Kr.seqStartW ?_
        iterate 3 (refine Kr.seqQ (v := ?_) (a' := ?_) (by rfl) ?_ ?_ ?_; rotate_left 2; (focus (go_simp; first | done | rfl)); (focus ((try simp only [Act.put, List.getElem_toArray, List.getElem_cons_zero, List.getElem_cons_succ, List.setIfInBounds_toArray, List.set_cons_zero, List.set_cons_succ]); first | done | rfl)))
        have hk := H.c
        simp only [Kr.Cells] at hk
        iterate 4 (refine Kr.seqQ (v := ?_) (a' := ?_) (by rfl) ?_ ?_ ?_; rotate_left 2; (focus (go_simp; first | done | rfl)); (focus ((try simp only [Act.put, List.getElem_toArray, List.getElem_cons_zero, List.getElem_cons_succ, List.setIfInBounds_toArray, List.set_cons_zero, List.set_cons_succ]); first | done | rfl)))
        clear hk
        refine Kr.seqDoneW ?_
        clear hc hgi
        go_upto_region 11 with fail
        refine Kr.seqStartW ?_
        (refine Kr.seqQ (v := ?_) (a' := ?_) (by rfl) ?_ ?_ ?_; rotate_left 2; (focus (go_simp; first | done | rfl)); (focus ((try simp only [Act.put, List.getElem_toArray, List.getElem_cons_zero, List.getElem_cons_succ, List.setIfInBounds_toArray, List.set_cons_zero, List.set_cons_succ]); first | done | rfl)))
        have hk := H.c
        simp only [Kr.Cells] at hk
        refine Kr.seqR (by rfl) (fun K hK => ?_)
        go_simp
        clear hk
        obtain ⟨y3, hy⟩ : ∃ y, ys.setCell ⟨br, 0, none⟩ (.slice none 0 0) = y := ⟨_, rfl⟩
        rw [hy]
        replace H := H.store 0 hy rfl rfl
        dsimp only [List.set] at H
        clear hy
        (refine Kr.outS hK (a' := ?_) ?_ ?_; rotate_left; (focus ((try simp only [Act.put, List.getElem_toArray, List.getElem_cons_zero, List.getElem_cons_succ, List.setIfInBounds_toArray, List.set_cons_zero, List.set_cons_succ]); first | done | rfl))); clear hK K
        (refine Kr.seqQ (v := ?_) (a' := ?_) (by rfl) ?_ ?_ ?_; rotate_left 2; (focus (go_simp; first | done | rfl)); (focus ((try simp only [Act.put, List.getElem_toArray, List.getElem_cons_zero, List.getElem_cons_succ, List.setIfInBounds_toArray, List.set_cons_zero, List.set_cons_succ]); first | done | rfl)))
        refine Kr.seqDoneW ?_
        have hk := H.c
        simp only [Kr.Cells] at hk
        go_wp2
        refine bodyPost_ret (v := .tuple #[.agg #[.slice none 0 0], .int .i64 3]) (by simp [results, Try.results104, go_sem, hk]) rfl ⟨0, 3, .inr (.inl ⟨by rw [HBL.out, HM.out]; exact h0, .inr (.inr ⟨c, by rw [HBL.out, ← HCK.out]; exact get_mem HLL.out, by rw [HQ.out]; exact hgq⟩), rfl, rfl⟩), none, 0, 0, rfl, nw_none _, H.g⟩
      · have hgi : ¬ (g : Int) ≤ (q : Int) := by omega
        go_upto_region 10 with fail
        refine Kr.seqStartW ?_
        iterate 3 (refine Kr.seqQ (v := ?_) (a' := ?_) (by rfl) ?_ ?_ ?_; rotate_left 2; (focus (go_simp; first | done | rfl)); (focus ((try simp only [Act.put, List.getElem_toArray, List.getElem_cons_zero, List.getElem_cons_succ, List.setIfInBounds_toArray, List.set_cons_zero, List.set_cons_succ]); first | done | rfl)))
        have hk := H.c
        simp only [Kr.Cells] at hk
        iterate 4 (refine Kr.seqQ (v := ?_) (a' := ?_) (by rfl) ?_ ?_ ?_; rotate_left 2; (focus (go_simp; first | done | rfl)); (focus ((try simp only [Act.put, List.getElem_toArray, List.getElem_cons_zero, List.getElem_cons_succ, List.setIfInBounds_toArray, List.set_cons_zero, List.set_cons_succ]); first | done | rfl)))
        clear hk
        refine Kr.seqDoneW ?_
        clear hc hgi
        go_upto_region 12 with fail
        refine Kr.seqStartW ?_
        iterate 2 (refine Kr.seqQ (v := ?_) (a' := ?_) (by rfl) ?_ ?_ ?_; rotate_left 2; (focus (go_simp; first | done | rfl)); (focus ((try simp only [Act.put, List.getElem_toArray, List.getElem_cons_zero, List.getElem_cons_succ, List.setIfInBounds_toArray, List.set_cons_zero, List.set_cons_succ]); first | done | rfl)))
        refine Kr.seqDoneW ?_
        go_wp2
        go_roundw
        case rel => exact ⟨k + 1, by omega, rfl, Lib.hid (fun j hj => by rcases Nat.lt_succ_iff_lt_or_eq.1 hj with h | h; exact HOK.out j h; rw [h, HCK.out, HQ.out]; omega), Lib.hid H⟩
        case measure => (simp [intOf] <;> omega)
    · obtain rfl : k = m := by omega
      clear hk
      have HMX : Hid (mix wv l k = l.map wv) := Lib.hid (by rw [← HM.out, mix_all])
      rw [HMX.out] at H
      go_upto_region 13 with fail
      refine Kr.seqStartW ?_
      iterate 2 (refine Kr.seqQ (v := ?_) (a' := ?_) (by rfl) ?_ ?_ ?_; rotate_left 2; (focus (go_simp; first | done | rfl)); (focus ((try simp only [Act.put, List.getElem_toArray, List.getElem_cons_zero, List.getElem_cons_succ, List.setIfInBounds_toArray, List.set_cons_zero, List.set_cons_succ]); first | done | rfl)))
      refine Kr.seqR (by rfl) (fun K hK => ?_)
      go_simp
      go_at_call 108
      refine (join_v (g := g) ((H.fact 0 rfl : Rw b (l.map wv) wr).bt (by rw [List.length_map, HM.out]) HCAP.out (fun x hx => by obtain ⟨c, hc, rfl⟩ := List.mem_map.1 hx; exact wv_lt c (HL256.out c hc)) (by omega)) ⟨HG.out.1, Nat.le_trans HG.out.2 (by decide)⟩).mono ?_
      rintro e y4 ⟨z, k1, HF, p4, n4, c4, rfl, hr, hg⟩
      replace HF := Lib.hid HF
      replace H := H.grow hg
      replace H := H.num hr
      clear hr hg
      (refine Kr.outS hK (a' := ?_) ?_ ?_; rotate_left; (focus ((try simp only [Act.put, List.getElem_toArray, List.getElem_cons_zero, List.getElem_cons_succ, List.setIfInBounds_toArray, List.set_cons_zero, List.set_cons_succ]); first | done | rfl))); clear hK K
      iterate 2 (refine Kr.seqQ (v := ?_) (a' := ?_) (by rfl) ?_ ?_ ?_; rotate_left 2; (focus (go_simp; first | done | rfl)); (focus ((try simp only [Act.put, List.getElem_toArray, List.getElem_cons_zero, List.getElem_cons_succ, List.setIfInBounds_toArray, List.set_cons_zero, List.set_cons_succ]); first | done | rfl)))
      have hk := H.c
      simp only [Kr.Cells] at hk
      refine Kr.seqR (by rfl) (fun K hK => ?_)
      go_simp
      clear hk
      obtain ⟨y5, hy⟩ : ∃ y, y4.setCell ⟨br, 0, none⟩ (.slice p4 n4 c4) = y := ⟨_, rfl⟩
      rw [hy]
      replace H := H.store 0 hy rfl rfl
      dsimp only [List.set] at H
      clear hy
      (refine Kr.outS hK (a' := ?_) ?_ ?_; rotate_left; (focus ((try simp only [Act.put, List.getElem_toArray, List.getElem_cons_zero, List.getElem_cons_succ, List.setIfInBounds_toArray, List.set_cons_zero, List.set_cons_succ]); first | done | rfl))); clear hK K
      (refine Kr.seqQ (v := ?_) (a' := ?_) (by rfl) ?_ ?_ ?_; rotate_left 2; (focus (go_simp; first | done | rfl)); (focus ((try simp only [Act.put, List.getElem_toArray, List.getElem_cons_zero, List.getElem_cons_succ, List.setIfInBounds_toArray, List.set_cons_zero, List.set_cons_succ]); first | done | rfl)))
      refine Kr.seqDoneW ?_
      have hk := H.c
      simp only [Kr.Cells] at hk
      go_wp2
      refine bodyPost_ret (v := .tuple #[.agg #[.slice p4 n4 c4], .int .i64 (k1 : Int)]) (by simp [results, Try.results104, go_sem, hk]) rfl ⟨z, k1, .inr (.inr ⟨by rw [HBL.out, HM.out]; exact h0, fun hb => by rcases hb with hb | hb | ⟨c, hc, hgc⟩; exact absurd (bs_nil hb) HS.out; exact absurd hb HBAD.out; obtain ⟨j, hj, hjc⟩ := List.getElem_of_mem (HBL.out ▸ hc : c ∈ l); have h := HOK.out j (by rw [← HM.out]; exact hj); rw [List.getElem?_eq_getElem hj] at h; rw [show (some l[j]).getD 0 = c from hjc] at h; omega, by rw [HBL.out]; exact HF.out⟩), p4, n4, c4, rfl, H.nw 0 rfl, H.g⟩
set_option linter.unusedSimpArgs false in
set_option maxRecDepth 100000 in
set_option maxHeartbeats 16000000 in
theorem read_go {S : ByteArray} {g c0 : Nat} {w : World} (h0 : S.size ≤ 1000) (hs : S ≠ ⟨#[]⟩) (hn0 : 0 < S.size) (hc0 : (bs S)[0]?.getD 0 = c0) (hc48 : c0 ≠ 48) (hg : 2 ≤ g ∧ g ≤ 16) (hbad : ¬ ((bs S).head? = some 48 ∧ bs S ≠ [48])) :
    Calls Try.prog 104 #[.string S, .int .i64 (g : Int)] w fun e w' => ∃ z k, Parsed g (bs S) z k ∧ HasE z k w e w' := by
  have HBAD := Lib.hid hbad
  clear hbad
  have HS := Lib.hid hs
  have HN0 := Lib.hid hn0
  have HC0 := Lib.hid hc0
  have HG := Lib.hid hg
  clear hs hn0 hc0 hg
  have h1 : ¬ (1000 : Int) < (S.size : Int) := by omega
  have hcb : ((c0 : Int) == 48) = false := by simp; omega
  have hcc : ¬ (c0 : Int) = 48 := by omega
  clear hc48
  have H := Sta.start w
  go_enter Try.func104, Try.ntmps104
  go_upto_region 0 with fail
  refine Kr.seqStartW ?_
  refine Kr.seqR (by rfl) (fun K hK => ?_)
  go_simp
  obtain ⟨y1, hy⟩ : ∃ y, w.alloc (.cells #[.slice none 0 0] 24) = y := ⟨_, rfl⟩
  obtain ⟨br, hb⟩ : ∃ b, w.heap.size = b := ⟨_, rfl⟩
  rw [hy, hb]
  replace H := H.alloc hy hb rfl
  clear hy hb
  (refine Kr.outS hK (a' := ?_) ?_ ?_; rotate_left; (focus ((try simp only [Act.put, List.getElem_toArray, List.getElem_cons_zero, List.getElem_cons_succ, List.setIfInBounds_toArray, List.set_cons_zero, List.set_cons_succ]); first | done | rfl))); clear hK K
  (refine Kr.seqQ (v := ?_) (a' := ?_) (by rfl) ?_ ?_ ?_; rotate_left 2; (focus (go_simp; first | done | rfl)); (focus ((try simp only [Act.put, List.getElem_toArray, List.getElem_cons_zero, List.getElem_cons_succ, List.setIfInBounds_toArray, List.set_cons_zero, List.set_cons_succ]); first | done | rfl)))
  refine Kr.seqDoneW ?_
  go_upto_region 1 with fail
  refine Kr.seqStartW ?_
  iterate 4 (refine Kr.seqQ (v := ?_) (a' := ?_) (by rfl) ?_ ?_ ?_; rotate_left 2; (focus (go_simp; first | done | rfl)); (focus ((try simp only [Act.put, List.getElem_toArray, List.getElem_cons_zero, List.getElem_cons_succ, List.setIfInBounds_toArray, List.set_cons_zero, List.set_cons_succ]); first | done | rfl)))
  refine Kr.seqDoneW ?_
  clear h1
  go_upto_region 3 with fail
  refine Kr.seqStartW ?_
  (refine Kr.seqQ (v := ?_) (a' := ?_) (by rfl) ?_ ?_ ?_; rotate_left 2; (focus (go_simp; first | done | rfl)); (focus ((try simp only [Act.put, List.getElem_toArray, List.getElem_cons_zero, List.getElem_cons_succ, List.setIfInBounds_toArray, List.set_cons_zero, List.set_cons_succ]); first | done | rfl)))
  (refine Kr.seqQ (v := .bool false) (a' := ?_) (by rfl) ?_ ?_ ?_; rotate_left 1; (focus (exact val_of rfl (run_eql_f 9 _ HS.out))); (focus ((try simp only [Act.put, List.getElem_toArray, List.getElem_cons_zero, List.getElem_cons_succ, List.setIfInBounds_toArray, List.set_cons_zero, List.set_cons_succ]); first | done | rfl)))
  iterate 2 (refine Kr.seqQ (v := ?_) (a' := ?_) (by rfl) ?_ ?_ ?_; rotate_left 2; (focus (go_simp; first | done | rfl)); (focus ((try simp only [Act.put, List.getElem_toArray, List.getElem_cons_zero, List.getElem_cons_succ, List.setIfInBounds_toArray, List.set_cons_zero, List.set_cons_succ]); first | done | rfl)))
  (refine Kr.seqQ (v := .int .u8 (c0 : Int)) (a' := ?_) (by rfl) ?_ ?_ ?_; rotate_left 1; (focus (exact val_of rfl (run_at0 Try.underlying9 HN0.out HC0.out))); (focus ((try simp only [Act.put, List.getElem_toArray, List.getElem_cons_zero, List.getElem_cons_succ, List.setIfInBounds_toArray, List.set_cons_zero, List.set_cons_succ]); first | done | rfl)))
  iterate 2 (refine Kr.seqQ (v := ?_) (a' := ?_) (by rfl) ?_ ?_ ?_; rotate_left 2; (focus (go_simp; first | done | rfl)); (focus ((try simp only [Act.put, List.getElem_toArray, List.getElem_cons_zero, List.getElem_cons_succ, List.setIfInBounds_toArray, List.set_cons_zero, List.set_cons_succ]); first | done | rfl)))
  (refine Kr.seqSkipQ (a' := ?_) (by rfl) ?_ ?_; rotate_left; (focus ((try simp only [Act.put, List.getElem_toArray, List.getElem_cons_zero, List.getElem_cons_succ, List.setIfInBounds_toArray, List.set_cons_zero, List.set_cons_succ]); first | done | rfl)))
  (refine Kr.seqSkipQ (a' := ?_) (by rfl) ?_ ?_; rotate_left; (focus ((try simp only [Act.put, List.getElem_toArray, List.getElem_cons_zero, List.getElem_cons_succ, List.setIfInBounds_toArray, List.set_cons_zero, List.set_cons_succ]); first | done | rfl)))
  iterate 3 (refine Kr.seqQ (v := ?_) (a' := ?_) (by rfl) ?_ ?_ ?_; rotate_left 2; (focus (go_simp; first | done | rfl)); (focus ((try simp only [Act.put, List.getElem_toArray, List.getElem_cons_zero, List.getElem_cons_succ, List.setIfInBounds_toArray, List.set_cons_zero, List.set_cons_succ]); first | done | rfl)))
  refine Kr.seqDoneW ?_
  clear hcb hcc
  obtain ⟨l, hl⟩ : ∃ l, bs S = l := ⟨_, rfl⟩
  have hml : l.length = S.size := by rw [← hl, bs_length]
  have HL256 : Hid (∀ x ∈ l, x < 256) := Lib.hid (by rw [← hl]; exact bs_lt S)
  obtain ⟨m, hm⟩ : ∃ m, S.size = m := ⟨_, rfl⟩
  rw [hm] at hml h0
  have HM := Lib.hid hml; have HSM := Lib.hid hm; have HBL := Lib.hid hl
  clear hml hm hl
  go_upto_region 5 with fail
  refine Kr.seqStartW ?_
  (refine Kr.seqQ (v := ?_) (a' := ?_) (by rfl) ?_ ?_ ?_; rotate_left 2; (focus (go_simp; first | done | rfl)); (focus ((try simp only [Act.put, List.getElem_toArray, List.getElem_cons_zero, List.getElem_cons_succ, List.setIfInBounds_toArray, List.set_cons_zero, List.set_cons_succ]); first | done | rfl)))
  refine Kr.seqR (by rfl) (fun K hK => ?_)
  refine wp_bytes S (.tmp 27) rfl rfl ?_
  intro b cap yb hrow hg hb hcap
  have HB := Lib.hid (Nat.le_trans H.g.le hb)
  rw [HBL.out] at hrow
  rw [HSM.out] at hcap ⊢
  have HCAP := Lib.hid hcap
  clear hb hcap
  replace H := H.grow hg
  replace H := H.add (keepRw _ _) hrow
  clear hrow hg
  (refine Kr.outS hK (a' := ?_) ?_ ?_; rotate_left; (focus ((try simp only [Act.put, List.getElem_toArray, List.getElem_cons_zero, List.getElem_cons_succ, List.setIfInBounds_toArray, List.set_cons_zero, List.set_cons_succ]); first | done | rfl))); clear hK K
  (refine Kr.seqQ (v := ?_) (a' := ?_) (by rfl) ?_ ?_ ?_; rotate_left 2; (focus (go_simp; first | done | rfl)); (focus ((try simp only [Act.put, List.getElem_toArray, List.getElem_cons_zero, List.getElem_cons_succ, List.setIfInBounds_toArray, List.set_cons_zero, List.set_cons_succ]); first | done | rfl)))
  refine Kr.seqDoneW ?_
  go_upto_region 6 with fail
  refine Kr.seqStartW ?_
  iterate 3 (refine Kr.seqQ (v := ?_) (a' := ?_) (by rfl) ?_ ?_ ?_; rotate_left 2; (focus (go_simp; first | done | rfl)); (focus ((try simp only [Act.put, List.getElem_toArray, List.getElem_cons_zero, List.getElem_cons_succ, List.setIfInBounds_toArray, List.set_cons_zero, List.set_cons_succ]); first | done | rfl)))
  refine Kr.seqDoneW ?_
  have H2 : Hid (Sta w yb [(br, 0, .slice none 0 0)] [Rw b (mix wv l 0)]) := Lib.hid (by rw [mix_zero]; exact H)
  go_wp2
  go_loopw [31] (fun i wr => ∃ k : Nat, k ≤ m ∧ i = .int .i64 (k : Int) ∧ Hid (∀ j, j < k → wv (l[j]?.getD 0) < g) ∧ Hid (Sta w wr [(br, 0, .slice none 0 0)] [Rw b (mix wv l k)])) (fun i _ => m - (intOf i).toNat)
  case atStart => exact ⟨0, Nat.zero_le _, rfl, Lib.hid (fun j hj => absurd hj (Nat.not_lt_zero j)), H2⟩
  case round =>
    clear H H2
    obtain ⟨k, hk, rfl, HOK, HH⟩ := hrel
    have H := HH.out
    clear HH
    by_cases hlt : k < m
    · skip
      have hlL : k < l.length := by rw [HM.out]; exact hlt
      have hlx : k < (mix wv l k).length := by rw [mix_len]; exact hlL
      have HXL2 : Hid (k < (mix wv l (k + 1)).length) := Lib.hid (by rw [mix_len]; exact hlL)
      have hc := ((H.fact 0 rfl : Rw b (mix wv l k) wr) k hlx).1
      rw [mix_get hlL] at hc
      have hset := Lib.hid (mix_set (f := wv) hlL); have hgot := Lib.hid (mix_got (f := wv) hlL)
      obtain ⟨c, hd⟩ : ∃ c, l[k]?.getD 0 = c := ⟨_, rfl⟩
      rw [hd] at hc hset hgot
      have HC256 : Hid (c < 256) := Lib.hid (by rw [← hd]; exact HL256.out _ (get_mem hlL))
      have HCK := Lib.hid hd
      clear hd
      obtain ⟨q, hq⟩ : ∃ q, wv c = q := ⟨_, rfl⟩
      have HQ := Lib.hid hq
      have hq256 : q < 256 := by rw [← hq]; exact wv_lt c HC256.out
      rw [hq] at hset hgot
      clear hq
      have HXL := Lib.hid hlx; have HLL := Lib.hid hlL
      clear hlx hlL
      have k0 : (0 : Int) ≤ (k : Int) := by omega
      have k1 : (k : Int) < (m : Int) := by omega
      have kt : ((k : Int)).toNat = k := by omega
      have kw : IntKind.i64.wrap ((k : Int) + 1) = (k : Int) + 1 := IntWalk.i64_in _ (by omega)
      have qw : IntKind.i64.wrap (q : Int) = (q : Int) := IntWalk.i64_in _ (by omega)
      go_upto_region 8 with fail
      refine Kr.seqStartW ?_
      iterate 2 (refine Kr.seqQ (v := ?_) (a' := ?_) (by rfl) ?_ ?_ ?_; rotate_left 2; (focus (go_simp; first | done | rfl)); (focus ((try simp only [Act.put, List.getElem_toArray, List.getElem_cons_zero, List.getElem_cons_succ, List.setIfInBounds_toArray, List.set_cons_zero, List.set_cons_succ]); first | done | rfl)))
      have hk := H.c
      simp only [Kr.Cells] at hk
      iterate 3 (refine Kr.seqQ (v := ?_) (a' := ?_) (by rfl) ?_ ?_ ?_; rotate_left 2; (focus (go_simp; first | done | rfl)); (focus ((try simp only [Act.put, List.getElem_toArray, List.getElem_cons_zero, List.getElem_cons_succ, List.setIfInBounds_toArray, List.set_cons_zero, List.set_cons_succ]); first | done | rfl)))
      clear hk
      refine Kr.seqDoneW ?_
      clear hc
      go_upto_region 9 with fail
      refine Kr.seqStartW ?_
      iterate 3 (refine Kr.seqQ (v := ?_) (a' := ?_) (by rfl) ?_ ?_ ?_; rotate_left 2; (focus (go_simp; first | done | rfl)); (focus ((try simp only [Act.put, List.getElem_toArray, List.getElem_cons_zero, List.getElem_cons_succ, List.setIfInBounds_toArray, List.set_cons_zero, List.set_cons_succ]); first | done | rfl)))
      refine Kr.seqR (by rfl) (fun K hK => ?_)
      go_simp
      go_at_call 125
      refine (worth_v HC256.out).mono ?_
      rintro e y2 ⟨rfl, hg⟩
      rw [HQ.out]
      replace H := H.grow hg
      clear hg
      (refine Kr.outS hK (a' := ?_) ?_ ?_; rotate_left; (focus ((try simp only [Act.put, List.getElem_toArray, List.getElem_cons_zero, List.getElem_cons_succ, List.setIfInBounds_toArray, List.set_cons_zero, List.set_cons_succ]); first | done | rfl))); clear hK K
      (refine Kr.seqQ (v := ?_) (a' := ?_) (by rfl) ?_ ?_ ?_; rotate_left 2; (focus (go_simp; first | done | rfl)); (focus ((try simp only [Act.put, List.getElem_toArray, List.getElem_cons_zero, List.getElem_cons_succ, List.setIfInBounds_toArray, List.set_cons_zero, List.set_cons_succ]); first | done | rfl)))
      obtain ⟨hc, hf⟩ := (H.fact 0 rfl : Rw b (mix wv l k) y2) k HXL.out
      refine Kr.seqR (by rfl) (fun K hK => ?_)
      go_simp
      obtain ⟨ys, hy⟩ : ∃ y, y2.setCell ⟨b, k, none⟩ (.int .u8 (q : Int)) = y := ⟨_, rfl⟩
      rw [hy]
      replace H := sta_byte H HB.out HXL.out hy
      rw [hset.out] at H
      clear hy hc hf
      (refine Kr.outS hK (a' := ?_) ?_ ?_; rotate_left; (focus ((try simp only [Act.put, List.getElem_toArray, List.getElem_cons_zero, List.getElem_cons_succ, List.setIfInBounds_toArray, List.set_cons_zero, List.set_cons_succ]); first | done | rfl))); clear hK K
      refine Kr.seqDoneW ?_
      have hc := ((H.fact 0 rfl : Rw b (mix wv l (k + 1)) ys) k HXL2.out).1
      rw [hgot.out] at hc
      by_cases hgq : g ≤ q
      · have hgi : (g : Int) ≤ (q : Int) := by omega
        go_upto_region 10 with fail
        refine Kr.seqStartW ?_
        iterate 3 (refine Kr.seqQ (v := ?_) (a' := ?_) (by rfl) ?_ ?_ ?_; rotate_left 2; (focus (go_simp; first | done | rfl)); (focus ((try simp only [Act.put, List.getElem_toArray, List.getElem_cons_zero, List.getElem_cons_succ, List.setIfInBounds_toArray, List.set_cons_zero, List.set_cons_succ]); first | done | rfl)))
        have hk := H.c
        simp only [Kr.Cells] at hk
        iterate 4 (refine Kr.seqQ (v := ?_) (a' := ?_) (by rfl) ?_ ?_ ?_; rotate_left 2; (focus (go_simp; first | done | rfl)); (focus ((try simp only [Act.put, List.getElem_toArray, List.getElem_cons_zero, List.getElem_cons_succ, List.setIfInBounds_toArray, List.set_cons_zero, List.set_cons_succ]); first | done | rfl)))
        clear hk
        refine Kr.seqDoneW ?_
        clear hc hgi
        go_upto_region 11 with fail
        refine Kr.seqStartW ?_
        (refine Kr.seqQ (v := ?_) (a' := ?_) (by rfl) ?_ ?_ ?_; rotate_left 2; (focus (go_simp; first | done | rfl)); (focus ((try simp only [Act.put, List.getElem_toArray, List.getElem_cons_zero, List.getElem_cons_succ, List.setIfInBounds_toArray, List.set_cons_zero, List.set_cons_succ]); first | done | rfl)))
        have hk := H.c
        simp only [Kr.Cells] at hk
        refine Kr.seqR (by rfl) (fun K hK => ?_)
        go_simp
        clear hk
        obtain ⟨y3, hy⟩ : ∃ y, ys.setCell ⟨br, 0, none⟩ (.slice none 0 0) = y := ⟨_, rfl⟩
        rw [hy]
        replace H := H.store 0 hy rfl rfl
        dsimp only [List.set] at H
        clear hy
        (refine Kr.outS hK (a' := ?_) ?_ ?_; rotate_left; (focus ((try simp only [Act.put, List.getElem_toArray, List.getElem_cons_zero, List.getElem_cons_succ, List.setIfInBounds_toArray, List.set_cons_zero, List.set_cons_succ]); first | done | rfl))); clear hK K
        (refine Kr.seqQ (v := ?_) (a' := ?_) (by rfl) ?_ ?_ ?_; rotate_left 2; (focus (go_simp; first | done | rfl)); (focus ((try simp only [Act.put, List.getElem_toArray, List.getElem_cons_zero, List.getElem_cons_succ, List.setIfInBounds_toArray, List.set_cons_zero, List.set_cons_succ]); first | done | rfl)))
        refine Kr.seqDoneW ?_
        have hk := H.c
        simp only [Kr.Cells] at hk
        go_wp2
        refine bodyPost_ret (v := .tuple #[.agg #[.slice none 0 0], .int .i64 3]) (by simp [results, Try.results104, go_sem, hk]) rfl ⟨0, 3, .inr (.inl ⟨by rw [HBL.out, HM.out]; exact h0, .inr (.inr ⟨c, by rw [HBL.out, ← HCK.out]; exact get_mem HLL.out, by rw [HQ.out]; exact hgq⟩), rfl, rfl⟩), none, 0, 0, rfl, nw_none _, H.g⟩
      · have hgi : ¬ (g : Int) ≤ (q : Int) := by omega
        go_upto_region 10 with fail
        refine Kr.seqStartW ?_
        iterate 3 (refine Kr.seqQ (v := ?_) (a' := ?_) (by rfl) ?_ ?_ ?_; rotate_left 2; (focus (go_simp; first | done | rfl)); (focus ((try simp only [Act.put, List.getElem_toArray, List.getElem_cons_zero, List.getElem_cons_succ, List.setIfInBounds_toArray, List.set_cons_zero, List.set_cons_succ]); first | done | rfl)))
        have hk := H.c
        simp only [Kr.Cells] at hk
        iterate 4 (refine Kr.seqQ (v := ?_) (a' := ?_) (by rfl) ?_ ?_ ?_; rotate_left 2; (focus (go_simp; first | done | rfl)); (focus ((try simp only [Act.put, List.getElem_toArray, List.getElem_cons_zero, List.getElem_cons_succ, List.setIfInBounds_toArray, List.set_cons_zero, List.set_cons_succ]); first | done | rfl)))
        clear hk
        refine Kr.seqDoneW ?_
        clear hc hgi
        go_upto_region 12 with fail
        refine Kr.seqStartW ?_
        iterate 2 (refine Kr.seqQ (v := ?_) (a' := ?_) (by rfl) ?_ ?_ ?_; rotate_left 2; (focus (go_simp; first | done | rfl)); (focus ((try simp only [Act.put, List.getElem_toArray, List.getElem_cons_zero, List.getElem_cons_succ, List.setIfInBounds_toArray, List.set_cons_zero, List.set_cons_succ]); first | done | rfl)))
        refine Kr.seqDoneW ?_
        go_wp2
        go_roundw
        case rel => exact ⟨k + 1, by omega, rfl, Lib.hid (fun j hj => by rcases Nat.lt_succ_iff_lt_or_eq.1 hj with h | h; exact HOK.out j h; rw [h, HCK.out, HQ.out]; omega), Lib.hid H⟩
        case measure => (simp [intOf] <;> omega)
    · obtain rfl : k = m := by omega
      clear hk
      have HMX : Hid (mix wv l k = l.map wv) := Lib.hid (by rw [← HM.out, mix_all])
      rw [HMX.out] at H
      go_upto_region 13 with fail
      refine Kr.seqStartW ?_
      iterate 2 (refine Kr.seqQ (v := ?_) (a' := ?_) (by rfl) ?_ ?_ ?_; rotate_left 2; (focus (go_simp; first | done | rfl)); (focus ((try simp only [Act.put, List.getElem_toArray, List.getElem_cons_zero, List.getElem_cons_succ, List.setIfInBounds_toArray, List.set_cons_zero, List.set_cons_succ]); first | done | rfl)))
      refine Kr.seqR (by rfl) (fun K hK => ?_)
      go_simp
      go_at_call 108
      refine (join_v (g := g) ((H.fact 0 rfl : Rw b (l.map wv) wr).bt (by rw [List.length_map, HM.out]) HCAP.out (fun x hx => by obtain ⟨c, hc, rfl⟩ := List.mem_map.1 hx; exact wv_lt c (HL256.out c hc)) (by omega)) ⟨HG.out.1, Nat.le_trans HG.out.2 (by decide)⟩).mono ?_
      rintro e y4 ⟨z, k1, HF, p4, n4, c4, rfl, hr, hg⟩
      replace HF := Lib.hid HF
      replace H := H.grow hg
      replace H := H.num hr
      clear hr hg
      (refine Kr.outS hK (a' := ?_) ?_ ?_; rotate_left; (focus ((try simp only [Act.put, List.getElem_toArray, List.getElem_cons_zero, List.getElem_cons_succ, List.setIfInBounds_toArray, List.set_cons_zero, List.set_cons_succ]); first | done | rfl))); clear hK K
      iterate 2 (refine Kr.seqQ (v := ?_) (a' := ?_) (by rfl) ?_ ?_ ?_; rotate_left 2; (focus (go_simp; first | done | rfl)); (focus ((try simp only [Act.put, List.getElem_toArray, List.getElem_cons_zero, List.getElem_cons_succ, List.setIfInBounds_toArray, List.set_cons_zero, List.set_cons_succ]); first | done | rfl)))
      have hk := H.c
      simp only [Kr.Cells] at hk
      refine Kr.seqR (by rfl) (fun K hK => ?_)
      go_simp
      clear hk
      obtain ⟨y5, hy⟩ : ∃ y, y4.setCell ⟨br, 0, none⟩ (.slice p4 n4 c4) = y := ⟨_, rfl⟩
      rw [hy]
      replace H := H.store 0 hy rfl rfl
      dsimp only [List.set] at H
      clear hy
      (refine Kr.outS hK (a' := ?_) ?_ ?_; rotate_left; (focus ((try simp only [Act.put, List.getElem_toArray, List.getElem_cons_zero, List.getElem_cons_succ, List.setIfInBounds_toArray, List.set_cons_zero, List.set_cons_succ]); first | done | rfl))); clear hK K
      (refine Kr.seqQ (v := ?_) (a' := ?_) (by rfl) ?_ ?_ ?_; rotate_left 2; (focus (go_simp; first | done | rfl)); (focus ((try simp only [Act.put, List.getElem_toArray, List.getElem_cons_zero, List.getElem_cons_succ, List.setIfInBounds_toArray, List.set_cons_zero, List.set_cons_succ]); first | done | rfl)))
      refine Kr.seqDoneW ?_
      have hk := H.c
      simp only [Kr.Cells] at hk
      go_wp2
      refine bodyPost_ret (v := .tuple #[.agg #[.slice p4 n4 c4], .int .i64 (k1 : Int)]) (by simp [results, Try.results104, go_sem, hk]) rfl ⟨z, k1, .inr (.inr ⟨by rw [HBL.out, HM.out]; exact h0, fun hb => by rcases hb with hb | hb | ⟨c, hc, hgc⟩; exact absurd (bs_nil hb) HS.out; exact absurd hb HBAD.out; obtain ⟨j, hj, hjc⟩ := List.getElem_of_mem (HBL.out ▸ hc : c ∈ l); have h := HOK.out j (by rw [← HM.out]; exact hj); rw [List.getElem?_eq_getElem hj] at h; rw [show (some l[j]).getD 0 = c from hjc] at h; omega, by rw [HBL.out]; exact HF.out⟩), p4, n4, c4, rfl, H.nw 0 rfl, H.g⟩
theorem read_v {S : ByteArray} {g : Nat} {w : World} (hg : 2 ≤ g ∧ g ≤ 16) :
    Calls Try.prog 104 #[.string S, .int .i64 (g : Int)] w fun e w' => ∃ z k, Parsed g (bs S) z k ∧ HasE z k w e w' := by
  have hlen := bs_length S
  by_cases h0 : 1000 < S.size
  · exact (read_big h0).mono fun e w' h => ⟨0, 5, .inl ⟨by rw [hlen]; exact h0, rfl, rfl⟩, h⟩
  have h0' : S.size ≤ 1000 := by omega
  by_cases hs : S = ⟨#[]⟩
  · exact (read_empty h0' hs).mono fun e w' h => ⟨0, 3, .inr (.inl ⟨by rw [hlen]; exact h0', .inl (by rw [hs]; rfl), rfl, rfl⟩), h⟩
  have hne : bs S ≠ [] := fun h => hs (bs_nil h)
  have hn0 : 0 < S.size := by rw [← hlen]; exact List.length_pos_iff.2 hne
  obtain ⟨c0, hc0⟩ : ∃ c0, (bs S)[0]?.getD 0 = c0 := ⟨_, rfl⟩
  have hh : (bs S).head? = some c0 := by
    rw [← hc0, List.head?_eq_getElem?, List.getElem?_eq_getElem (by omega)]; rfl
  by_cases h48 : c0 = 48
  · subst h48
    by_cases hn : S = ⟨#[48]⟩
    · exact read_one h0' hs hn hn0 hc0 hg (fun h => h.2 (by rw [hn]; rfl))
    · have hn2 : bs S ≠ [48] := fun h => hn (by rw [← str_bs S, h]; rfl)
      exact (read_lead h0' hs hn hn0 hc0).mono fun e w' h => ⟨0, 3, .inr (.inl ⟨by rw [hlen]; exact h0', .inr (.inl ⟨hh, hn2⟩), rfl, rfl⟩), h⟩
  · exact read_go h0' hs hn0 hc0 h48 hg (fun h => h48 (Option.some.inj (hh.symm.trans h.1)))
end Go.Proofs.Ytlciocebbckdcaa.Ff


/- The contract of the fourth reference's Parse. -/
namespace Go.Proofs.Ytlciocebbckdcaa.Rf
open Go.RowKit Go.Shelf Go.Proofs.Ytlciocebbckdcaa.Nm Go.Proofs.Ytlciocebbckdcaa.Ne Go.Proofs.Ytlciocebbckdcaa.Nf Go.Proofs.Ytlciocebbckdcaa.Nk Go.Proofs.Ytlciocebbckdcaa.Nv Go.Proofs.Ytlciocebbckdcaa.Nr2 Go.Proofs.Ytlciocebbckdcaa.Kr Go.Proofs.Ytlciocebbckdcaa.Fb Go.Proofs.Ytlciocebbckdcaa.Ff Go.Proofs.Ytlciocebbckdcaa.Mo

theorem run_atc {P : Program} {w : World} {t : TypeId} (ht : P.underlying t = some .string) {s : ByteArray} {i c : Nat} (hi : i < s.size) (hc : (bs s)[i]?.getD 0 = c) : (Instr.index t (.string s) (.int .i64 (i : Int))).run P w = .ok (.int .u8 (c : Int)) w := by
  have h := run_at (P := P) (w := w) ht .i64 s hi
  rw [hc] at h
  exact h
set_option linter.unusedSimpArgs false in
set_option maxRecDepth 100000 in
set_option maxHeartbeats 16000000 in
theorem parse4_big {S : ByteArray} {g : Nat} {w : World} (h0 : 1000 < S.size) :
    Calls Try.prog 60 #[.string S, .int .u64 (g : Int)] w (HasE 0 5 w) := by
  have h1 : (1000 : Int) < (S.size : Int) := by omega
  have H := Sta.start w
  go_enter Try.func60, Try.ntmps60
  go_upto_region 0 with fail
  refine Kr.seqStartW ?_
  refine Kr.seqR (by rfl) (fun K hK => ?_)
  go_simp
  obtain ⟨y1, hy⟩ : ∃ y, w.alloc (.cells #[.slice none 0 0] 24) = y := ⟨_, rfl⟩
  obtain ⟨br, hb⟩ : ∃ b, w.heap.size = b := ⟨_, rfl⟩
  rw [hy, hb]
  replace H := H.alloc hy hb rfl
  clear hy hb
  (refine Kr.outS hK (a' := ?_) ?_ ?_; rotate_left; (focus ((try simp only [Act.put, List.getElem_toArray, List.getElem_cons_zero, List.getElem_cons_succ, List.setIfInBounds_toArray, List.set_cons_zero, List.set_cons_succ]); first | done | rfl))); clear hK K
  (refine Kr.seqQ (v := ?_) (a' := ?_) (by rfl) ?_ ?_ ?_; rotate_left 2; (focus (go_simp; first | done | rfl)); (focus ((try simp only [Act.put, List.getElem_toArray, List.getElem_cons_zero, List.getElem_cons_succ, List.setIfInBounds_toArray, List.set_cons_zero, List.set_cons_succ]); first | done | rfl)))
  refine Kr.seqDoneW ?_
  go_upto_region 1 with fail
  refine Kr.seqStartW ?_
  iterate 3 (refine Kr.seqQ (v := ?_) (a' := ?_) (by rfl) ?_ ?_ ?_; rotate_left 2; (focus (go_simp; first | done | rfl)); (focus ((try simp only [Act.put, List.getElem_toArray, List.getElem_cons_zero, List.getElem_cons_succ, List.setIfInBounds_toArray, List.set_cons_zero, List.set_cons_succ]); first | done | rfl)))
  refine Kr.seqDoneW ?_
  go_upto_region 2 with fail
  refine Kr.seqStartW ?_
  (refine Kr.seqQ (v := ?_) (a' := ?_) (by rfl) ?_ ?_ ?_; rotate_left 2; (focus (go_simp; first | done | rfl)); (focus ((try simp only [Act.put, List.getElem_toArray, List.getElem_cons_zero, List.getElem_cons_succ, List.setIfInBounds_toArray, List.set_cons_zero, List.set_cons_succ]); first | done | rfl)))
  have hk := H.c
  simp only [Kr.Cells] at hk
  refine Kr.seqR (by rfl) (fun K hK => ?_)
  go_simp
  clear hk
  obtain ⟨y2, hy⟩ : ∃ y, y1.setCell ⟨br, 0, none⟩ (.slice none 0 0) = y := ⟨_, rfl⟩
  rw [hy]
  replace H := H.store 0 hy rfl rfl
  dsimp only [List.set] at H
  clear hy
  (refine Kr.outS hK (a' := ?_) ?_ ?_; rotate_left; (focus ((try simp only [Act.put, List.getElem_toArray, List.getElem_cons_zero, List.getElem_cons_succ, List.setIfInBounds_toArray, List.set_cons_zero, List.set_cons_succ]); first | done | rfl))); clear hK K
  (refine Kr.seqQ (v := ?_) (a' := ?_) (by rfl) ?_ ?_ ?_; rotate_left 2; (focus (go_simp; first | done | rfl)); (focus ((try simp only [Act.put, List.getElem_toArray, List.getElem_cons_zero, List.getElem_cons_succ, List.setIfInBounds_toArray, List.set_cons_zero, List.set_cons_succ]); first | done | rfl)))
  refine Kr.seqDoneW ?_
  have hk := H.c
  simp only [Kr.Cells] at hk
  go_wp2
  refine bodyPost_ret (v := .tuple #[.agg #[.slice none 0 0], .int .i64 5]) (by simp [results, Try.results60, go_sem, hk]) rfl ⟨none, 0, 0, rfl, nw_none _, H.g⟩
set_option linter.unusedSimpArgs false in
set_option maxRecDepth 100000 in
set_option maxHeartbeats 16000000 in
theorem parse4_empty {S : ByteArray} {g : Nat} {w : World} (h0 : S.size ≤ 1000) (hs : S = ⟨#[]⟩) :
    Calls Try.prog 60 #[.string S, .int .u64 (g : Int)] w (HasE 0 3 w) := by
  have HS := Lib.hid hs
  clear hs
  have h1 : ¬ (1000 : Int) < (S.size : Int) := by omega
  have H := Sta.start w
  go_enter Try.func60, Try.ntmps60
  go_upto_region 0 with fail
  refine Kr.seqStartW ?_
  refine Kr.seqR (by rfl) (fun K hK => ?_)
  go_simp
  obtain ⟨y1, hy⟩ : ∃ y, w.alloc (.cells #[.slice none 0 0] 24) = y := ⟨_, rfl⟩
  obtain ⟨br, hb⟩ : ∃ b, w.heap.size = b := ⟨_, rfl⟩
  rw [hy, hb]
  replace H := H.alloc hy hb rfl
  clear hy hb
  (refine Kr.outS hK (a' := ?_) ?_ ?_; rotate_left; (focus ((try simp only [Act.put, List.getElem_toArray, List.getElem_cons_zero, List.getElem_cons_succ, List.setIfInBounds_toArray, List.set_cons_zero, List.set_cons_succ]); first | done | rfl))); clear hK K
  (refine Kr.seqQ (v := ?_) (a' := ?_) (by rfl) ?_ ?_ ?_; rotate_left 2; (focus (go_simp; first | done | rfl)); (focus ((try simp only [Act.put, List.getElem_toArray, List.getElem_cons_zero, List.getElem_cons_succ, List.setIfInBounds_toArray, List.set_cons_zero, List.set_cons_succ]); first | done | rfl)))
  refine Kr.seqDoneW ?_
  go_upto_region 1 with fail
  refine Kr.seqStartW ?_
  iterate 3 (refine Kr.seqQ (v := ?_) (a' := ?_) (by rfl) ?_ ?_ ?_; rotate_left 2; (focus (go_simp; first | done | rfl)); (focus ((try simp only [Act.put, List.getElem_toArray, List.getElem_cons_zero, List.getElem_cons_succ, List.setIfInBounds_toArray, List.set_cons_zero, List.set_cons_succ]); first | done | rfl)))
  refine Kr.seqDoneW ?_
  clear h1 h0
  go_upto_region 3 with fail
  refine Kr.seqStartW ?_
  (refine Kr.seqQ (v := ?_) (a' := ?_) (by rfl) ?_ ?_ ?_; rotate_left 2; (focus (go_simp; first | done | rfl)); (focus ((try simp only [Act.put, List.getElem_toArray, List.getElem_cons_zero, List.getElem_cons_succ, List.setIfInBounds_toArray, List.set_cons_zero, List.set_cons_succ]); first | done | rfl)))
  (refine Kr.seqQ (v := .bool true) (a' := ?_) (by rfl) ?_ ?_ ?_; rotate_left 1; (focus (exact val_of rfl (run_eql_t 9 _ HS.out))); (focus ((try simp only [Act.put, List.getElem_toArray, List.getElem_cons_zero, List.getElem_cons_succ, List.setIfInBounds_toArray, List.set_cons_zero, List.set_cons_succ]); first | done | rfl)))
  (refine Kr.seqQ (v := ?_) (a' := ?_) (by rfl) ?_ ?_ ?_; rotate_left 2; (focus (go_simp; first | done | rfl)); (focus ((try simp only [Act.put, List.getElem_toArray, List.getElem_cons_zero, List.getElem_cons_succ, List.setIfInBounds_toArray, List.set_cons_zero, List.set_cons_succ]); first | done | rfl)))
  (refine Kr.seqSkipQ (a' := ?_) (by rfl) ?_ ?_; rotate_left; (focus ((try simp only [Act.put, List.getElem_toArray, List.getElem_cons_zero, List.getElem_cons_succ, List.setIfInBounds_toArray, List.set_cons_zero, List.set_cons_succ]); first | done | rfl)))
  (refine Kr.seqSkipQ (a' := ?_) (by rfl) ?_ ?_; rotate_left; (focus ((try simp only [Act.put, List.getElem_toArray, List.getElem_cons_zero, List.getElem_cons_succ, List.setIfInBounds_toArray, List.set_cons_zero, List.set_cons_succ]); first | done | rfl)))
  (refine Kr.seqSkipQ (a' := ?_) (by rfl) ?_ ?_; rotate_left; (focus ((try simp only [Act.put, List.getElem_toArray, List.getElem_cons_zero, List.getElem_cons_succ, List.setIfInBounds_toArray, List.set_cons_zero, List.set_cons_succ]); first | done | rfl)))
  (refine Kr.seqSkipQ (a' := ?_) (by rfl) ?_ ?_; rotate_left; (focus ((try simp only [Act.put, List.getElem_toArray, List.getElem_cons_zero, List.getElem_cons_succ, List.setIfInBounds_toArray, List.set_cons_zero, List.set_cons_succ]); first | done | rfl)))
  (refine Kr.seqSkipQ (a' := ?_) (by rfl) ?_ ?_; rotate_left; (focus ((try simp only [Act.put, List.getElem_toArray, List.getElem_cons_zero, List.getElem_cons_succ, List.setIfInBounds_toArray, List.set_cons_zero, List.set_cons_succ]); first | done | rfl)))
  (refine Kr.seqSkipQ (a' := ?_) (by rfl) ?_ ?_; rotate_left; (focus ((try simp only [Act.put, List.getElem_toArray, List.getElem_cons_zero, List.getElem_cons_succ, List.setIfInBounds_toArray, List.set_cons_zero, List.set_cons_succ]); first | done | rfl)))
  (refine Kr.seqSkipQ (a' := ?_) (by rfl) ?_ ?_; rotate_left; (focus ((try simp only [Act.put, List.getElem_toArray, List.getElem_cons_zero, List.getElem_cons_succ, List.setIfInBounds_toArray, List.set_cons_zero, List.set_cons_succ]); first | done | rfl)))
  (refine Kr.seqSkipQ (a' := ?_) (by rfl) ?_ ?_; rotate_left; (focus ((try simp only [Act.put, List.getElem_toArray, List.getElem_cons_zero, List.getElem_cons_succ, List.setIfInBounds_toArray, List.set_cons_zero, List.set_cons_succ]); first | done | rfl)))
  (refine Kr.seqQ (v := ?_) (a' := ?_) (by rfl) ?_ ?_ ?_; rotate_left 2; (focus (go_simp; first | done | rfl)); (focus ((try simp only [Act.put, List.getElem_toArray, List.getElem_cons_zero, List.getElem_cons_succ, List.setIfInBounds_toArray, List.set_cons_zero, List.set_cons_succ]); first | done | rfl)))
  refine Kr.seqDoneW ?_
  go_upto_region 4 with fail
  refine Kr.seqStartW ?_
  (refine Kr.seqQ (v := ?_) (a' := ?_) (by rfl) ?_ ?_ ?_; rotate_left 2; (focus (go_simp; first | done | rfl)); (focus ((try simp only [Act.put, List.getElem_toArray, List.getElem_cons_zero, List.getElem_cons_succ, List.setIfInBounds_toArray, List.set_cons_zero, List.set_cons_succ]); first | done | rfl)))
  have hk := H.c
  simp only [Kr.Cells] at hk
  refine Kr.seqR (by rfl) (fun K hK => ?_)
  go_simp
  clear hk
  obtain ⟨y2, hy⟩ : ∃ y, y1.setCell ⟨br, 0, none⟩ (.slice none 0 0) = y := ⟨_, rfl⟩
  rw [hy]
  replace H := H.store 0 hy rfl rfl
  dsimp only [List.set] at H
  clear hy
  (refine Kr.outS hK (a' := ?_) ?_ ?_; rotate_left; (focus ((try simp only [Act.put, List.getElem_toArray, List.getElem_cons_zero, List.getElem_cons_succ, List.setIfInBounds_toArray, List.set_cons_zero, List.set_cons_succ]); first | done | rfl))); clear hK K
  (refine Kr.seqQ (v := ?_) (a' := ?_) (by rfl) ?_ ?_ ?_; rotate_left 2; (focus (go_simp; first | done | rfl)); (focus ((try simp only [Act.put, List.getElem_toArray, List.getElem_cons_zero, List.getElem_cons_succ, List.setIfInBounds_toArray, List.set_cons_zero, List.set_cons_succ]); first | done | rfl)))
  refine Kr.seqDoneW ?_
  have hk := H.c
  simp only [Kr.Cells] at hk
  go_wp2
  refine bodyPost_ret (v := .tuple #[.agg #[.slice none 0 0], .int .i64 3]) (by simp [results, Try.results60, go_sem, hk]) rfl ⟨none, 0, 0, rfl, nw_none _, H.g⟩
set_option linter.unusedSimpArgs false in
set_option maxRecDepth 100000 in
set_option maxHeartbeats 16000000 in
theorem parse4_lead {S : ByteArray} {g : Nat} {w : World} (h0 : S.size ≤ 1000) (hs : S ≠ ⟨#[]⟩) (hn : 1 < S.size) (hn0 : 0 < S.size) (hc0 : (bs S)[0]?.getD 0 = 48) :
    Calls Try.prog 60 #[.string S, .int .u64 (g : Int)] w (HasE 0 3 w) := by
  have HS := Lib.hid hs
  have HN0 := Lib.hid hn0
  have HC0 := Lib.hid hc0
  clear hs hn0 hc0
  have h1 : ¬ (1000 : Int) < (S.size : Int) := by omega
  have h2 : (1 : Int) < (S.size : Int) := by omega
  have h3 : 1 < S.size := hn
  have H := Sta.start w
  go_enter Try.func60, Try.ntmps60
  go_upto_region 0 with fail
  refine Kr.seqStartW ?_
  refine Kr.seqR (by rfl) (fun K hK => ?_)
  go_simp
  obtain ⟨y1, hy⟩ : ∃ y, w.alloc (.cells #[.slice none 0 0] 24) = y := ⟨_, rfl⟩
  obtain ⟨br, hb⟩ : ∃ b, w.heap.size = b := ⟨_, rfl⟩
  rw [hy, hb]
  replace H := H.alloc hy hb rfl
  clear hy hb
  (refine Kr.outS hK (a' := ?_) ?_ ?_; rotate_left; (focus ((try simp only [Act.put, List.getElem_toArray, List.getElem_cons_zero, List.getElem_cons_succ, List.setIfInBounds_toArray, List.set_cons_zero, List.set_cons_succ]); first | done | rfl))); clear hK K
  (refine Kr.seqQ (v := ?_) (a' := ?_) (by rfl) ?_ ?_ ?_; rotate_left 2; (focus (go_simp; first | done | rfl)); (focus ((try simp only [Act.put, List.getElem_toArray, List.getElem_cons_zero, List.getElem_cons_succ, List.setIfInBounds_toArray, List.set_cons_zero, List.set_cons_succ]); first | done | rfl)))
  refine Kr.seqDoneW ?_
  go_upto_region 1 with fail
  refine Kr.seqStartW ?_
  iterate 3 (refine Kr.seqQ (v := ?_) (a' := ?_) (by rfl) ?_ ?_ ?_; rotate_left 2; (focus (go_simp; first | done | rfl)); (focus ((try simp only [Act.put, List.getElem_toArray, List.getElem_cons_zero, List.getElem_cons_succ, List.setIfInBounds_toArray, List.set_cons_zero, List.set_cons_succ]); first | done | rfl)))
  refine Kr.seqDoneW ?_
  clear h1 h0
  go_upto_region 3 with fail
  refine Kr.seqStartW ?_
  (refine Kr.seqQ (v := ?_) (a' := ?_) (by rfl) ?_ ?_ ?_; rotate_left 2; (focus (go_simp; first | done | rfl)); (focus ((try simp only [Act.put, List.getElem_toArray, List.getElem_cons_zero, List.getElem_cons_succ, List.setIfInBounds_toArray, List.set_cons_zero, List.set_cons_succ]); first | done | rfl)))
  (refine Kr.seqQ (v := .bool false) (a' := ?_) (by rfl) ?_ ?_ ?_; rotate_left 1; (focus (exact val_of rfl (run_eql_f 9 _ HS.out))); (focus ((try simp only [Act.put, List.getElem_toArray, List.getElem_cons_zero, List.getElem_cons_succ, List.setIfInBounds_toArray, List.set_cons_zero, List.set_cons_succ]); first | done | rfl)))
  iterate 2 (refine Kr.seqQ (v := ?_) (a' := ?_) (by rfl) ?_ ?_ ?_; rotate_left 2; (focus (go_simp; first | done | rfl)); (focus ((try simp only [Act.put, List.getElem_toArray, List.getElem_cons_zero, List.getElem_cons_succ, List.setIfInBounds_toArray, List.set_cons_zero, List.set_cons_succ]); first | done | rfl)))
  (refine Kr.seqQ (v := .int .u8 48) (a' := ?_) (by rfl) ?_ ?_ ?_; rotate_left 1; (focus (exact val_of rfl (run_at0 Try.underlying9 HN0.out HC0.out))); (focus ((try simp only [Act.put, List.getElem_toArray, List.getElem_cons_zero, List.getElem_cons_succ, List.setIfInBounds_toArray, List.set_cons_zero, List.set_cons_succ]); first | done | rfl)))
  iterate 7 (refine Kr.seqQ (v := ?_) (a' := ?_) (by rfl) ?_ ?_ ?_; rotate_left 2; (focus (go_simp; first | done | rfl)); (focus ((try simp only [Act.put, List.getElem_toArray, List.getElem_cons_zero, List.getElem_cons_succ, List.setIfInBounds_toArray, List.set_cons_zero, List.set_cons_succ]); first | done | rfl)))
  refine Kr.seqDoneW ?_
  go_upto_region 4 with fail
  refine Kr.seqStartW ?_
  (refine Kr.seqQ (v := ?_) (a' := ?_) (by rfl) ?_ ?_ ?_; rotate_left 2; (focus (go_simp; first | done | rfl)); (focus ((try simp only [Act.put, List.getElem_toArray, List.getElem_cons_zero, List.getElem_cons_succ, List.setIfInBounds_toArray, List.set_cons_zero, List.set_cons_succ]); first | done | rfl)))
  have hk := H.c
  simp only [Kr.Cells] at hk
  refine Kr.seqR (by rfl) (fun K hK => ?_)
  go_simp
  clear hk
  obtain ⟨y2, hy⟩ : ∃ y, y1.setCell ⟨br, 0, none⟩ (.slice none 0 0) = y := ⟨_, rfl⟩
  rw [hy]
  replace H := H.store 0 hy rfl rfl
  dsimp only [List.set] at H
  clear hy
  (refine Kr.outS hK (a' := ?_) ?_ ?_; rotate_left; (focus ((try simp only [Act.put, List.getElem_toArray, List.getElem_cons_zero, List.getElem_cons_succ, List.setIfInBounds_toArray, List.set_cons_zero, List.set_cons_succ]); first | done | rfl))); clear hK K
  (refine Kr.seqQ (v := ?_) (a' := ?_) (by rfl) ?_ ?_ ?_; rotate_left 2; (focus (go_simp; first | done | rfl)); (focus ((try simp only [Act.put, List.getElem_toArray, List.getElem_cons_zero, List.getElem_cons_succ, List.setIfInBounds_toArray, List.set_cons_zero, List.set_cons_succ]); first | done | rfl)))
  refine Kr.seqDoneW ?_
  have hk := H.c
  simp only [Kr.Cells] at hk
  go_wp2
  refine bodyPost_ret (v := .tuple #[.agg #[.slice none 0 0], .int .i64 3]) (by simp [results, Try.results60, go_sem, hk]) rfl ⟨none, 0, 0, rfl, nw_none _, H.g⟩
set_option linter.unusedSimpArgs false in
set_option maxRecDepth 100000 in
set_option maxHeartbeats 16000000 in
theorem parse4_one {S : ByteArray} {g : Nat} {w : World} (h0 : S.size ≤ 1000) (hs : S ≠ ⟨#[]⟩) (hn : S.size = 1) (hn0 : 0 < S.size) (hc0 : (bs S)[0]?.getD 0 = 48) (hg : g = 10 ∨ g = 16) (hbad : ¬ ((bs S).head? = some 48 ∧ bs S ≠ [48])) :
    Calls Try.prog 60 #[.string S, .int .u64 (g : Int)] w fun e w' => ∃ z k, Parsed g (bs S) z k ∧ HasE z k w e w' := by
  have HS := Lib.hid hs
  have HN0 := Lib.hid hn0
  have HC0 := Lib.hid hc0
  have HG := Lib.hid hg
  have HBAD := Lib.hid hbad
  clear hs hn0 hc0 hg hbad
  have h1 : ¬ (1000 : Int) < (S.size : Int) := by omega
  have HG2 : Hid (2 ≤ g ∧ g ≤ 16) := Lib.hid (by rcases HG.out with h | h <;> omega)
  have h2 : ¬ (1 : Int) < (S.size : Int) := by omega
  have h3 : ¬ 1 < S.size := by omega
  have H := Sta.start w
  go_enter Try.func60, Try.ntmps60
  go_upto_region 0 with fail
  refine Kr.seqStartW ?_
  refine Kr.seqR (by rfl) (fun K hK => ?_)
  go_simp
  obtain ⟨y1, hy⟩ : ∃ y, w.alloc (.cells #[.slice none 0 0] 24) = y := ⟨_, rfl⟩
  obtain ⟨br, hb⟩ : ∃ b, w.heap.size = b := ⟨_, rfl⟩
  rw [hy, hb]
  replace H := H.alloc hy hb rfl
  clear hy hb
  (refine Kr.outS hK (a' := ?_) ?_ ?_; rotate_left; (focus ((try simp only [Act.put, List.getElem_toArray, List.getElem_cons_zero, List.getElem_cons_succ, List.setIfInBounds_toArray, List.set_cons_zero, List.set_cons_succ]); first | done | rfl))); clear hK K
  (refine Kr.seqQ (v := ?_) (a' := ?_) (by rfl) ?_ ?_ ?_; rotate_left 2; (focus (go_simp; first | done | rfl)); (focus ((try simp only [Act.put, List.getElem_toArray, List.getElem_cons_zero, List.getElem_cons_succ, List.setIfInBounds_toArray, List.set_cons_zero, List.set_cons_succ]); first | done | rfl)))
  refine Kr.seqDoneW ?_
  go_upto_region 1 with fail
  refine Kr.seqStartW ?_
  iterate 3 (refine Kr.seqQ (v := ?_) (a' := ?_) (by rfl) ?_ ?_ ?_; rotate_left 2; (focus (go_simp; first | done | rfl)); (focus ((try simp only [Act.put, List.getElem_toArray, List.getElem_cons_zero, List.getElem_cons_succ, List.setIfInBounds_toArray, List.set_cons_zero, List.set_cons_succ]); first | done | rfl)))
  refine Kr.seqDoneW ?_
  clear h1
  go_upto_region 3 with fail
  refine Kr.seqStartW ?_
  (refine Kr.seqQ (v := ?_) (a' := ?_) (by rfl) ?_ ?_ ?_; rotate_left 2; (focus (go_simp; first | done | rfl)); (focus ((try simp only [Act.put, List.getElem_toArray, List.getElem_cons_zero, List.getElem_cons_succ, List.setIfInBounds_toArray, List.set_cons_zero, List.set_cons_succ]); first | done | rfl)))
  (refine Kr.seqQ (v := .bool false) (a' := ?_) (by rfl) ?_ ?_ ?_; rotate_left 1; (focus (exact val_of rfl (run_eql_f 9 _ HS.out))); (focus ((try simp only [Act.put, List.getElem_toArray, List.getElem_cons_zero, List.getElem_cons_succ, List.setIfInBounds_toArray, List.set_cons_zero, List.set_cons_succ]); first | done | rfl)))
  iterate 2 (refine Kr.seqQ (v := ?_) (a' := ?_) (by rfl) ?_ ?_ ?_; rotate_left 2; (focus (go_simp; first | done | rfl)); (focus ((try simp only [Act.put, List.getElem_toArray, List.getElem_cons_zero, List.getElem_cons_succ, List.setIfInBounds_toArray, List.set_cons_zero, List.set_cons_succ]); first | done | rfl)))
  (refine Kr.seqQ (v := .int .u8 48) (a' := ?_) (by rfl) ?_ ?_ ?_; rotate_left 1; (focus (exact val_of rfl (run_at0 Try.underlying9 HN0.out HC0.out))); (focus ((try simp only [Act.put, List.getElem_toArray, List.getElem_cons_zero, List.getElem_cons_succ, List.setIfInBounds_toArray, List.set_cons_zero, List.set_cons_succ]); first | done | rfl)))
  iterate 7 (refine Kr.seqQ (v := ?_) (a' := ?_) (by rfl) ?_ ?_ ?_; rotate_left 2; (focus (go_simp; first | done | rfl)); (focus ((try simp only [Act.put, List.getElem_toArray, List.getElem_cons_zero, List.getElem_cons_succ, List.setIfInBounds_toArray, List.set_cons_zero, List.set_cons_succ]); first | done | rfl)))
  refine Kr.seqDoneW ?_
  clear h2 h3
  obtain ⟨l, hl⟩ : ∃ l, bs S = l := ⟨_, rfl⟩
  have hml : l.length = S.size := by rw [← hl, bs_length]
  have HL256 : Hid (∀ x ∈ l, x < 256) := Lib.hid (by rw [← hl]; exact bs_lt S)
  obtain ⟨m, hm⟩ : ∃ m, S.size = m := ⟨_, rfl⟩
  rw [hm] at hml h0
  have HM := Lib.hid hml; have HSM := Lib.hid hm; have HBL := Lib.hid hl
  clear hml hm hl hn
  go_upto_region 5 with fail
  refine Kr.seqStartW ?_
  (refine Kr.seqQ (v := ?_) (a' := ?_) (by rfl) ?_ ?_ ?_; rotate_left 2; (focus (go_simp; first | done | rfl)); (focus ((try simp only [Act.put, List.getElem_toArray, List.getElem_cons_zero, List.getElem_cons_succ, List.setIfInBounds_toArray, List.set_cons_zero, List.set_cons_succ]); first | done | rfl)))
  refine Kr.seqDoneW ?_
  have H2 := Lib.hid H
  go_wp2
  go_loopw [6, 7, 8] (fun i _ _ wr => ∃ k : Nat, k ≤ m ∧ i = .int .i64 (k : Int) ∧ Hid (∀ j, j < k → wv (l[j]?.getD 0) < g) ∧ Hid (Sta w wr [(br, 0, .slice none 0 0)] [])) (fun i _ _ _ => m - (intOf i).toNat)
  case atStart => exact ⟨0, Nat.zero_le _, rfl, Lib.hid (fun j hj => absurd hj (Nat.not_lt_zero j)), H2⟩
  case round =>
    clear H H2
    obtain ⟨k, hk, rfl, HOK, HH⟩ := hrel
    have H := HH.out
    clear HH
    by_cases hlt : k < m
    · skip
      have hlL : k < l.length := by rw [HM.out]; exact hlt
      obtain ⟨c, hd⟩ : ∃ c, l[k]?.getD 0 = c := ⟨_, rfl⟩
      have HC256 : Hid (c < 256) := Lib.hid (by rw [← hd]; exact HL256.out _ (get_mem hlL))
      have HCK : Hid ((bs S)[k]?.getD 0 = c) := Lib.hid (by rw [HBL.out]; exact hd)
      have HMEM : Hid (c ∈ l) := Lib.hid (by rw [← hd]; exact get_mem hlL)
      have HKS : Hid (k < S.size) := Lib.hid (by rw [HSM.out]; exact hlt)
      clear hd hlL
      have hltS : (k : Int) < (S.size : Int) := by rw [HSM.out]; omega
      have kw : IntKind.i64.wrap ((k : Int) + 1) = (k : Int) + 1 := IntWalk.i64_in _ (by omega)
      go_upto_region 6 with fail
      refine Kr.seqStartW ?_
      iterate 4 (refine Kr.seqQ (v := ?_) (a' := ?_) (by rfl) ?_ ?_ ?_; rotate_left 2; (focus (go_simp; first | done | rfl)); (focus ((try simp only [Act.put, List.getElem_toArray, List.getElem_cons_zero, List.getElem_cons_succ, List.setIfInBounds_toArray, List.set_cons_zero, List.set_cons_succ]); first | done | rfl)))
      refine Kr.seqDoneW ?_
      clear hltS
      go_upto_region 8 with fail
      refine Kr.seqStartW ?_
      iterate 2 (refine Kr.seqQ (v := ?_) (a' := ?_) (by rfl) ?_ ?_ ?_; rotate_left 2; (focus (go_simp; first | done | rfl)); (focus ((try simp only [Act.put, List.getElem_toArray, List.getElem_cons_zero, List.getElem_cons_succ, List.setIfInBounds_toArray, List.set_cons_zero, List.set_cons_succ]); first | done | rfl)))
      (refine Kr.seqQ (v := .int .u8 (c : Int)) (a' := ?_) (by rfl) ?_ ?_ ?_; rotate_left 1; (focus (exact val_of rfl (run_atc Try.underlying9 HKS.out HCK.out))); (focus ((try simp only [Act.put, List.getElem_toArray, List.getElem_cons_zero, List.getElem_cons_succ, List.setIfInBounds_toArray, List.set_cons_zero, List.set_cons_succ]); first | done | rfl)))
      (refine Kr.seqQ (v := ?_) (a' := ?_) (by rfl) ?_ ?_ ?_; rotate_left 2; (focus (go_simp; first | done | rfl)); (focus ((try simp only [Act.put, List.getElem_toArray, List.getElem_cons_zero, List.getElem_cons_succ, List.setIfInBounds_toArray, List.set_cons_zero, List.set_cons_succ]); first | done | rfl)))
      refine Kr.seqR (by rfl) (fun K hK => ?_)
      go_simp
      go_at_call 105
      refine (value4_v HC256.out HG.out).mono ?_
      rintro e y2 ⟨v, bo, rfl, hv, hg⟩
      replace H := H.grow hg
      have HV := Lib.hid hv
      clear hv hg
      (refine Kr.outS hK (a' := ?_) ?_ ?_; rotate_left; (focus ((try simp only [Act.put, List.getElem_toArray, List.getElem_cons_zero, List.getElem_cons_succ, List.setIfInBounds_toArray, List.set_cons_zero, List.set_cons_succ]); first | done | rfl))); clear hK K
      iterate 5 (refine Kr.seqQ (v := ?_) (a' := ?_) (by rfl) ?_ ?_ ?_; rotate_left 2; (focus (go_simp; first | done | rfl)); (focus ((try simp only [Act.put, List.getElem_toArray, List.getElem_cons_zero, List.getElem_cons_succ, List.setIfInBounds_toArray, List.set_cons_zero, List.set_cons_succ]); first | done | rfl)))
      refine Kr.seqDoneW ?_
      rcases bo with _ | _
      · skip
        go_upto_region 9 with fail
        refine Kr.seqStartW ?_
        iterate 2 (refine Kr.seqQ (v := ?_) (a' := ?_) (by rfl) ?_ ?_ ?_; rotate_left 2; (focus (go_simp; first | done | rfl)); (focus ((try simp only [Act.put, List.getElem_toArray, List.getElem_cons_zero, List.getElem_cons_succ, List.setIfInBounds_toArray, List.set_cons_zero, List.set_cons_succ]); first | done | rfl)))
        refine Kr.seqDoneW ?_
        go_upto_region 10 with fail
        refine Kr.seqStartW ?_
        (refine Kr.seqQ (v := ?_) (a' := ?_) (by rfl) ?_ ?_ ?_; rotate_left 2; (focus (go_simp; first | done | rfl)); (focus ((try simp only [Act.put, List.getElem_toArray, List.getElem_cons_zero, List.getElem_cons_succ, List.setIfInBounds_toArray, List.set_cons_zero, List.set_cons_succ]); first | done | rfl)))
        have hk := H.c
        simp only [Kr.Cells] at hk
        refine Kr.seqR (by rfl) (fun K hK => ?_)
        go_simp
        clear hk
        obtain ⟨y3, hy⟩ : ∃ y, y2.setCell ⟨br, 0, none⟩ (.slice none 0 0) = y := ⟨_, rfl⟩
        rw [hy]
        replace H := H.store 0 hy rfl rfl
        dsimp only [List.set] at H
        clear hy
        (refine Kr.outS hK (a' := ?_) ?_ ?_; rotate_left; (focus ((try simp only [Act.put, List.getElem_toArray, List.getElem_cons_zero, List.getElem_cons_succ, List.setIfInBounds_toArray, List.set_cons_zero, List.set_cons_succ]); first | done | rfl))); clear hK K
        (refine Kr.seqQ (v := ?_) (a' := ?_) (by rfl) ?_ ?_ ?_; rotate_left 2; (focus (go_simp; first | done | rfl)); (focus ((try simp only [Act.put, List.getElem_toArray, List.getElem_cons_zero, List.getElem_cons_succ, List.setIfInBounds_toArray, List.set_cons_zero, List.set_cons_succ]); first | done | rfl)))
        refine Kr.seqDoneW ?_
        have hk := H.c
        simp only [Kr.Cells] at hk
        go_wp2
        refine bodyPost_ret (v := .tuple #[.agg #[.slice none 0 0], .int .i64 3]) (by simp [results, Try.results60, go_sem, hk]) rfl ⟨0, 3, .inr (.inl ⟨by rw [HBL.out, HM.out]; exact h0, .inr (.inr ⟨c, by rw [HBL.out]; exact HMEM.out, HV.out⟩), rfl, rfl⟩), none, 0, 0, rfl, nw_none _, H.g⟩
      · skip
        go_upto_region 9 with fail
        refine Kr.seqStartW ?_
        iterate 2 (refine Kr.seqQ (v := ?_) (a' := ?_) (by rfl) ?_ ?_ ?_; rotate_left 2; (focus (go_simp; first | done | rfl)); (focus ((try simp only [Act.put, List.getElem_toArray, List.getElem_cons_zero, List.getElem_cons_succ, List.setIfInBounds_toArray, List.set_cons_zero, List.set_cons_succ]); first | done | rfl)))
        refine Kr.seqDoneW ?_
        go_upto_region 7 with fail
        refine Kr.seqStartW ?_
        iterate 3 (refine Kr.seqQ (v := ?_) (a' := ?_) (by rfl) ?_ ?_ ?_; rotate_left 2; (focus (go_simp; first | done | rfl)); (focus ((try simp only [Act.put, List.getElem_toArray, List.getElem_cons_zero, List.getElem_cons_succ, List.setIfInBounds_toArray, List.set_cons_zero, List.set_cons_succ]); first | done | rfl)))
        refine Kr.seqDoneW ?_
        go_wp2
        go_roundw
        case rel => exact ⟨k + 1, by omega, rfl, Lib.hid (fun j hj => by rcases Nat.lt_succ_iff_lt_or_eq.1 hj with h | h; exact HOK.out j h; rw [h, ← HBL.out, HCK.out]; exact HV.out.2), Lib.hid H⟩
        case measure => (simp [intOf] <;> omega)
    · obtain rfl : k = m := by omega
      clear hk
      have hltS : ¬ (k : Int) < (S.size : Int) := by rw [HSM.out]; omega
      go_upto_region 6 with fail
      refine Kr.seqStartW ?_
      iterate 4 (refine Kr.seqQ (v := ?_) (a' := ?_) (by rfl) ?_ ?_ ?_; rotate_left 2; (focus (go_simp; first | done | rfl)); (focus ((try simp only [Act.put, List.getElem_toArray, List.getElem_cons_zero, List.getElem_cons_succ, List.setIfInBounds_toArray, List.set_cons_zero, List.set_cons_succ]); first | done | rfl)))
      refine Kr.seqDoneW ?_
      clear hltS
      have HWV : Hid (∀ x ∈ l.map wv, x < g) := Lib.hid (fun x hx => by obtain ⟨c, hc, rfl⟩ := List.mem_map.1 hx; obtain ⟨j, hj, rfl⟩ := List.getElem_of_mem hc; have h := HOK.out j (by rw [← HM.out]; exact hj); rwa [List.getElem?_eq_getElem hj] at h)
      go_upto_region 11 with fail
      refine Kr.seqStartW ?_
      (refine Kr.seqQ (v := ?_) (a' := ?_) (by rfl) ?_ ?_ ?_; rotate_left 2; (focus (go_simp; first | done | rfl)); (focus ((try simp only [Act.put, List.getElem_toArray, List.getElem_cons_zero, List.getElem_cons_succ, List.setIfInBounds_toArray, List.set_cons_zero, List.set_cons_succ]); first | done | rfl)))
      refine Kr.seqDoneW ?_
      go_upto_region 12 with fail
      refine Kr.seqStartW ?_
      (refine Kr.seqQ (v := ?_) (a' := ?_) (by rfl) ?_ ?_ ?_; rotate_left 2; (focus (go_simp; first | done | rfl)); (focus ((try simp only [Act.put, List.getElem_toArray, List.getElem_cons_zero, List.getElem_cons_succ, List.setIfInBounds_toArray, List.set_cons_zero, List.set_cons_succ]); first | done | rfl)))
      refine Kr.seqDoneW ?_
      have H2 : Hid (Sta w wr [(br, 0, .slice none 0 0)] [N none 0 0 (dval g ((l.map wv).take 0))]) := Lib.hid (H.num (nw_none _))
      go_wp2
      go_loopw [9, 10, 11, 12] (fun v i _ _ wr => ∃ (j : Nat) (pz : Option Addr) (nz cz : Nat), j ≤ k ∧ v = .slice pz nz cz ∧ i = .int .i64 (j : Int) ∧ Hid (Sta w wr [(br, 0, .slice none 0 0)] [N pz nz cz (dval g ((l.map wv).take j))])) (fun _ i _ _ _ => k - (intOf i).toNat)
      case atStart => exact ⟨0, none, 0, 0, Nat.zero_le _, rfl, rfl, H2⟩
      case round =>
        clear H H2
        obtain ⟨j, pz, nz, cz, hjk, rfl, rfl, HH⟩ := hrel
        have H := HH.out
        clear HH
        have HPW : Hid (dval g ((l.map wv).take j) < pw j) := Lib.hid (by have h := dval_pw (l := (l.map wv).take j) (Nat.le_trans HG2.out.2 (by decide)) (fun d hd => HWV.out d (List.mem_of_mem_take hd)); rwa [List.length_take, List.length_map, HM.out, Nat.min_eq_left hjk] at h)
        by_cases hlt2 : j < k
        · skip
          have hlL : j < l.length := by rw [HM.out]; exact hlt2
          obtain ⟨c, hd⟩ : ∃ c, l[j]?.getD 0 = c := ⟨_, rfl⟩
          have HC256 : Hid (c < 256) := Lib.hid (by rw [← hd]; exact HL256.out _ (get_mem hlL))
          have HCK : Hid ((bs S)[j]?.getD 0 = c) := Lib.hid (by rw [HBL.out]; exact hd)
          have HKS : Hid (j < S.size) := Lib.hid (by rw [HSM.out]; exact hlt2)
          have HWC : Hid (wv c < g) := Lib.hid (by rw [← hd]; exact HOK.out j hlt2)
          have HSD : Hid (dval g ((l.map wv).take (j + 1)) = dval g ((l.map wv).take j) * g + wv c) := Lib.hid (by rw [dval_take g (l.map wv) (by rw [List.length_map]; exact hlL), List.getElem?_map, ← hd, List.getElem?_eq_getElem hlL]; rfl)
          clear hd hlL
          have hltS : (j : Int) < (S.size : Int) := by rw [HSM.out]; omega
          have kw : IntKind.i64.wrap ((j : Int) + 1) = (j : Int) + 1 := IntWalk.i64_in _ (by omega)
          go_upto_region 13 with fail
          refine Kr.seqStartW ?_
          iterate 4 (refine Kr.seqQ (v := ?_) (a' := ?_) (by rfl) ?_ ?_ ?_; rotate_left 2; (focus (go_simp; first | done | rfl)); (focus ((try simp only [Act.put, List.getElem_toArray, List.getElem_cons_zero, List.getElem_cons_succ, List.setIfInBounds_toArray, List.set_cons_zero, List.set_cons_succ]); first | done | rfl)))
          refine Kr.seqDoneW ?_
          clear hltS
          go_upto_region 15 with fail
          refine Kr.seqStartW ?_
          iterate 2 (refine Kr.seqQ (v := ?_) (a' := ?_) (by rfl) ?_ ?_ ?_; rotate_left 2; (focus (go_simp; first | done | rfl)); (focus ((try simp only [Act.put, List.getElem_toArray, List.getElem_cons_zero, List.getElem_cons_succ, List.setIfInBounds_toArray, List.set_cons_zero, List.set_cons_succ]); first | done | rfl)))
          (refine Kr.seqQ (v := .int .u8 (c : Int)) (a' := ?_) (by rfl) ?_ ?_ ?_; rotate_left 1; (focus (exact val_of rfl (run_atc Try.underlying9 HKS.out HCK.out))); (focus ((try simp only [Act.put, List.getElem_toArray, List.getElem_cons_zero, List.getElem_cons_succ, List.setIfInBounds_toArray, List.set_cons_zero, List.set_cons_succ]); first | done | rfl)))
          (refine Kr.seqQ (v := ?_) (a' := ?_) (by rfl) ?_ ?_ ?_; rotate_left 2; (focus (go_simp; first | done | rfl)); (focus ((try simp only [Act.put, List.getElem_toArray, List.getElem_cons_zero, List.getElem_cons_succ, List.setIfInBounds_toArray, List.set_cons_zero, List.set_cons_succ]); first | done | rfl)))
          refine Kr.seqR (by rfl) (fun K hK => ?_)
          go_simp
          go_at_call 105
          refine (value4_v HC256.out HG.out).mono ?_
          rintro e y4 ⟨v, bo, rfl, hv, hg⟩
          have hvt : v = wv c := by rcases bo with _ | _; exact absurd (show g ≤ wv c from hv) (Nat.not_le_of_lt HWC.out); exact hv.1
          replace H := H.grow hg
          subst hvt
          clear hv hg
          obtain ⟨q, hq⟩ : ∃ q, wv c = q := ⟨_, rfl⟩
          rw [hq] at HSD HWC ⊢
          clear hq
          (refine Kr.outS hK (a' := ?_) ?_ ?_; rotate_left; (focus ((try simp only [Act.put, List.getElem_toArray, List.getElem_cons_zero, List.getElem_cons_succ, List.setIfInBounds_toArray, List.set_cons_zero, List.set_cons_succ]); first | done | rfl))); clear hK K
          iterate 5 (refine Kr.seqQ (v := ?_) (a' := ?_) (by rfl) ?_ ?_ ?_; rotate_left 2; (focus (go_simp; first | done | rfl)); (focus ((try simp only [Act.put, List.getElem_toArray, List.getElem_cons_zero, List.getElem_cons_succ, List.setIfInBounds_toArray, List.set_cons_zero, List.set_cons_succ]); first | done | rfl)))
          refine Kr.seqDoneW ?_
          go_upto_region 16 with fail
          refine Kr.seqStartW ?_
          iterate 3 (refine Kr.seqQ (v := ?_) (a' := ?_) (by rfl) ?_ ?_ ?_; rotate_left 2; (focus (go_simp; first | done | rfl)); (focus ((try simp only [Act.put, List.getElem_toArray, List.getElem_cons_zero, List.getElem_cons_succ, List.setIfInBounds_toArray, List.set_cons_zero, List.set_cons_succ]); first | done | rfl)))
          refine Kr.seqR (by rfl) (fun K hK => ?_)
          go_simp
          go_at_call 106
          have hb9 : nz ≤ 1000000 := by have h := (H.nw 0 rfl).len; have h2 := (digs_length_le _ j).2 HPW.out; omega
          refine (times4_v (d := g) (plus := q) (H.nw 0 rfl) hb9 ⟨by have h := HG2.out; omega, by have h := HG2.out; omega, by have h := HG2.out; have h2 := HWC.out; omega⟩).mono ?_
          rintro e y5 ⟨pq, nq, cq, rfl, hr, hg⟩
          clear hb9
          replace H := H.grow hg
          replace H := H.num hr
          clear hr hg
          (refine Kr.outS hK (a' := ?_) ?_ ?_; rotate_left; (focus ((try simp only [Act.put, List.getElem_toArray, List.getElem_cons_zero, List.getElem_cons_succ, List.setIfInBounds_toArray, List.set_cons_zero, List.set_cons_succ]); first | done | rfl))); clear hK K
          (refine Kr.seqQ (v := ?_) (a' := ?_) (by rfl) ?_ ?_ ?_; rotate_left 2; (focus (go_simp; first | done | rfl)); (focus ((try simp only [Act.put, List.getElem_toArray, List.getElem_cons_zero, List.getElem_cons_succ, List.setIfInBounds_toArray, List.set_cons_zero, List.set_cons_succ]); first | done | rfl)))
          refine Kr.seqDoneW ?_
          go_upto_region 14 with fail
          refine Kr.seqStartW ?_
          iterate 3 (refine Kr.seqQ (v := ?_) (a' := ?_) (by rfl) ?_ ?_ ?_; rotate_left 2; (focus (go_simp; first | done | rfl)); (focus ((try simp only [Act.put, List.getElem_toArray, List.getElem_cons_zero, List.getElem_cons_succ, List.setIfInBounds_toArray, List.set_cons_zero, List.set_cons_succ]); first | done | rfl)))
          refine Kr.seqDoneW ?_
          go_wp2
          go_roundw
          case rel => exact ⟨j + 1, _, _, _, by omega, rfl, rfl, Lib.hid (by rw [HSD.out]; exact H.pick [0] rfl)⟩
          case measure => (simp [intOf] <;> omega)
        · obtain rfl : j = k := by omega
          clear hjk
          have hltS : ¬ (j : Int) < (S.size : Int) := by rw [HSM.out]; omega
          have HLK : Hid ((l.map wv).take j = l.map wv) := Lib.hid (List.take_of_length_le (by rw [List.length_map, HM.out]; exact Nat.le_refl _))
          rw [HLK.out] at HPW H
          go_upto_region 13 with fail
          refine Kr.seqStartW ?_
          iterate 4 (refine Kr.seqQ (v := ?_) (a' := ?_) (by rfl) ?_ ?_ ?_; rotate_left 2; (focus (go_simp; first | done | rfl)); (focus ((try simp only [Act.put, List.getElem_toArray, List.getElem_cons_zero, List.getElem_cons_succ, List.setIfInBounds_toArray, List.set_cons_zero, List.set_cons_succ]); first | done | rfl)))
          refine Kr.seqDoneW ?_
          clear hltS
          have HFT : Hid (nz ≤ 64 ↔ dval g (l.map wv) < pw 64) := Lib.hid (by rw [← (H.nw 0 rfl).len]; exact digs_length_le _ 64)
          by_cases hn64 : nz ≤ 64
          · have HN := Lib.hid hn64
            have hn2 : ¬ (64 : Int) < (nz : Int) := by omega
            clear hn64
            go_upto_region 17 with fail
            refine Kr.seqStartW ?_
            iterate 3 (refine Kr.seqQ (v := ?_) (a' := ?_) (by rfl) ?_ ?_ ?_; rotate_left 2; (focus (go_simp; first | done | rfl)); (focus ((try simp only [Act.put, List.getElem_toArray, List.getElem_cons_zero, List.getElem_cons_succ, List.setIfInBounds_toArray, List.set_cons_zero, List.set_cons_succ]); first | done | rfl)))
            refine Kr.seqDoneW ?_
            clear hn2
            go_upto_region 19 with fail
            refine Kr.seqStartW ?_
            iterate 2 (refine Kr.seqQ (v := ?_) (a' := ?_) (by rfl) ?_ ?_ ?_; rotate_left 2; (focus (go_simp; first | done | rfl)); (focus ((try simp only [Act.put, List.getElem_toArray, List.getElem_cons_zero, List.getElem_cons_succ, List.setIfInBounds_toArray, List.set_cons_zero, List.set_cons_succ]); first | done | rfl)))
            have hk := H.c
            simp only [Kr.Cells] at hk
            refine Kr.seqR (by rfl) (fun K hK => ?_)
            go_simp
            clear hk
            obtain ⟨y6, hy⟩ : ∃ y, wr.setCell ⟨br, 0, none⟩ (.slice pz nz cz) = y := ⟨_, rfl⟩
            rw [hy]
            replace H := H.store 0 hy rfl rfl
            dsimp only [List.set] at H
            clear hy
            (refine Kr.outS hK (a' := ?_) ?_ ?_; rotate_left; (focus ((try simp only [Act.put, List.getElem_toArray, List.getElem_cons_zero, List.getElem_cons_succ, List.setIfInBounds_toArray, List.set_cons_zero, List.set_cons_succ]); first | done | rfl))); clear hK K
            (refine Kr.seqQ (v := ?_) (a' := ?_) (by rfl) ?_ ?_ ?_; rotate_left 2; (focus (go_simp; first | done | rfl)); (focus ((try simp only [Act.put, List.getElem_toArray, List.getElem_cons_zero, List.getElem_cons_succ, List.setIfInBounds_toArray, List.set_cons_zero, List.set_cons_succ]); first | done | rfl)))
            refine Kr.seqDoneW ?_
            have hk := H.c
            simp only [Kr.Cells] at hk
            go_wp2
            refine bodyPost_ret (v := .tuple #[.agg #[.slice pz nz cz], .int .i64 0]) (by simp [results, Try.results60, go_sem, hk]) rfl ⟨dval g (l.map wv), 0, .inr (.inr ⟨by rw [HBL.out, HM.out]; exact h0, fun hb => by rcases hb with hb | hb | ⟨c, hc, hgc⟩; exact absurd (bs_nil hb) HS.out; exact absurd hb HBAD.out; exact absurd hgc (Nat.not_le_of_lt (HWV.out _ (List.mem_map_of_mem (HBL.out ▸ hc)))), by rw [HBL.out]; exact .inl ⟨HFT.out.1 HN.out, rfl, rfl⟩⟩), pz, nz, cz, rfl, H.nw 0 rfl, H.g⟩
          · have HN := Lib.hid hn64
            have hn2 : (64 : Int) < (nz : Int) := by omega
            clear hn64
            go_upto_region 17 with fail
            refine Kr.seqStartW ?_
            iterate 3 (refine Kr.seqQ (v := ?_) (a' := ?_) (by rfl) ?_ ?_ ?_; rotate_left 2; (focus (go_simp; first | done | rfl)); (focus ((try simp only [Act.put, List.getElem_toArray, List.getElem_cons_zero, List.getElem_cons_succ, List.setIfInBounds_toArray, List.set_cons_zero, List.set_cons_succ]); first | done | rfl)))
            refine Kr.seqDoneW ?_
            clear hn2
            go_upto_region 18 with fail
            refine Kr.seqStartW ?_
            (refine Kr.seqQ (v := ?_) (a' := ?_) (by rfl) ?_ ?_ ?_; rotate_left 2; (focus (go_simp; first | done | rfl)); (focus ((try simp only [Act.put, List.getElem_toArray, List.getElem_cons_zero, List.getElem_cons_succ, List.setIfInBounds_toArray, List.set_cons_zero, List.set_cons_succ]); first | done | rfl)))
            have hk := H.c
            simp only [Kr.Cells] at hk
            refine Kr.seqR (by rfl) (fun K hK => ?_)
            go_simp
            clear hk
            obtain ⟨y7, hy⟩ : ∃ y, wr.setCell ⟨br, 0, none⟩ (.slice none 0 0) = y := ⟨_, rfl⟩
            rw [hy]
            replace H := H.store 0 hy rfl rfl
            dsimp only [List.set] at H
            clear hy
            (refine Kr.outS hK (a' := ?_) ?_ ?_; rotate_left; (focus ((try simp only [Act.put, List.getElem_toArray, List.getElem_cons_zero, List.getElem_cons_succ, List.setIfInBounds_toArray, List.set_cons_zero, List.set_cons_succ]); first | done | rfl))); clear hK K
            (refine Kr.seqQ (v := ?_) (a' := ?_) (by rfl) ?_ ?_ ?_; rotate_left 2; (focus (go_simp; first | done | rfl)); (focus ((try simp only [Act.put, List.getElem_toArray, List.getElem_cons_zero, List.getElem_cons_succ, List.setIfInBounds_toArray, List.set_cons_zero, List.set_cons_succ]); first | done | rfl)))
            refine Kr.seqDoneW ?_
            have hk := H.c
            simp only [Kr.Cells] at hk
            go_wp2
            refine bodyPost_ret (v := .tuple #[.agg #[.slice none 0 0], .int .i64 9]) (by simp [results, Try.results60, go_sem, hk]) rfl ⟨0, 9, .inr (.inr ⟨by rw [HBL.out, HM.out]; exact h0, fun hb => by rcases hb with hb | hb | ⟨c, hc, hgc⟩; exact absurd (bs_nil hb) HS.out; exact absurd hb HBAD.out; exact absurd hgc (Nat.not_le_of_lt (HWV.out _ (List.mem_map_of_mem (HBL.out ▸ hc)))), by rw [HBL.out]; exact .inr ⟨Nat.le_of_not_lt (fun h => HN.out (HFT.out.2 h)), rfl, rfl⟩⟩), none, 0, 0, rfl, nw_none _, H.g⟩
set_option linter.unusedSimpArgs false in
set_option maxRecDepth 100000 in
set_option maxHeartbeats 16000000 in
theorem parse4_go {S : ByteArray} {g c0 : Nat} {w : World} (h0 : S.size ≤ 1000) (hs : S ≠ ⟨#[]⟩) (hn0 : 0 < S.size) (hc0 : (bs S)[0]?.getD 0 = c0) (hc48 : c0 ≠ 48) (hg : g = 10 ∨ g = 16) (hbad : ¬ ((bs S).head? = some 48 ∧ bs S ≠ [48])) :
    Calls Try.prog 60 #[.string S, .int .u64 (g : Int)] w fun e w' => ∃ z k, Parsed g (bs S) z k ∧ HasE z k w e w' := by
  have HS := Lib.hid hs
  have HN0 := Lib.hid hn0
  have HC0 := Lib.hid hc0
  have HG := Lib.hid hg
  have HBAD := Lib.hid hbad
  clear hs hn0 hc0 hg hbad
  have h1 : ¬ (1000 : Int) < (S.size : Int) := by omega
  have HG2 : Hid (2 ≤ g ∧ g ≤ 16) := Lib.hid (by rcases HG.out with h | h <;> omega)
  have hcb : ((c0 : Int) == 48) = false := by simp; omega
  have hcc : ¬ (c0 : Int) = 48 := by omega
  clear hc48
  have H := Sta.start w
  go_enter Try.func60, Try.ntmps60
  go_upto_region 0 with fail
  refine Kr.seqStartW ?_
  refine Kr.seqR (by rfl) (fun K hK => ?_)
  go_simp
  obtain ⟨y1, hy⟩ : ∃ y, w.alloc (.cells #[.slice none 0 0] 24) = y := ⟨_, rfl⟩
  obtain ⟨br, hb⟩ : ∃ b, w.heap.size = b := ⟨_, rfl⟩
  rw [hy, hb]
  replace H := H.alloc hy hb rfl
  clear hy hb
  (refine Kr.outS hK (a' := ?_) ?_ ?_; rotate_left; (focus ((try simp only [Act.put, List.getElem_toArray, List.getElem_cons_zero, List.getElem_cons_succ, List.setIfInBounds_toArray, List.set_cons_zero, List.set_cons_succ]); first | done | rfl))); clear hK K
  (refine Kr.seqQ (v := ?_) (a' := ?_) (by rfl) ?_ ?_ ?_; rotate_left 2; (focus (go_simp; first | done | rfl)); (focus ((try simp only [Act.put, List.getElem_toArray, List.getElem_cons_zero, List.getElem_cons_succ, List.setIfInBounds_toArray, List.set_cons_zero, List.set_cons_succ]); first | done | rfl)))
  refine Kr.seqDoneW ?_
  go_upto_region 1 with fail
  refine Kr.seqStartW ?_
  iterate 3 (refine Kr.seqQ (v := ?_) (a' := ?_) (by rfl) ?_ ?_ ?_; rotate_left 2; (focus (go_simp; first | done | rfl)); (focus ((try simp only [Act.put, List.getElem_toArray, List.getElem_cons_zero, List.getElem_cons_succ, List.setIfInBounds_toArray, List.set_cons_zero, List.set_cons_succ]); first | done | rfl)))
  refine Kr.seqDoneW ?_
  clear h1
  go_upto_region 3 with fail
  refine Kr.seqStartW ?_
  (refine Kr.seqQ (v := ?_) (a' := ?_) (by rfl) ?_ ?_ ?_; rotate_left 2; (focus (go_simp; first | done | rfl)); (focus ((try simp only [Act.put, List.getElem_toArray, List.getElem_cons_zero, List.getElem_cons_succ, List.setIfInBounds_toArray, List.set_cons_zero, List.set_cons_succ]); first | done | rfl)))
  (refine Kr.seqQ (v := .bool false) (a' := ?_) (by rfl) ?_ ?_ ?_; rotate_left 1; (focus (exact val_of rfl (run_eql_f 9 _ HS.out))); (focus ((try simp only [Act.put, List.getElem_toArray, List.getElem_cons_zero, List.getElem_cons_succ, List.setIfInBounds_toArray, List.set_cons_zero, List.set_cons_succ]); first | done | rfl)))
  iterate 2 (refine Kr.seqQ (v := ?_) (a' := ?_) (by rfl) ?_ ?_ ?_; rotate_left 2; (focus (go_simp; first | done | rfl)); (focus ((try simp only [Act.put, List.getElem_toArray, List.getElem_cons_zero, List.getElem_cons_succ, List.setIfInBounds_toArray, List.set_cons_zero, List.set_cons_succ]); first | done | rfl)))
  (refine Kr.seqQ (v := .int .u8 (c0 : Int)) (a' := ?_) (by rfl) ?_ ?_ ?_; rotate_left 1; (focus (exact val_of rfl (run_at0 Try.underlying9 HN0.out HC0.out))); (focus ((try simp only [Act.put, List.getElem_toArray, List.getElem_cons_zero, List.getElem_cons_succ, List.setIfInBounds_toArray, List.set_cons_zero, List.set_cons_succ]); first | done | rfl)))
  iterate 2 (refine Kr.seqQ (v := ?_) (a' := ?_) (by rfl) ?_ ?_ ?_; rotate_left 2; (focus (go_simp; first | done | rfl)); (focus ((try simp only [Act.put, List.getElem_toArray, List.getElem_cons_zero, List.getElem_cons_succ, List.setIfInBounds_toArray, List.set_cons_zero, List.set_cons_succ]); first | done | rfl)))
  (refine Kr.seqSkipQ (a' := ?_) (by rfl) ?_ ?_; rotate_left; (focus ((try simp only [Act.put, List.getElem_toArray, List.getElem_cons_zero, List.getElem_cons_succ, List.setIfInBounds_toArray, List.set_cons_zero, List.set_cons_succ]); first | done | rfl)))
  (refine Kr.seqSkipQ (a' := ?_) (by rfl) ?_ ?_; rotate_left; (focus ((try simp only [Act.put, List.getElem_toArray, List.getElem_cons_zero, List.getElem_cons_succ, List.setIfInBounds_toArray, List.set_cons_zero, List.set_cons_succ]); first | done | rfl)))
  (refine Kr.seqSkipQ (a' := ?_) (by rfl) ?_ ?_; rotate_left; (focus ((try simp only [Act.put, List.getElem_toArray, List.getElem_cons_zero, List.getElem_cons_succ, List.setIfInBounds_toArray, List.set_cons_zero, List.set_cons_succ]); first | done | rfl)))
  iterate 2 (refine Kr.seqQ (v := ?_) (a' := ?_) (by rfl) ?_ ?_ ?_; rotate_left 2; (focus (go_simp; first | done | rfl)); (focus ((try simp only [Act.put, List.getElem_toArray, List.getElem_cons_zero, List.getElem_cons_succ, List.setIfInBounds_toArray, List.set_cons_zero, List.set_cons_succ]); first | done | rfl)))
  refine Kr.seqDoneW ?_
  clear hcb hcc
  obtain ⟨l, hl⟩ : ∃ l, bs S = l := ⟨_, rfl⟩
  have hml : l.length = S.size := by rw [← hl, bs_length]
  have HL256 : Hid (∀ x ∈ l, x < 256) := Lib.hid (by rw [← hl]; exact bs_lt S)
  obtain ⟨m, hm⟩ : ∃ m, S.size = m := ⟨_, rfl⟩
  rw [hm] at hml h0
  have HM := Lib.hid hml; have HSM := Lib.hid hm; have HBL := Lib.hid hl
  clear hml hm hl
  go_upto_region 5 with fail
  refine Kr.seqStartW ?_
  (refine Kr.seqQ (v := ?_) (a' := ?_) (by rfl) ?_ ?_ ?_; rotate_left 2; (focus (go_simp; first | done | rfl)); (focus ((try simp only [Act.put, List.getElem_toArray, List.getElem_cons_zero, List.getElem_cons_succ, List.setIfInBounds_toArray, List.set_cons_zero, List.set_cons_succ]); first | done | rfl)))
  refine Kr.seqDoneW ?_
  have H2 := Lib.hid H
  go_wp2
  go_loopw [6, 7, 8] (fun i _ _ wr => ∃ k : Nat, k ≤ m ∧ i = .int .i64 (k : Int) ∧ Hid (∀ j, j < k → wv (l[j]?.getD 0) < g) ∧ Hid (Sta w wr [(br, 0, .slice none 0 0)] [])) (fun i _ _ _ => m - (intOf i).toNat)
  case atStart => exact ⟨0, Nat.zero_le _, rfl, Lib.hid (fun j hj => absurd hj (Nat.not_lt_zero j)), H2⟩
  case round =>
    clear H H2
    obtain ⟨k, hk, rfl, HOK, HH⟩ := hrel
    have H := HH.out
    clear HH
    by_cases hlt : k < m
    · skip
      have hlL : k < l.length := by rw [HM.out]; exact hlt
      obtain ⟨c, hd⟩ : ∃ c, l[k]?.getD 0 = c := ⟨_, rfl⟩
      have HC256 : Hid (c < 256) := Lib.hid (by rw [← hd]; exact HL256.out _ (get_mem hlL))
      have HCK : Hid ((bs S)[k]?.getD 0 = c) := Lib.hid (by rw [HBL.out]; exact hd)
      have HMEM : Hid (c ∈ l) := Lib.hid (by rw [← hd]; exact get_mem hlL)
      have HKS : Hid (k < S.size) := Lib.hid (by rw [HSM.out]; exact hlt)
      clear hd hlL
      have hltS : (k : Int) < (S.size : Int) := by rw [HSM.out]; omega
      have kw : IntKind.i64.wrap ((k : Int) + 1) = (k : Int) + 1 := IntWalk.i64_in _ (by omega)
      go_upto_region 6 with fail
      refine Kr.seqStartW ?_
      iterate 4 (refine Kr.seqQ (v := ?_) (a' := ?_) (by rfl) ?_ ?_ ?_; rotate_left 2; (focus (go_simp; first | done | rfl)); (focus ((try simp only [Act.put, List.getElem_toArray, List.getElem_cons_zero, List.getElem_cons_succ, List.setIfInBounds_toArray, List.set_cons_zero, List.set_cons_succ]); first | done | rfl)))
      refine Kr.seqDoneW ?_
      clear hltS
      go_upto_region 8 with fail
      refine Kr.seqStartW ?_
      iterate 2 (refine Kr.seqQ (v := ?_) (a' := ?_) (by rfl) ?_ ?_ ?_; rotate_left 2; (focus (go_simp; first | done | rfl)); (focus ((try simp only [Act.put, List.getElem_toArray, List.getElem_cons_zero, List.getElem_cons_succ, List.setIfInBounds_toArray, List.set_cons_zero, List.set_cons_succ]); first | done | rfl)))
      (refine Kr.seqQ (v := .int .u8 (c : Int)) (a' := ?_) (by rfl) ?_ ?_ ?_; rotate_left 1; (focus (exact val_of rfl (run_atc Try.underlying9 HKS.out HCK.out))); (focus ((try simp only [Act.put, List.getElem_toArray, List.getElem_cons_zero, List.getElem_cons_succ, List.setIfInBounds_toArray, List.set_cons_zero, List.set_cons_succ]); first | done | rfl)))
      (refine Kr.seqQ (v := ?_) (a' := ?_) (by rfl) ?_ ?_ ?_; rotate_left 2; (focus (go_simp; first | done | rfl)); (focus ((try simp only [Act.put, List.getElem_toArray, List.getElem_cons_zero, List.getElem_cons_succ, List.setIfInBounds_toArray, List.set_cons_zero, List.set_cons_succ]); first | done | rfl)))
      refine Kr.seqR (by rfl) (fun K hK => ?_)
      go_simp
      go_at_call 105
      refine (value4_v HC256.out HG.out).mono ?_
      rintro e y2 ⟨v, bo, rfl, hv, hg⟩
      replace H := H.grow hg
      have HV := Lib.hid hv
      clear hv hg
      (refine Kr.outS hK (a' := ?_) ?_ ?_; rotate_left; (focus ((try simp only [Act.put, List.getElem_toArray, List.getElem_cons_zero, List.getElem_cons_succ, List.setIfInBounds_toArray, List.set_cons_zero, List.set_cons_succ]); first | done | rfl))); clear hK K
      iterate 5 (refine Kr.seqQ (v := ?_) (a' := ?_) (by rfl) ?_ ?_ ?_; rotate_left 2; (focus (go_simp; first | done | rfl)); (focus ((try simp only [Act.put, List.getElem_toArray, List.getElem_cons_zero, List.getElem_cons_succ, List.setIfInBounds_toArray, List.set_cons_zero, List.set_cons_succ]); first | done | rfl)))
      refine Kr.seqDoneW ?_
      rcases bo with _ | _
      · skip
        go_upto_region 9 with fail
        refine Kr.seqStartW ?_
        iterate 2 (refine Kr.seqQ (v := ?_) (a' := ?_) (by rfl) ?_ ?_ ?_; rotate_left 2; (focus (go_simp; first | done | rfl)); (focus ((try simp only [Act.put, List.getElem_toArray, List.getElem_cons_zero, List.getElem_cons_succ, List.setIfInBounds_toArray, List.set_cons_zero, List.set_cons_succ]); first | done | rfl)))
        refine Kr.seqDoneW ?_
        go_upto_region 10 with fail
        refine Kr.seqStartW ?_
        (refine Kr.seqQ (v := ?_) (a' := ?_) (by rfl) ?_ ?_ ?_; rotate_left 2; (focus (go_simp; first | done | rfl)); (focus ((try simp only [Act.put, List.getElem_toArray, List.getElem_cons_zero, List.getElem_cons_succ, List.setIfInBounds_toArray, List.set_cons_zero, List.set_cons_succ]); first | done | rfl)))
        have hk := H.c
        simp only [Kr.Cells] at hk
        refine Kr.seqR (by rfl) (fun K hK => ?_)
        go_simp
        clear hk
        obtain ⟨y3, hy⟩ : ∃ y, y2.setCell ⟨br, 0, none⟩ (.slice none 0 0) = y := ⟨_, rfl⟩
        rw [hy]
        replace H := H.store 0 hy rfl rfl
        dsimp only [List.set] at H
        clear hy
        (refine Kr.outS hK (a' := ?_) ?_ ?_; rotate_left; (focus ((try simp only [Act.put, List.getElem_toArray, List.getElem_cons_zero, List.getElem_cons_succ, List.setIfInBounds_toArray, List.set_cons_zero, List.set_cons_succ]); first | done | rfl))); clear hK K
        (refine Kr.seqQ (v := ?_) (a' := ?_) (by rfl) ?_ ?_ ?_; rotate_left 2; (focus (go_simp; first | done | rfl)); (focus ((try simp only [Act.put, List.getElem_toArray, List.getElem_cons_zero, List.getElem_cons_succ, List.setIfInBounds_toArray, List.set_cons_zero, List.set_cons_succ]); first | done | rfl)))
        refine Kr.seqDoneW ?_
        have hk := H.c
        simp only [Kr.Cells] at hk
        go_wp2
        refine bodyPost_ret (v := .tuple #[.agg #[.slice none 0 0], .int .i64 3]) (by simp [results, Try.results60, go_sem, hk]) rfl ⟨0, 3, .inr (.inl ⟨by rw [HBL.out, HM.out]; exact h0, .inr (.inr ⟨c, by rw [HBL.out]; exact HMEM.out, HV.out⟩), rfl, rfl⟩), none, 0, 0, rfl, nw_none _, H.g⟩
      · skip
        go_upto_region 9 with fail
        refine Kr.seqStartW ?_
        iterate 2 (refine Kr.seqQ (v := ?_) (a' := ?_) (by rfl) ?_ ?_ ?_; rotate_left 2; (focus (go_simp; first | done | rfl)); (focus ((try simp only [Act.put, List.getElem_toArray, List.getElem_cons_zero, List.getElem_cons_succ, List.setIfInBounds_toArray, List.set_cons_zero, List.set_cons_succ]); first | done | rfl)))
        refine Kr.seqDoneW ?_
        go_upto_region 7 with fail
        refine Kr.seqStartW ?_
        iterate 3 (refine Kr.seqQ (v := ?_) (a' := ?_) (by rfl) ?_ ?_ ?_; rotate_left 2; (focus (go_simp; first | done | rfl)); (focus ((try simp only [Act.put, List.getElem_toArray, List.getElem_cons_zero, List.getElem_cons_succ, List.setIfInBounds_toArray, List.set_cons_zero, List.set_cons_succ]); first | done | rfl)))
        refine Kr.seqDoneW ?_
        go_wp2
        go_roundw
        case rel => exact ⟨k + 1, by omega, rfl, Lib.hid (fun j hj => by rcases Nat.lt_succ_iff_lt_or_eq.1 hj with h | h; exact HOK.out j h; rw [h, ← HBL.out, HCK.out]; exact HV.out.2), Lib.hid H⟩
        case measure => (simp [intOf] <;> omega)
    · obtain rfl : k = m := by omega
      clear hk
      have hltS : ¬ (k : Int) < (S.size : Int) := by rw [HSM.out]; omega
      go_upto_region 6 with fail
      refine Kr.seqStartW ?_
      iterate 4 (refine Kr.seqQ (v := ?_) (a' := ?_) (by rfl) ?_ ?_ ?_; rotate_left 2; (focus (go_simp; first | done | rfl)); (focus ((try simp only [Act.put, List.getElem_toArray, List.getElem_cons_zero, List.getElem_cons_succ, List.setIfInBounds_toArray, List.set_cons_zero, List.set_cons_succ]); first | done | rfl)))
      refine Kr.seqDoneW ?_
      clear hltS
      have HWV : Hid (∀ x ∈ l.map wv, x < g) := Lib.hid (fun x hx => by obtain ⟨c, hc, rfl⟩ := List.mem_map.1 hx; obtain ⟨j, hj, rfl⟩ := List.getElem_of_mem hc; have h := HOK.out j (by rw [← HM.out]; exact hj); rwa [List.getElem?_eq_getElem hj] at h)
      go_upto_region 11 with fail
      refine Kr.seqStartW ?_
      (refine Kr.seqQ (v := ?_) (a' := ?_) (by rfl) ?_ ?_ ?_; rotate_left 2; (focus (go_simp; first | done | rfl)); (focus ((try simp only [Act.put, List.getElem_toArray, List.getElem_cons_zero, List.getElem_cons_succ, List.setIfInBounds_toArray, List.set_cons_zero, List.set_cons_succ]); first | done | rfl)))
      refine Kr.seqDoneW ?_
      go_upto_region 12 with fail
      refine Kr.seqStartW ?_
      (refine Kr.seqQ (v := ?_) (a' := ?_) (by rfl) ?_ ?_ ?_; rotate_left 2; (focus (go_simp; first | done | rfl)); (focus ((try simp only [Act.put, List.getElem_toArray, List.getElem_cons_zero, List.getElem_cons_succ, List.setIfInBounds_toArray, List.set_cons_zero, List.set_cons_succ]); first | done | rfl)))
      refine Kr.seqDoneW ?_
      have H2 : Hid (Sta w wr [(br, 0, .slice none 0 0)] [N none 0 0 (dval g ((l.map wv).take 0))]) := Lib.hid (H.num (nw_none _))
      go_wp2
      go_loopw [9, 10, 11, 12] (fun v i _ _ wr => ∃ (j : Nat) (pz : Option Addr) (nz cz : Nat), j ≤ k ∧ v = .slice pz nz cz ∧ i = .int .i64 (j : Int) ∧ Hid (Sta w wr [(br, 0, .slice none 0 0)] [N pz nz cz (dval g ((l.map wv).take j))])) (fun _ i _ _ _ => k - (intOf i).toNat)
      case atStart => exact ⟨0, none, 0, 0, Nat.zero_le _, rfl, rfl, H2⟩
      case round =>
        clear H H2
        obtain ⟨j, pz, nz, cz, hjk, rfl, rfl, HH⟩ := hrel
        have H := HH.out
        clear HH
        have HPW : Hid (dval g ((l.map wv).take j) < pw j) := Lib.hid (by have h := dval_pw (l := (l.map wv).take j) (Nat.le_trans HG2.out.2 (by decide)) (fun d hd => HWV.out d (List.mem_of_mem_take hd)); rwa [List.length_take, List.length_map, HM.out, Nat.min_eq_left hjk] at h)
        by_cases hlt2 : j < k
        · skip
          have hlL : j < l.length := by rw [HM.out]; exact hlt2
          obtain ⟨c, hd⟩ : ∃ c, l[j]?.getD 0 = c := ⟨_, rfl⟩
          have HC256 : Hid (c < 256) := Lib.hid (by rw [← hd]; exact HL256.out _ (get_mem hlL))
          have HCK : Hid ((bs S)[j]?.getD 0 = c) := Lib.hid (by rw [HBL.out]; exact hd)
          have HKS : Hid (j < S.size) := Lib.hid (by rw [HSM.out]; exact hlt2)
          have HWC : Hid (wv c < g) := Lib.hid (by rw [← hd]; exact HOK.out j hlt2)
          have HSD : Hid (dval g ((l.map wv).take (j + 1)) = dval g ((l.map wv).take j) * g + wv c) := Lib.hid (by rw [dval_take g (l.map wv) (by rw [List.length_map]; exact hlL), List.getElem?_map, ← hd, List.getElem?_eq_getElem hlL]; rfl)
          clear hd hlL
          have hltS : (j : Int) < (S.size : Int) := by rw [HSM.out]; omega
          have kw : IntKind.i64.wrap ((j : Int) + 1) = (j : Int) + 1 := IntWalk.i64_in _ (by omega)
          go_upto_region 13 with fail
          refine Kr.seqStartW ?_
          iterate 4 (refine Kr.seqQ (v := ?_) (a' := ?_) (by rfl) ?_ ?_ ?_; rotate_left 2; (focus (go_simp; first | done | rfl)); (focus ((try simp only [Act.put, List.getElem_toArray, List.getElem_cons_zero, List.getElem_cons_succ, List.setIfInBounds_toArray, List.set_cons_zero, List.set_cons_succ]); first | done | rfl)))
          refine Kr.seqDoneW ?_
          clear hltS
          go_upto_region 15 with fail
          refine Kr.seqStartW ?_
          iterate 2 (refine Kr.seqQ (v := ?_) (a' := ?_) (by rfl) ?_ ?_ ?_; rotate_left 2; (focus (go_simp; first | done | rfl)); (focus ((try simp only [Act.put, List.getElem_toArray, List.getElem_cons_zero, List.getElem_cons_succ, List.setIfInBounds_toArray, List.set_cons_zero, List.set_cons_succ]); first | done | rfl)))
          (refine Kr.seqQ (v := .int .u8 (c : Int)) (a' := ?_) (by rfl) ?_ ?_ ?_; rotate_left 1; (focus (exact val_of rfl (run_atc Try.underlying9 HKS.out HCK.out))); (focus ((try simp only [Act.put, List.getElem_toArray, List.getElem_cons_zero, List.getElem_cons_succ, List.setIfInBounds_toArray, List.set_cons_zero, List.set_cons_succ]); first | done | rfl)))
          (refine Kr.seqQ (v := ?_) (a' := ?_) (by rfl) ?_ ?_ ?_; rotate_left 2; (focus (go_simp; first | done | rfl)); (focus ((try simp only [Act.put, List.getElem_toArray, List.getElem_cons_zero, List.getElem_cons_succ, List.setIfInBounds_toArray, List.set_cons_zero, List.set_cons_succ]); first | done | rfl)))
          refine Kr.seqR (by rfl) (fun K hK => ?_)
          go_simp
          go_at_call 105
          refine (value4_v HC256.out HG.out).mono ?_
          rintro e y4 ⟨v, bo, rfl, hv, hg⟩
          have hvt : v = wv c := by rcases bo with _ | _; exact absurd (show g ≤ wv c from hv) (Nat.not_le_of_lt HWC.out); exact hv.1
          replace H := H.grow hg
          subst hvt
          clear hv hg
          obtain ⟨q, hq⟩ : ∃ q, wv c = q := ⟨_, rfl⟩
          rw [hq] at HSD HWC ⊢
          clear hq
          (refine Kr.outS hK (a' := ?_) ?_ ?_; rotate_left; (focus ((try simp only [Act.put, List.getElem_toArray, List.getElem_cons_zero, List.getElem_cons_succ, List.setIfInBounds_toArray, List.set_cons_zero, List.set_cons_succ]); first | done | rfl))); clear hK K
          iterate 5 (refine Kr.seqQ (v := ?_) (a' := ?_) (by rfl) ?_ ?_ ?_; rotate_left 2; (focus (go_simp; first | done | rfl)); (focus ((try simp only [Act.put, List.getElem_toArray, List.getElem_cons_zero, List.getElem_cons_succ, List.setIfInBounds_toArray, List.set_cons_zero, List.set_cons_succ]); first | done | rfl)))
          refine Kr.seqDoneW ?_
          go_upto_region 16 with fail
          refine Kr.seqStartW ?_
          iterate 3 (refine Kr.seqQ (v := ?_) (a' := ?_) (by rfl) ?_ ?_ ?_; rotate_left 2; (focus (go_simp; first | done | rfl)); (focus ((try simp only [Act.put, List.getElem_toArray, List.getElem_cons_zero, List.getElem_cons_succ, List.setIfInBounds_toArray, List.set_cons_zero, List.set_cons_succ]); first | done | rfl)))
          refine Kr.seqR (by rfl) (fun K hK => ?_)
          go_simp
          go_at_call 106
          have hb9 : nz ≤ 1000000 := by have h := (H.nw 0 rfl).len; have h2 := (digs_length_le _ j).2 HPW.out; omega
          refine (times4_v (d := g) (plus := q) (H.nw 0 rfl) hb9 ⟨by have h := HG2.out; omega, by have h := HG2.out; omega, by have h := HG2.out; have h2 := HWC.out; omega⟩).mono ?_
          rintro e y5 ⟨pq, nq, cq, rfl, hr, hg⟩
          clear hb9
          replace H := H.grow hg
          replace H := H.num hr
          clear hr hg
          (refine Kr.outS hK (a' := ?_) ?_ ?_; rotate_left; (focus ((try simp only [Act.put, List.getElem_toArray, List.getElem_cons_zero, List.getElem_cons_succ, List.setIfInBounds_toArray, List.set_cons_zero, List.set_cons_succ]); first | done | rfl))); clear hK K
          (refine Kr.seqQ (v := ?_) (a' := ?_) (by rfl) ?_ ?_ ?_; rotate_left 2; (focus (go_simp; first | done | rfl)); (focus ((try simp only [Act.put, List.getElem_toArray, List.getElem_cons_zero, List.getElem_cons_succ, List.setIfInBounds_toArray, List.set_cons_zero, List.set_cons_succ]); first | done | rfl)))
          refine Kr.seqDoneW ?_
          go_upto_region 14 with fail
          refine Kr.seqStartW ?_
          iterate 3 (refine Kr.seqQ (v := ?_) (a' := ?_) (by rfl) ?_ ?_ ?_; rotate_left 2; (focus (go_simp; first | done | rfl)); (focus ((try simp only [Act.put, List.getElem_toArray, List.getElem_cons_zero, List.getElem_cons_succ, List.setIfInBounds_toArray, List.set_cons_zero, List.set_cons_succ]); first | done | rfl)))
          refine Kr.seqDoneW ?_
          go_wp2
          go_roundw
          case rel => exact ⟨j + 1, _, _, _, by omega, rfl, rfl, Lib.hid (by rw [HSD.out]; exact H.pick [0] rfl)⟩
          case measure => (simp [intOf] <;> omega)
        · obtain rfl : j = k := by omega
          clear hjk
          have hltS : ¬ (j : Int) < (S.size : Int) := by rw [HSM.out]; omega
          have HLK : Hid ((l.map wv).take j = l.map wv) := Lib.hid (List.take_of_length_le (by rw [List.length_map, HM.out]; exact Nat.le_refl _))
          rw [HLK.out] at HPW H
          go_upto_region 13 with fail
          refine Kr.seqStartW ?_
          iterate 4 (refine Kr.seqQ (v := ?_) (a' := ?_) (by rfl) ?_ ?_ ?_; rotate_left 2; (focus (go_simp; first | done | rfl)); (focus ((try simp only [Act.put, List.getElem_toArray, List.getElem_cons_zero, List.getElem_cons_succ, List.setIfInBounds_toArray, List.set_cons_zero, List.set_cons_succ]); first | done | rfl)))
          refine Kr.seqDoneW ?_
          clear hltS
          have HFT : Hid (nz ≤ 64 ↔ dval g (l.map wv) < pw 64) := Lib.hid (by rw [← (H.nw 0 rfl).len]; exact digs_length_le _ 64)
          by_cases hn64 : nz ≤ 64
          · have HN := Lib.hid hn64
            have hn2 : ¬ (64 : Int) < (nz : Int) := by omega
            clear hn64
            go_upto_region 17 with fail
            refine Kr.seqStartW ?_
            iterate 3 (refine Kr.seqQ (v := ?_) (a' := ?_) (by rfl) ?_ ?_ ?_; rotate_left 2; (focus (go_simp; first | done | rfl)); (focus ((try simp only [Act.put, List.getElem_toArray, List.getElem_cons_zero, List.getElem_cons_succ, List.setIfInBounds_toArray, List.set_cons_zero, List.set_cons_succ]); first | done | rfl)))
            refine Kr.seqDoneW ?_
            clear hn2
            go_upto_region 19 with fail
            refine Kr.seqStartW ?_
            iterate 2 (refine Kr.seqQ (v := ?_) (a' := ?_) (by rfl) ?_ ?_ ?_; rotate_left 2; (focus (go_simp; first | done | rfl)); (focus ((try simp only [Act.put, List.getElem_toArray, List.getElem_cons_zero, List.getElem_cons_succ, List.setIfInBounds_toArray, List.set_cons_zero, List.set_cons_succ]); first | done | rfl)))
            have hk := H.c
            simp only [Kr.Cells] at hk
            refine Kr.seqR (by rfl) (fun K hK => ?_)
            go_simp
            clear hk
            obtain ⟨y6, hy⟩ : ∃ y, wr.setCell ⟨br, 0, none⟩ (.slice pz nz cz) = y := ⟨_, rfl⟩
            rw [hy]
            replace H := H.store 0 hy rfl rfl
            dsimp only [List.set] at H
            clear hy
            (refine Kr.outS hK (a' := ?_) ?_ ?_; rotate_left; (focus ((try simp only [Act.put, List.getElem_toArray, List.getElem_cons_zero, List.getElem_cons_succ, List.setIfInBounds_toArray, List.set_cons_zero, List.set_cons_succ]); first | done | rfl))); clear hK K
            (refine Kr.seqQ (v := ?_) (a' := ?_) (by rfl) ?_ ?_ ?_; rotate_left 2; (focus (go_simp; first | done | rfl)); (focus ((try simp only [Act.put, List.getElem_toArray, List.getElem_cons_zero, List.getElem_cons_succ, List.setIfInBounds_toArray, List.set_cons_zero, List.set_cons_succ]); first | done | rfl)))
            refine Kr.seqDoneW ?_
            have hk := H.c
            simp only [Kr.Cells] at hk
            go_wp2
            refine bodyPost_ret (v := .tuple #[.agg #[.slice pz nz cz], .int .i64 0]) (by simp [results, Try.results60, go_sem, hk]) rfl ⟨dval g (l.map wv), 0, .inr (.inr ⟨by rw [HBL.out, HM.out]; exact h0, fun hb => by rcases hb with hb | hb | ⟨c, hc, hgc⟩; exact absurd (bs_nil hb) HS.out; exact absurd hb HBAD.out; exact absurd hgc (Nat.not_le_of_lt (HWV.out _ (List.mem_map_of_mem (HBL.out ▸ hc)))), by rw [HBL.out]; exact .inl ⟨HFT.out.1 HN.out, rfl, rfl⟩⟩), pz, nz, cz, rfl, H.nw 0 rfl, H.g⟩
          · have HN := Lib.hid hn64
            have hn2 : (64 : Int) < (nz : Int) := by omega
            clear hn64
            go_upto_region 17 with fail
            refine Kr.seqStartW ?_
            iterate 3 (refine Kr.seqQ (v := ?_) (a' := ?_) (by rfl) ?_ ?_ ?_; rotate_left 2; (focus (go_simp; first | done | rfl)); (focus ((try simp only [Act.put, List.getElem_toArray, List.getElem_cons_zero, List.getElem_cons_succ, List.setIfInBounds_toArray, List.set_cons_zero, List.set_cons_succ]); first | done | rfl)))
            refine Kr.seqDoneW ?_
            clear hn2
            go_upto_region 18 with fail
            refine Kr.seqStartW ?_
            (refine Kr.seqQ (v := ?_) (a' := ?_) (by rfl) ?_ ?_ ?_; rotate_left 2; (focus (go_simp; first | done | rfl)); (focus ((try simp only [Act.put, List.getElem_toArray, List.getElem_cons_zero, List.getElem_cons_succ, List.setIfInBounds_toArray, List.set_cons_zero, List.set_cons_succ]); first | done | rfl)))
            have hk := H.c
            simp only [Kr.Cells] at hk
            refine Kr.seqR (by rfl) (fun K hK => ?_)
            go_simp
            clear hk
            obtain ⟨y7, hy⟩ : ∃ y, wr.setCell ⟨br, 0, none⟩ (.slice none 0 0) = y := ⟨_, rfl⟩
            rw [hy]
            replace H := H.store 0 hy rfl rfl
            dsimp only [List.set] at H
            clear hy
            (refine Kr.outS hK (a' := ?_) ?_ ?_; rotate_left; (focus ((try simp only [Act.put, List.getElem_toArray, List.getElem_cons_zero, List.getElem_cons_succ, List.setIfInBounds_toArray, List.set_cons_zero, List.set_cons_succ]); first | done | rfl))); clear hK K
            (refine Kr.seqQ (v := ?_) (a' := ?_) (by rfl) ?_ ?_ ?_; rotate_left 2; (focus (go_simp; first | done | rfl)); (focus ((try simp only [Act.put, List.getElem_toArray, List.getElem_cons_zero, List.getElem_cons_succ, List.setIfInBounds_toArray, List.set_cons_zero, List.set_cons_succ]); first | done | rfl)))
            refine Kr.seqDoneW ?_
            have hk := H.c
            simp only [Kr.Cells] at hk
            go_wp2
            refine bodyPost_ret (v := .tuple #[.agg #[.slice none 0 0], .int .i64 9]) (by simp [results, Try.results60, go_sem, hk]) rfl ⟨0, 9, .inr (.inr ⟨by rw [HBL.out, HM.out]; exact h0, fun hb => by rcases hb with hb | hb | ⟨c, hc, hgc⟩; exact absurd (bs_nil hb) HS.out; exact absurd hb HBAD.out; exact absurd hgc (Nat.not_le_of_lt (HWV.out _ (List.mem_map_of_mem (HBL.out ▸ hc)))), by rw [HBL.out]; exact .inr ⟨Nat.le_of_not_lt (fun h => HN.out (HFT.out.2 h)), rfl, rfl⟩⟩), none, 0, 0, rfl, nw_none _, H.g⟩
theorem parse4_v {S : ByteArray} {g : Nat} {w : World} (hg : g = 10 ∨ g = 16) :
    Calls Try.prog 60 #[.string S, .int .u64 (g : Int)] w fun e w' => ∃ z k, Parsed g (bs S) z k ∧ HasE z k w e w' := by
  have hlen := bs_length S
  by_cases h0 : 1000 < S.size
  · exact (parse4_big h0).mono fun e w' h => ⟨0, 5, .inl ⟨by rw [hlen]; exact h0, rfl, rfl⟩, h⟩
  have h0' : S.size ≤ 1000 := by omega
  by_cases hs : S = ⟨#[]⟩
  · exact (parse4_empty h0' hs).mono fun e w' h => ⟨0, 3, .inr (.inl ⟨by rw [hlen]; exact h0', .inl (by rw [hs]; rfl), rfl, rfl⟩), h⟩
  have hne : bs S ≠ [] := fun h => hs (bs_nil h)
  have hn0 : 0 < S.size := by rw [← hlen]; exact List.length_pos_iff.2 hne
  obtain ⟨c0, hc0⟩ : ∃ c0, (bs S)[0]?.getD 0 = c0 := ⟨_, rfl⟩
  have hh : (bs S).head? = some c0 := by
    rw [← hc0, List.head?_eq_getElem?, List.getElem?_eq_getElem (by omega)]; rfl
  by_cases h48 : c0 = 48
  · subst h48
    by_cases hn : S.size = 1
    · refine parse4_one h0' hs hn hn0 hc0 hg (fun h => h.2 ?_)
      rw [hn] at hlen
      obtain ⟨y, hy⟩ := List.length_eq_one_iff.1 hlen
      rw [hy] at hc0 ⊢
      rw [show y = 48 from hc0]
    · have hn2 : bs S ≠ [48] := fun h => hn (by rw [← hlen, h]; rfl)
      exact (parse4_lead h0' hs (by omega) hn0 hc0).mono fun e w' h => ⟨0, 3, .inr (.inl ⟨by rw [hlen]; exact h0', .inr (.inl ⟨hh, hn2⟩), rfl, rfl⟩), h⟩
  · exact parse4_go h0' hs hn0 hc0 h48 hg (fun h => h48 (Option.some.inj (hh.symm.trans h.1)))
end Go.Proofs.Ytlciocebbckdcaa.Rf


/- The frame of a law over natural numbers: an argument opened, the law's end. -/
namespace Go.Proofs.Ytlciocebbckdcaa.Nl
open Go.ChangeShapes Go.WideShapes Go.ChangeAt Go.RowKit Go.WideElems Go.Proofs.Ytlciocebbckdcaa.Nm Go.Proofs.Ytlciocebbckdcaa.Ne

theorem own : ownKnob Try.prog.godebug = none := by kernel_rfl
theorem laidOut : laidOutB Try.prog = true := by kernel_rfl

/-- An argument: a natural number of any length. -/
def Nin (W : World) (p : Option Addr) (n c : Nat) : Prop := ∃ l : List Nat, l.length = n ∧ n ≤ c ∧ (p = none → n = 0 ∧ c = 0) ∧ Rd W p l ∧ ok l ∧ n ≤ 9223372036854775807
theorem Nin.nw {W : World} {p : Option Addr} {n c : Nat} (h : Nin W p n c) (hn : n ≤ 1048576) : ∃ l, Nw W p n c l := by
  obtain ⟨l, h1, h2, h3, h4, h5, _⟩ := h
  exact ⟨l, h1, h2, h3, h4, h5, hn⟩
theorem Nin.lt {W : World} {p : Option Addr} {n c : Nat} (h : Nin W p n c) : n ≤ 9223372036854775807 := by
  obtain ⟨_, _, _, _, _, _, h6⟩ := h
  exact h6

theorem wf_u32 {n : Int} (h : (Lit.int .u32 n).wf = true) : 0 ≤ n ∧ n < 4294967296 := by
  simp [Lit.wf, IntKind.min, IntKind.max, IntKind.signed, IntKind.bits] at h
  omega
theorem ok_toNat {zs : List Int} (h : ∀ n ∈ zs, (Lit.int .u32 n).wf = true) : ok (zs.map Int.toNat) := by
  intro x hx
  obtain ⟨z, hz, rfl⟩ := List.mem_map.1 hx
  have := wf_u32 (h z hz)
  omega

theorem maxLen_le : maxLen ≤ 9223372036854775807 := by decide
theorem cellsNat : Try.prog.cellsOf 24 = 1 := by kernel_rfl
theorem cellsSl : Try.prog.cellsOf 22 = 1 := by kernel_rfl
theorem cellsU : Try.prog.cellsOf 50 = 1 := by kernel_rfl

theorem array1 {α : Type} {cs : Array α} (h : cs.size = 1) : ∃ c0, cs = #[c0] := by
  obtain ⟨l⟩ := cs
  match l, h with
  | [c0], _ => exact ⟨c0, rfl⟩

theorem addr_at {W : World} {a : Addr} {v : Value} (h : W.cell? a = some v) : a.spot = none := by
  unfold World.cell? at h
  cases hs : a.spot with
  | none => rfl
  | some x =>
    simp only [hs, Option.isSome_some, if_true] at h
    split at h <;> cases h

set_option maxRecDepth 100000 in
theorem open_nat {H : Type} {enc : TypeId × Value → H} {W : World} {r : Reach} {b0 : Nat} {v : Value} {d : DataW H} {p : List MemPlace}
    (hv : Value.okWide Try.prog W r b0 24 v) (h : DataW.Trod enc Try.prog W 0 (fun _ => true) true 24 v d p) :
    ∃ (q : Option Addr) (n c : Nat), v = .agg #[.slice q n c] ∧ Nin W q n c := by
  obtain ⟨cs, rfl, hsz⟩ := okWide_struct Try.underlying24 hv
  obtain ⟨c0, rfl⟩ := array1 (hsz.trans cellsNat)
  obtain ⟨fuel, hf⟩ := h
  obtain ⟨y0, n, hx, _, h0⟩ := trod_struct1 Try.underlying24 hf
  have h1 : DataW.trod enc Try.prog W 0 (fun _ => true) true n 22 [c0] = some y0 := by
    simpa [Value.cells, cellsSl] using h0
  rcases open_ints Try.underlying22 Try.underlying50 cellsU h1 with ⟨hc, _⟩ | ⟨a, len, cap, zs, hc, _, hl, hm, hz, _, hcell, hw⟩
  · obtain rfl : c0 = .slice none 0 0 := by simpa using hc
    exact ⟨none, 0, 0, rfl, [], rfl, Nat.le_refl _, fun _ => ⟨rfl, rfl⟩, .inl rfl, ok_nil, by decide⟩
  · obtain rfl : c0 = .slice (some a) len cap := by simpa using hc
    have hz' : zs.length = cap := by simpa using hz
    have hm' : cap ≤ 9223372036854775807 := Nat.le_trans hm maxLen_le
    refine ⟨some a, len, cap, rfl, (zs.take len).map Int.toNat, by simp; omega, hl, (fun e => by cases e), ?_, ok_toNat (fun n hn => hw n (List.mem_of_mem_take hn)), by omega⟩
    rcases Nat.eq_zero_or_pos len with h0 | h0
    · subst h0
      exact .inl (by simp)
    · have hs : a.spot = none := addr_at (v := .int .u32 (zs.getD 0 0)) (by simpa [Addr.add] using hcell 0 (by omega))
      obtain ⟨b, off, sp⟩ := a
      subst hs
      refine .inr ⟨b, off, rfl, fun i hi => ?_⟩
      have hi' : i < len := by simp at hi; omega
      have e := hcell i (by omega)
      rw [addr_add] at e
      rw [e]
      have hiz : i < zs.length := by omega
      have e2 : ((zs.take len).map Int.toNat)[i]?.getD 0 = (zs.getD i 0).toNat := by
        simp [hi', hiz]
      rw [e2]
      have e3 := wf_u32 (hw (zs.getD i 0) (by
        have : zs.getD i 0 = zs[i] := by simp [List.getD, hiz]
        rw [this]; exact List.getElem_mem hiz))
      rw [Int.toNat_of_nonneg e3.1]

/-- Arguments read behind the call as before it. -/
theorem again {H : Type} {enc : TypeId × Value → H} {P : Program} (hl : laidOutB P = true) {W W' : World} (hb : Below W.heap.size W W') {sp : Nat → Bool} :
    ∀ {ts : List TypeId} {vs : List Value} {ds : List (DataW H)} {ps : List MemPlace}, (ts.all fun t => P.readableRec t && decide (t < P.types.size)) = true →
      DataW.TrodAll enc P W 0 (fun _ => true) true ts vs ds ps → (∀ p ∈ ps, sp p.block = true) → DataW.TrodAll enc P W' 0 sp true ts vs ds ps
  | [], [], [], _, _, h, _ => h
  | [], [], _ :: _, _, _, h, _ => h.elim
  | [], _ :: _, _, _, _, h, _ => h.elim
  | _ :: _, [], _, _, _, h, _ => h.elim
  | _ :: _, _ :: _, [], _, _, h, _ => h.elim
  | t :: ts, v :: vs, d :: ds, ps, ht, h, hs => by
    obtain ⟨p, q, h1, h2, rfl⟩ := h
    simp only [List.all_cons, Bool.and_eq_true, decide_eq_true_eq] at ht
    obtain ⟨⟨ht1, ht2⟩, ht3⟩ := ht
    have hlt : ∀ x ∈ p, x.block < W.heap.size := DataW.TrodAll.lt (trodAll_mk1 h1)
    refine ⟨p, q, ?_, again hl hb (by simpa using ht3) h2 (fun x hx => hs x (List.mem_append_right _ hx)), rfl⟩
    obtain ⟨fuel, hf⟩ := h1
    exact ⟨fuel, DataW.trod_stays (kids_book hl ht1) (book_sized ht1) (fun h => by cases h) ⟨ht2, book_self t⟩ hf (fun x hx => hb.same (hlt x hx)) (fun x hx => hs x (List.mem_append_left _ hx))⟩

/-- A law's end: it has returned true, and what was there is there. -/
theorem law_end {H : Type} {enc : TypeId × Value → H} {P : Program} (hl : laidOutB P = true) {f : Func} {s : ChangeSpec} {W W' : World} {args : Array Value} {ds : List (DataW H)} {before : List MemPlace} {tb : TypeId}
    (hb : P.underlying tb = some .bool) (hr : f.resultTypes = #[tb]) (hts : (f.params.toList.all fun t => P.readableRec t && decide (t < P.types.size)) = true) (hv : s.vars = [])
    (hW : DataW.Whole enc P f.params.toList s.vars false W args.toList ds [] before) (hres : (s.fn H (ds ++ [])).results = [.lit (.bool true)]) (hargs : (s.fn H (ds ++ [])).args = ds) (hvars : (s.fn H (ds ++ [])).vars = [])
    (hg : Below W.heap.size W W') : s.post enc P f false true false false W args (.bool true) W' := by
  have hlt := hW.lt
  have hW0 := hW
  obtain ⟨p, q, hA, hV, hp, _, _⟩ := hW
  rw [hv] at hV
  obtain ⟨_, rfl⟩ := trodVars_none hV
  rw [List.append_nil] at hp
  subst hp
  refine ⟨ds, [], before, [], before, [], hW0, ?_, ?_, ?_, hg.frame _, fun h => by cases h⟩
  · rw [hres, hr]
    exact trodAll_mk1 (shut_bool hb _)
  · rw [hargs]
    exact again hl hg hts hA (fun x hx => by simpa using hlt x hx)
  · rw [hvars, hv]
    rfl
end Go.Proofs.Ytlciocebbckdcaa.Nl


/- Layer 4's exported functions; bytes.Equal; the law's great and awake. -/
namespace Go.Proofs.Ytlciocebbckdcaa.Pf
open Go.RowKit Go.Shelf Go.Proofs.Ytlciocebbckdcaa.Nm Go.Proofs.Ytlciocebbckdcaa.Ne Go.Proofs.Ytlciocebbckdcaa.Nf Go.Proofs.Ytlciocebbckdcaa.Nk Go.Proofs.Ytlciocebbckdcaa.Nv Go.Proofs.Ytlciocebbckdcaa.Nr2 Go.Proofs.Ytlciocebbckdcaa.Kr Go.Proofs.Ytlciocebbckdcaa.Fb Go.Proofs.Ytlciocebbckdcaa.Ff Go.Proofs.Ytlciocebbckdcaa.Mo Go.Proofs.Ytlciocebbckdcaa.Rf Go.Proofs.Ytlciocebbckdcaa.Nl

set_option linter.unusedSimpArgs false in
set_option maxRecDepth 100000 in
set_option maxHeartbeats 16000000 in
theorem Text_bad {pn : Option Addr} {nn cn : Nat} {l : List Nat} {w : World} (hn : Nw w pn nn cn l) (hv : ¬ valid l) :
    Calls Try.prog 56 #[.agg #[.slice pn nn cn]] w fun e w' => e = .returned (.string ⟨#[]⟩) ∧ Gr w w' := by
  have HV := Lib.hid hv
  clear hv
  have H := Sta.start w
  replace H := H.add (keepWs _ _ _ _) hn
  go_enter Try.func56, Try.ntmps56
  go_upto_region 0 with fail
  refine Kr.seqStartW ?_
  refine Kr.seqR (by rfl) (fun K hK => ?_)
  go_simp
  obtain ⟨y1, hy⟩ : ∃ y, w.alloc (.cells #[.slice pn nn cn] 24) = y := ⟨_, rfl⟩
  obtain ⟨bn, hb⟩ : ∃ b, w.heap.size = b := ⟨_, rfl⟩
  rw [hy, hb]
  replace H := H.alloc hy hb rfl
  clear hy hb
  (refine Kr.outS hK (a' := ?_) ?_ ?_; rotate_left; (focus ((try simp only [Act.put, List.getElem_toArray, List.getElem_cons_zero, List.getElem_cons_succ, List.setIfInBounds_toArray, List.set_cons_zero, List.set_cons_succ]); first | done | rfl))); clear hK K
  (refine Kr.seqQ (v := ?_) (a' := ?_) (by rfl) ?_ ?_ ?_; rotate_left 2; (focus (go_simp; first | done | rfl)); (focus ((try simp only [Act.put, List.getElem_toArray, List.getElem_cons_zero, List.getElem_cons_succ, List.setIfInBounds_toArray, List.set_cons_zero, List.set_cons_succ]); first | done | rfl)))
  refine Kr.seqDoneW ?_
  go_upto_region 1 with fail
  refine Kr.seqStartW ?_
  have hk := H.c
  simp only [Kr.Cells] at hk
  (refine Kr.seqQ (v := ?_) (a' := ?_) (by rfl) ?_ ?_ ?_; rotate_left 2; (focus (go_simp; first | done | rfl)); (focus ((try simp only [Act.put, List.getElem_toArray, List.getElem_cons_zero, List.getElem_cons_succ, List.setIfInBounds_toArray, List.set_cons_zero, List.set_cons_succ]); first | done | rfl)))
  refine Kr.seqR (by rfl) (fun K hK => ?_)
  go_simp
  go_at_call 101
  refine (write_bad (g := 10) (H.ws 0 rfl) HV.out).mono ?_
  rintro e y2 ⟨rfl, hg⟩
  clear hk
  replace H := H.grow hg
  clear hg
  (refine Kr.outS hK (a' := ?_) ?_ ?_; rotate_left; (focus ((try simp only [Act.put, List.getElem_toArray, List.getElem_cons_zero, List.getElem_cons_succ, List.setIfInBounds_toArray, List.set_cons_zero, List.set_cons_succ]); first | done | rfl))); clear hK K
  (refine Kr.seqQ (v := ?_) (a' := ?_) (by rfl) ?_ ?_ ?_; rotate_left 2; (focus (go_simp; first | done | rfl)); (focus ((try simp only [Act.put, List.getElem_toArray, List.getElem_cons_zero, List.getElem_cons_succ, List.setIfInBounds_toArray, List.set_cons_zero, List.set_cons_succ]); first | done | rfl)))
  refine Kr.seqDoneW ?_
  have hk := H.c
  simp only [Kr.Cells] at hk
  go_wp2
  refine bodyPost_ret (v := .string ⟨#[]⟩) (by simp [results, Try.results56, go_sem, hk]) rfl ⟨rfl, H.g⟩
set_option linter.unusedSimpArgs false in
set_option maxRecDepth 100000 in
set_option maxHeartbeats 16000000 in
theorem Text_v {pn : Option Addr} {nn cn x : Nat} {w : World} (hn : Nw w pn nn cn (digs x)) (hx : x < pw 64) :
    Calls Try.prog 56 #[.agg #[.slice pn nn cn]] w fun e w' => e = .returned (.string (str (txt 10 x))) ∧ Gr w w' := by
  have HX := Lib.hid hx
  clear hx
  have H := Sta.start w
  replace H := H.num hn
  go_enter Try.func56, Try.ntmps56
  go_upto_region 0 with fail
  refine Kr.seqStartW ?_
  refine Kr.seqR (by rfl) (fun K hK => ?_)
  go_simp
  obtain ⟨y1, hy⟩ : ∃ y, w.alloc (.cells #[.slice pn nn cn] 24) = y := ⟨_, rfl⟩
  obtain ⟨bn, hb⟩ : ∃ b, w.heap.size = b := ⟨_, rfl⟩
  rw [hy, hb]
  replace H := H.alloc hy hb rfl
  clear hy hb
  (refine Kr.outS hK (a' := ?_) ?_ ?_; rotate_left; (focus ((try simp only [Act.put, List.getElem_toArray, List.getElem_cons_zero, List.getElem_cons_succ, List.setIfInBounds_toArray, List.set_cons_zero, List.set_cons_succ]); first | done | rfl))); clear hK K
  (refine Kr.seqQ (v := ?_) (a' := ?_) (by rfl) ?_ ?_ ?_; rotate_left 2; (focus (go_simp; first | done | rfl)); (focus ((try simp only [Act.put, List.getElem_toArray, List.getElem_cons_zero, List.getElem_cons_succ, List.setIfInBounds_toArray, List.set_cons_zero, List.set_cons_succ]); first | done | rfl)))
  refine Kr.seqDoneW ?_
  go_upto_region 1 with fail
  refine Kr.seqStartW ?_
  have hk := H.c
  simp only [Kr.Cells] at hk
  (refine Kr.seqQ (v := ?_) (a' := ?_) (by rfl) ?_ ?_ ?_; rotate_left 2; (focus (go_simp; first | done | rfl)); (focus ((try simp only [Act.put, List.getElem_toArray, List.getElem_cons_zero, List.getElem_cons_succ, List.setIfInBounds_toArray, List.set_cons_zero, List.set_cons_succ]); first | done | rfl)))
  refine Kr.seqR (by rfl) (fun K hK => ?_)
  go_simp
  go_at_call 101
  refine (write_v (g := 10) (H.nw 0 rfl) HX.out ⟨by decide, by decide⟩).mono ?_
  rintro e y2 ⟨rfl, hg⟩
  clear hk
  replace H := H.grow hg
  clear hg
  (refine Kr.outS hK (a' := ?_) ?_ ?_; rotate_left; (focus ((try simp only [Act.put, List.getElem_toArray, List.getElem_cons_zero, List.getElem_cons_succ, List.setIfInBounds_toArray, List.set_cons_zero, List.set_cons_succ]); first | done | rfl))); clear hK K
  (refine Kr.seqQ (v := ?_) (a' := ?_) (by rfl) ?_ ?_ ?_; rotate_left 2; (focus (go_simp; first | done | rfl)); (focus ((try simp only [Act.put, List.getElem_toArray, List.getElem_cons_zero, List.getElem_cons_succ, List.setIfInBounds_toArray, List.set_cons_zero, List.set_cons_succ]); first | done | rfl)))
  refine Kr.seqDoneW ?_
  have hk := H.c
  simp only [Kr.Cells] at hk
  go_wp2
  refine bodyPost_ret (v := .string (str (txt 10 x))) (by simp [results, Try.results56, go_sem, hk]) rfl ⟨rfl, H.g⟩
set_option linter.unusedSimpArgs false in
set_option maxRecDepth 100000 in
set_option maxHeartbeats 16000000 in
theorem Hex_bad {pn : Option Addr} {nn cn : Nat} {l : List Nat} {w : World} (hn : Nw w pn nn cn l) (hv : ¬ valid l) :
    Calls Try.prog 57 #[.agg #[.slice pn nn cn]] w fun e w' => e = .returned (.string ⟨#[]⟩) ∧ Gr w w' := by
  have HV := Lib.hid hv
  clear hv
  have H := Sta.start w
  replace H := H.add (keepWs _ _ _ _) hn
  go_enter Try.func57, Try.ntmps57
  go_upto_region 0 with fail
  refine Kr.seqStartW ?_
  refine Kr.seqR (by rfl) (fun K hK => ?_)
  go_simp
  obtain ⟨y1, hy⟩ : ∃ y, w.alloc (.cells #[.slice pn nn cn] 24) = y := ⟨_, rfl⟩
  obtain ⟨bn, hb⟩ : ∃ b, w.heap.size = b := ⟨_, rfl⟩
  rw [hy, hb]
  replace H := H.alloc hy hb rfl
  clear hy hb
  (refine Kr.outS hK (a' := ?_) ?_ ?_; rotate_left; (focus ((try simp only [Act.put, List.getElem_toArray, List.getElem_cons_zero, List.getElem_cons_succ, List.setIfInBounds_toArray, List.set_cons_zero, List.set_cons_succ]); first | done | rfl))); clear hK K
  (refine Kr.seqQ (v := ?_) (a' := ?_) (by rfl) ?_ ?_ ?_; rotate_left 2; (focus (go_simp; first | done | rfl)); (focus ((try simp only [Act.put, List.getElem_toArray, List.getElem_cons_zero, List.getElem_cons_succ, List.setIfInBounds_toArray, List.set_cons_zero, List.set_cons_succ]); first | done | rfl)))
  refine Kr.seqDoneW ?_
  go_upto_region 1 with fail
  refine Kr.seqStartW ?_
  have hk := H.c
  simp only [Kr.Cells] at hk
  (refine Kr.seqQ (v := ?_) (a' := ?_) (by rfl) ?_ ?_ ?_; rotate_left 2; (focus (go_simp; first | done | rfl)); (focus ((try simp only [Act.put, List.getElem_toArray, List.getElem_cons_zero, List.getElem_cons_succ, List.setIfInBounds_toArray, List.set_cons_zero, List.set_cons_succ]); first | done | rfl)))
  refine Kr.seqR (by rfl) (fun K hK => ?_)
  go_simp
  go_at_call 101
  refine (write_bad (g := 16) (H.ws 0 rfl) HV.out).mono ?_
  rintro e y2 ⟨rfl, hg⟩
  clear hk
  replace H := H.grow hg
  clear hg
  (refine Kr.outS hK (a' := ?_) ?_ ?_; rotate_left; (focus ((try simp only [Act.put, List.getElem_toArray, List.getElem_cons_zero, List.getElem_cons_succ, List.setIfInBounds_toArray, List.set_cons_zero, List.set_cons_succ]); first | done | rfl))); clear hK K
  (refine Kr.seqQ (v := ?_) (a' := ?_) (by rfl) ?_ ?_ ?_; rotate_left 2; (focus (go_simp; first | done | rfl)); (focus ((try simp only [Act.put, List.getElem_toArray, List.getElem_cons_zero, List.getElem_cons_succ, List.setIfInBounds_toArray, List.set_cons_zero, List.set_cons_succ]); first | done | rfl)))
  refine Kr.seqDoneW ?_
  have hk := H.c
  simp only [Kr.Cells] at hk
  go_wp2
  refine bodyPost_ret (v := .string ⟨#[]⟩) (by simp [results, Try.results57, go_sem, hk]) rfl ⟨rfl, H.g⟩
set_option linter.unusedSimpArgs false in
set_option maxRecDepth 100000 in
set_option maxHeartbeats 16000000 in
theorem Hex_v {pn : Option Addr} {nn cn x : Nat} {w : World} (hn : Nw w pn nn cn (digs x)) (hx : x < pw 64) :
    Calls Try.prog 57 #[.agg #[.slice pn nn cn]] w fun e w' => e = .returned (.string (str (txt 16 x))) ∧ Gr w w' := by
  have HX := Lib.hid hx
  clear hx
  have H := Sta.start w
  replace H := H.num hn
  go_enter Try.func57, Try.ntmps57
  go_upto_region 0 with fail
  refine Kr.seqStartW ?_
  refine Kr.seqR (by rfl) (fun K hK => ?_)
  go_simp
  obtain ⟨y1, hy⟩ : ∃ y, w.alloc (.cells #[.slice pn nn cn] 24) = y := ⟨_, rfl⟩
  obtain ⟨bn, hb⟩ : ∃ b, w.heap.size = b := ⟨_, rfl⟩
  rw [hy, hb]
  replace H := H.alloc hy hb rfl
  clear hy hb
  (refine Kr.outS hK (a' := ?_) ?_ ?_; rotate_left; (focus ((try simp only [Act.put, List.getElem_toArray, List.getElem_cons_zero, List.getElem_cons_succ, List.setIfInBounds_toArray, List.set_cons_zero, List.set_cons_succ]); first | done | rfl))); clear hK K
  (refine Kr.seqQ (v := ?_) (a' := ?_) (by rfl) ?_ ?_ ?_; rotate_left 2; (focus (go_simp; first | done | rfl)); (focus ((try simp only [Act.put, List.getElem_toArray, List.getElem_cons_zero, List.getElem_cons_succ, List.setIfInBounds_toArray, List.set_cons_zero, List.set_cons_succ]); first | done | rfl)))
  refine Kr.seqDoneW ?_
  go_upto_region 1 with fail
  refine Kr.seqStartW ?_
  have hk := H.c
  simp only [Kr.Cells] at hk
  (refine Kr.seqQ (v := ?_) (a' := ?_) (by rfl) ?_ ?_ ?_; rotate_left 2; (focus (go_simp; first | done | rfl)); (focus ((try simp only [Act.put, List.getElem_toArray, List.getElem_cons_zero, List.getElem_cons_succ, List.setIfInBounds_toArray, List.set_cons_zero, List.set_cons_succ]); first | done | rfl)))
  refine Kr.seqR (by rfl) (fun K hK => ?_)
  go_simp
  go_at_call 101
  refine (write_v (g := 16) (H.nw 0 rfl) HX.out ⟨by decide, by decide⟩).mono ?_
  rintro e y2 ⟨rfl, hg⟩
  clear hk
  replace H := H.grow hg
  clear hg
  (refine Kr.outS hK (a' := ?_) ?_ ?_; rotate_left; (focus ((try simp only [Act.put, List.getElem_toArray, List.getElem_cons_zero, List.getElem_cons_succ, List.setIfInBounds_toArray, List.set_cons_zero, List.set_cons_succ]); first | done | rfl))); clear hK K
  (refine Kr.seqQ (v := ?_) (a' := ?_) (by rfl) ?_ ?_ ?_; rotate_left 2; (focus (go_simp; first | done | rfl)); (focus ((try simp only [Act.put, List.getElem_toArray, List.getElem_cons_zero, List.getElem_cons_succ, List.setIfInBounds_toArray, List.set_cons_zero, List.set_cons_succ]); first | done | rfl)))
  refine Kr.seqDoneW ?_
  have hk := H.c
  simp only [Kr.Cells] at hk
  go_wp2
  refine bodyPost_ret (v := .string (str (txt 16 x))) (by simp [results, Try.results57, go_sem, hk]) rfl ⟨rfl, H.g⟩
set_option linter.unusedSimpArgs false in
set_option maxRecDepth 100000 in
set_option maxHeartbeats 16000000 in
theorem Parse_v {S : ByteArray} {w : World} :
    Calls Try.prog 59 #[.string S] w fun e w' => ∃ z k, Parsed 10 (bs S) z k ∧ HasE z k w e w' := by
  have H := Sta.start w
  go_enter Try.func59, Try.ntmps59
  go_upto_region 0 with fail
  refine Kr.seqStartW ?_
  refine Kr.seqR (by rfl) (fun K hK => ?_)
  go_simp
  obtain ⟨y1, hy⟩ : ∃ y, w.alloc (.cells #[.slice none 0 0] 24) = y := ⟨_, rfl⟩
  obtain ⟨br, hb⟩ : ∃ b, w.heap.size = b := ⟨_, rfl⟩
  rw [hy, hb]
  replace H := H.alloc hy hb rfl
  clear hy hb
  (refine Kr.outS hK (a' := ?_) ?_ ?_; rotate_left; (focus ((try simp only [Act.put, List.getElem_toArray, List.getElem_cons_zero, List.getElem_cons_succ, List.setIfInBounds_toArray, List.set_cons_zero, List.set_cons_succ]); first | done | rfl))); clear hK K
  (refine Kr.seqQ (v := ?_) (a' := ?_) (by rfl) ?_ ?_ ?_; rotate_left 2; (focus (go_simp; first | done | rfl)); (focus ((try simp only [Act.put, List.getElem_toArray, List.getElem_cons_zero, List.getElem_cons_succ, List.setIfInBounds_toArray, List.set_cons_zero, List.set_cons_succ]); first | done | rfl)))
  refine Kr.seqDoneW ?_
  go_upto_region 1 with fail
  refine Kr.seqStartW ?_
  (refine Kr.seqQ (v := ?_) (a' := ?_) (by rfl) ?_ ?_ ?_; rotate_left 2; (focus (go_simp; first | done | rfl)); (focus ((try simp only [Act.put, List.getElem_toArray, List.getElem_cons_zero, List.getElem_cons_succ, List.setIfInBounds_toArray, List.set_cons_zero, List.set_cons_succ]); first | done | rfl)))
  refine Kr.seqR (by rfl) (fun K hK => ?_)
  go_simp
  go_at_call 104
  refine (read_v (g := 10) ⟨by decide, by decide⟩).mono ?_
  rintro e y2 ⟨z, k, hp, pr, nr, cr, rfl, hr, hg⟩
  have HP := Lib.hid hp
  replace H := H.grow hg
  replace H := H.num hr
  clear hr hg hp
  (refine Kr.outS hK (a' := ?_) ?_ ?_; rotate_left; (focus ((try simp only [Act.put, List.getElem_toArray, List.getElem_cons_zero, List.getElem_cons_succ, List.setIfInBounds_toArray, List.set_cons_zero, List.set_cons_succ]); first | done | rfl))); clear hK K
  iterate 2 (refine Kr.seqQ (v := ?_) (a' := ?_) (by rfl) ?_ ?_ ?_; rotate_left 2; (focus (go_simp; first | done | rfl)); (focus ((try simp only [Act.put, List.getElem_toArray, List.getElem_cons_zero, List.getElem_cons_succ, List.setIfInBounds_toArray, List.set_cons_zero, List.set_cons_succ]); first | done | rfl)))
  have hk := H.c
  simp only [Kr.Cells] at hk
  refine Kr.seqR (by rfl) (fun K hK => ?_)
  go_simp
  clear hk
  obtain ⟨y3, hy⟩ : ∃ y, y2.setCell ⟨br, 0, none⟩ (.slice pr nr cr) = y := ⟨_, rfl⟩
  rw [hy]
  replace H := H.store 0 hy rfl rfl
  dsimp only [List.set] at H
  clear hy
  (refine Kr.outS hK (a' := ?_) ?_ ?_; rotate_left; (focus ((try simp only [Act.put, List.getElem_toArray, List.getElem_cons_zero, List.getElem_cons_succ, List.setIfInBounds_toArray, List.set_cons_zero, List.set_cons_succ]); first | done | rfl))); clear hK K
  (refine Kr.seqQ (v := ?_) (a' := ?_) (by rfl) ?_ ?_ ?_; rotate_left 2; (focus (go_simp; first | done | rfl)); (focus ((try simp only [Act.put, List.getElem_toArray, List.getElem_cons_zero, List.getElem_cons_succ, List.setIfInBounds_toArray, List.set_cons_zero, List.set_cons_succ]); first | done | rfl)))
  refine Kr.seqDoneW ?_
  have hk := H.c
  simp only [Kr.Cells] at hk
  go_wp2
  refine bodyPost_ret (v := .tuple #[.agg #[.slice pr nr cr], .int .i64 (k : Int)]) (by simp [results, Try.results59, go_sem, hk]) rfl ⟨z, k, HP.out, pr, nr, cr, rfl, H.nw 0 rfl, H.g⟩
set_option linter.unusedSimpArgs false in
set_option maxRecDepth 100000 in
set_option maxHeartbeats 16000000 in
theorem ParseHex_v {S : ByteArray} {w : World} :
    Calls Try.prog 61 #[.string S] w fun e w' => ∃ z k, Parsed 16 (bs S) z k ∧ HasE z k w e w' := by
  have H := Sta.start w
  go_enter Try.func61, Try.ntmps61
  go_upto_region 0 with fail
  refine Kr.seqStartW ?_
  refine Kr.seqR (by rfl) (fun K hK => ?_)
  go_simp
  obtain ⟨y1, hy⟩ : ∃ y, w.alloc (.cells #[.slice none 0 0] 24) = y := ⟨_, rfl⟩
  obtain ⟨br, hb⟩ : ∃ b, w.heap.size = b := ⟨_, rfl⟩
  rw [hy, hb]
  replace H := H.alloc hy hb rfl
  clear hy hb
  (refine Kr.outS hK (a' := ?_) ?_ ?_; rotate_left; (focus ((try simp only [Act.put, List.getElem_toArray, List.getElem_cons_zero, List.getElem_cons_succ, List.setIfInBounds_toArray, List.set_cons_zero, List.set_cons_succ]); first | done | rfl))); clear hK K
  (refine Kr.seqQ (v := ?_) (a' := ?_) (by rfl) ?_ ?_ ?_; rotate_left 2; (focus (go_simp; first | done | rfl)); (focus ((try simp only [Act.put, List.getElem_toArray, List.getElem_cons_zero, List.getElem_cons_succ, List.setIfInBounds_toArray, List.set_cons_zero, List.set_cons_succ]); first | done | rfl)))
  refine Kr.seqDoneW ?_
  go_upto_region 1 with fail
  refine Kr.seqStartW ?_
  (refine Kr.seqQ (v := ?_) (a' := ?_) (by rfl) ?_ ?_ ?_; rotate_left 2; (focus (go_simp; first | done | rfl)); (focus ((try simp only [Act.put, List.getElem_toArray, List.getElem_cons_zero, List.getElem_cons_succ, List.setIfInBounds_toArray, List.set_cons_zero, List.set_cons_succ]); first | done | rfl)))
  refine Kr.seqR (by rfl) (fun K hK => ?_)
  go_simp
  go_at_call 104
  refine (read_v (g := 16) ⟨by decide, by decide⟩).mono ?_
  rintro e y2 ⟨z, k, hp, pr, nr, cr, rfl, hr, hg⟩
  have HP := Lib.hid hp
  replace H := H.grow hg
  replace H := H.num hr
  clear hr hg hp
  (refine Kr.outS hK (a' := ?_) ?_ ?_; rotate_left; (focus ((try simp only [Act.put, List.getElem_toArray, List.getElem_cons_zero, List.getElem_cons_succ, List.setIfInBounds_toArray, List.set_cons_zero, List.set_cons_succ]); first | done | rfl))); clear hK K
  iterate 2 (refine Kr.seqQ (v := ?_) (a' := ?_) (by rfl) ?_ ?_ ?_; rotate_left 2; (focus (go_simp; first | done | rfl)); (focus ((try simp only [Act.put, List.getElem_toArray, List.getElem_cons_zero, List.getElem_cons_succ, List.setIfInBounds_toArray, List.set_cons_zero, List.set_cons_succ]); first | done | rfl)))
  have hk := H.c
  simp only [Kr.Cells] at hk
  refine Kr.seqR (by rfl) (fun K hK => ?_)
  go_simp
  clear hk
  obtain ⟨y3, hy⟩ : ∃ y, y2.setCell ⟨br, 0, none⟩ (.slice pr nr cr) = y := ⟨_, rfl⟩
  rw [hy]
  replace H := H.store 0 hy rfl rfl
  dsimp only [List.set] at H
  clear hy
  (refine Kr.outS hK (a' := ?_) ?_ ?_; rotate_left; (focus ((try simp only [Act.put, List.getElem_toArray, List.getElem_cons_zero, List.getElem_cons_succ, List.setIfInBounds_toArray, List.set_cons_zero, List.set_cons_succ]); first | done | rfl))); clear hK K
  (refine Kr.seqQ (v := ?_) (a' := ?_) (by rfl) ?_ ?_ ?_; rotate_left 2; (focus (go_simp; first | done | rfl)); (focus ((try simp only [Act.put, List.getElem_toArray, List.getElem_cons_zero, List.getElem_cons_succ, List.setIfInBounds_toArray, List.set_cons_zero, List.set_cons_succ]); first | done | rfl)))
  refine Kr.seqDoneW ?_
  have hk := H.c
  simp only [Kr.Cells] at hk
  go_wp2
  refine bodyPost_ret (v := .tuple #[.agg #[.slice pr nr cr], .int .i64 (k : Int)]) (by simp [results, Try.results61, go_sem, hk]) rfl ⟨z, k, HP.out, pr, nr, cr, rfl, H.nw 0 rfl, H.g⟩
theorem run_bt {p : Option Addr} {n c : Nat} {l : List Nat} {W : World} (h : Bt W p n c l) : (convert 62 9 (.slice p n c)).run Try.prog W = .ok (.string (str l)) W := by
  cases p with
  | none =>
    have h1 := h.nil rfl
    have hl : l = [] := List.eq_nil_of_length_eq_zero (by rw [h.len]; exact h1.1)
    subst hl
    rw [h1.1]
    have h2 := run_convert_bytes_string (P := Try.prog) W 62 9 5 none 0 c Try.underlying62 Try.underlying5 Try.underlying9
    rw [h2]
    have h3 : (loadCells (default : Addr) 0).run Try.prog W = .ok (([] : List Int).map (Value.int .u8)).toArray W := by first | rfl | simp [loadCells]
    first | rfl | simp [Conv.bytesToString, go_sem]
  | some a =>
    have h1 : n = (l.map UInt8.ofNat).length := by rw [List.length_map, h.len]
    subst h1
    refine run_convert_bytes_back W _ _ 5 a c (l.map UInt8.ofNat) Try.underlying62 Try.underlying5 Try.underlying9 (fun j hj => ?_)
    have hj' : j < l.length := by simpa using hj
    rcases h.rd with h0 | ⟨b, off, e, hc⟩
    · rw [h0] at hj'; exact absurd hj' (Nat.not_lt_zero _)
    · cases e
      rw [addr_add, hc j hj']
      have h2 : l[j] < 256 := h.ok _ (List.getElem_mem _)
      simp [hj', UInt8.toNat_ofNat', Nat.mod_eq_of_lt h2]
set_option linter.unusedSimpArgs false in
set_option maxRecDepth 100000 in
set_option maxHeartbeats 16000000 in
theorem Equal8_v {p q : Option Addr} {n m c d : Nat} {l k : List Nat} {w : World} (hl : Bt w p n c l) (hk : Bt w q m d k) :
    Calls Try.prog 67 #[.slice p n c, .slice q m d] w fun e w' => e = .returned (.bool (decide (l = k))) ∧ Gr w w' := by
  have HD : Hid (decide (str l = str k) = decide (l = k)) := Lib.hid (decide_eq_decide.2 ⟨fun h => str_inj hl.ok hk.ok h, fun h => by rw [h]⟩)
  have H := Sta.start w
  replace H := H.add (keepB _ _ _ _) hl
  replace H := H.add (keepB _ _ _ _) hk
  go_enter Try.func67, Try.ntmps67
  go_upto_region 0 with fail
  refine Kr.seqStartW ?_
  (refine Kr.seqQ (v := ?_) (a' := ?_) (by rfl) ?_ ?_ ?_; rotate_left 2; (focus (go_simp; first | done | rfl)); (focus ((try simp only [Act.put, List.getElem_toArray, List.getElem_cons_zero, List.getElem_cons_succ, List.setIfInBounds_toArray, List.set_cons_zero, List.set_cons_succ]); first | done | rfl)))
  refine Kr.seqDoneW ?_
  go_upto_region 1 with fail
  refine Kr.seqStartW ?_
  (refine Kr.seqQ (v := ?_) (a' := ?_) (by rfl) ?_ ?_ ?_; rotate_left 2; (focus (go_simp; first | done | rfl)); (focus ((try simp only [Act.put, List.getElem_toArray, List.getElem_cons_zero, List.getElem_cons_succ, List.setIfInBounds_toArray, List.set_cons_zero, List.set_cons_succ]); first | done | rfl)))
  (refine Kr.seqQ (v := .string (str l)) (a' := ?_) (by rfl) ?_ ?_ ?_; rotate_left 1; (focus (exact val_of rfl (run_bt (H.fact 1 rfl : B p n c l w)))); (focus ((try simp only [Act.put, List.getElem_toArray, List.getElem_cons_zero, List.getElem_cons_succ, List.setIfInBounds_toArray, List.set_cons_zero, List.set_cons_succ]); first | done | rfl)))
  (refine Kr.seqQ (v := ?_) (a' := ?_) (by rfl) ?_ ?_ ?_; rotate_left 2; (focus (go_simp; first | done | rfl)); (focus ((try simp only [Act.put, List.getElem_toArray, List.getElem_cons_zero, List.getElem_cons_succ, List.setIfInBounds_toArray, List.set_cons_zero, List.set_cons_succ]); first | done | rfl)))
  (refine Kr.seqQ (v := .string (str k)) (a' := ?_) (by rfl) ?_ ?_ ?_; rotate_left 1; (focus (exact val_of rfl (run_bt (H.fact 0 rfl : B q m d k w)))); (focus ((try simp only [Act.put, List.getElem_toArray, List.getElem_cons_zero, List.getElem_cons_succ, List.setIfInBounds_toArray, List.set_cons_zero, List.set_cons_succ]); first | done | rfl)))
  (refine Kr.seqQ (v := .bool (decide (str l = str k))) (a' := ?_) (by rfl) ?_ ?_ ?_; rotate_left 1; (focus (exact val_of rfl (run_eql 9 _ _))); (focus ((try simp only [Act.put, List.getElem_toArray, List.getElem_cons_zero, List.getElem_cons_succ, List.setIfInBounds_toArray, List.set_cons_zero, List.set_cons_succ]); first | done | rfl)))
  (refine Kr.seqQ (v := ?_) (a' := ?_) (by rfl) ?_ ?_ ?_; rotate_left 2; (focus (go_simp; first | done | rfl)); (focus ((try simp only [Act.put, List.getElem_toArray, List.getElem_cons_zero, List.getElem_cons_succ, List.setIfInBounds_toArray, List.set_cons_zero, List.set_cons_succ]); first | done | rfl)))
  refine Kr.seqDoneW ?_
  have hk : True := trivial
  go_wp2
  refine bodyPost_ret (v := .bool (decide (str l = str k))) (by simp [results, Try.results67, go_sem, hk]) rfl ⟨by rw [HD.out], H.g⟩
set_option linter.unusedSimpArgs false in
set_option maxRecDepth 100000 in
set_option maxHeartbeats 16000000 in
theorem great4_yes {p : Option Addr} {n c : Nat} {w : World} (h : 100 < n) :
    Calls Try.prog 54 #[.agg #[.slice p n c]] w fun e w' => e = .returned (.bool true) ∧ Gr w w' := by
  have h1 : (100 : Int) < (n : Int) := by omega
  have H := Sta.start w
  go_enter Try.func54, Try.ntmps54
  go_upto_region 0 with fail
  refine Kr.seqStartW ?_
  refine Kr.seqR (by rfl) (fun K hK => ?_)
  go_simp
  obtain ⟨y1, hy⟩ : ∃ y, w.alloc (.cells #[.slice p n c] 24) = y := ⟨_, rfl⟩
  obtain ⟨bn, hb⟩ : ∃ b, w.heap.size = b := ⟨_, rfl⟩
  rw [hy, hb]
  replace H := H.alloc hy hb rfl
  clear hy hb
  (refine Kr.outS hK (a' := ?_) ?_ ?_; rotate_left; (focus ((try simp only [Act.put, List.getElem_toArray, List.getElem_cons_zero, List.getElem_cons_succ, List.setIfInBounds_toArray, List.set_cons_zero, List.set_cons_succ]); first | done | rfl))); clear hK K
  (refine Kr.seqQ (v := ?_) (a' := ?_) (by rfl) ?_ ?_ ?_; rotate_left 2; (focus (go_simp; first | done | rfl)); (focus ((try simp only [Act.put, List.getElem_toArray, List.getElem_cons_zero, List.getElem_cons_succ, List.setIfInBounds_toArray, List.set_cons_zero, List.set_cons_succ]); first | done | rfl)))
  refine Kr.seqDoneW ?_
  go_upto_region 1 with fail
  refine Kr.seqStartW ?_
  (refine Kr.seqQ (v := ?_) (a' := ?_) (by rfl) ?_ ?_ ?_; rotate_left 2; (focus (go_simp; first | done | rfl)); (focus ((try simp only [Act.put, List.getElem_toArray, List.getElem_cons_zero, List.getElem_cons_succ, List.setIfInBounds_toArray, List.set_cons_zero, List.set_cons_succ]); first | done | rfl)))
  have hk := H.c
  simp only [Kr.Cells] at hk
  iterate 4 (refine Kr.seqQ (v := ?_) (a' := ?_) (by rfl) ?_ ?_ ?_; rotate_left 2; (focus (go_simp; first | done | rfl)); (focus ((try simp only [Act.put, List.getElem_toArray, List.getElem_cons_zero, List.getElem_cons_succ, List.setIfInBounds_toArray, List.set_cons_zero, List.set_cons_succ]); first | done | rfl)))
  clear hk
  refine Kr.seqDoneW ?_
  have hk := H.c
  simp only [Kr.Cells] at hk
  go_wp2
  refine bodyPost_ret (v := .bool true) (by simp [results, Try.results54, go_sem, hk]) rfl ⟨rfl, H.g⟩
set_option linter.unusedSimpArgs false in
set_option maxRecDepth 100000 in
set_option maxHeartbeats 16000000 in
theorem great4_no {p : Option Addr} {n c : Nat} {w : World} (h : n ≤ 100) :
    Calls Try.prog 54 #[.agg #[.slice p n c]] w fun e w' => e = .returned (.bool false) ∧ Gr w w' := by
  have h1 : ¬ (100 : Int) < (n : Int) := by omega
  have H := Sta.start w
  go_enter Try.func54, Try.ntmps54
  go_upto_region 0 with fail
  refine Kr.seqStartW ?_
  refine Kr.seqR (by rfl) (fun K hK => ?_)
  go_simp
  obtain ⟨y1, hy⟩ : ∃ y, w.alloc (.cells #[.slice p n c] 24) = y := ⟨_, rfl⟩
  obtain ⟨bn, hb⟩ : ∃ b, w.heap.size = b := ⟨_, rfl⟩
  rw [hy, hb]
  replace H := H.alloc hy hb rfl
  clear hy hb
  (refine Kr.outS hK (a' := ?_) ?_ ?_; rotate_left; (focus ((try simp only [Act.put, List.getElem_toArray, List.getElem_cons_zero, List.getElem_cons_succ, List.setIfInBounds_toArray, List.set_cons_zero, List.set_cons_succ]); first | done | rfl))); clear hK K
  (refine Kr.seqQ (v := ?_) (a' := ?_) (by rfl) ?_ ?_ ?_; rotate_left 2; (focus (go_simp; first | done | rfl)); (focus ((try simp only [Act.put, List.getElem_toArray, List.getElem_cons_zero, List.getElem_cons_succ, List.setIfInBounds_toArray, List.set_cons_zero, List.set_cons_succ]); first | done | rfl)))
  refine Kr.seqDoneW ?_
  go_upto_region 1 with fail
  refine Kr.seqStartW ?_
  (refine Kr.seqQ (v := ?_) (a' := ?_) (by rfl) ?_ ?_ ?_; rotate_left 2; (focus (go_simp; first | done | rfl)); (focus ((try simp only [Act.put, List.getElem_toArray, List.getElem_cons_zero, List.getElem_cons_succ, List.setIfInBounds_toArray, List.set_cons_zero, List.set_cons_succ]); first | done | rfl)))
  have hk := H.c
  simp only [Kr.Cells] at hk
  iterate 4 (refine Kr.seqQ (v := ?_) (a' := ?_) (by rfl) ?_ ?_ ?_; rotate_left 2; (focus (go_simp; first | done | rfl)); (focus ((try simp only [Act.put, List.getElem_toArray, List.getElem_cons_zero, List.getElem_cons_succ, List.setIfInBounds_toArray, List.set_cons_zero, List.set_cons_succ]); first | done | rfl)))
  clear hk
  refine Kr.seqDoneW ?_
  have hk := H.c
  simp only [Kr.Cells] at hk
  go_wp2
  refine bodyPost_ret (v := .bool false) (by simp [results, Try.results54, go_sem, hk]) rfl ⟨rfl, H.g⟩
theorem aw_lt : 4886718345 < pw 64 := Nat.lt_of_lt_of_le (show 4886718345 < pw 3 by decide) (pw_mono (by decide))
theorem aw_bad : ¬ Bad 10 [52, 56, 56, 54, 55, 49, 56, 51, 52, 53] := by
  unfold Bad
  decide
theorem aw_parsed : Parsed 10 (bs ⟨#[52, 56, 56, 54, 55, 49, 56, 51, 52, 53]⟩) 4886718345 0 :=
  .inr (.inr ⟨by decide, aw_bad, .inl ⟨aw_lt, rfl, rfl⟩⟩)
theorem aw_low : (low 256 4886718345).reverse = [1, 35, 69, 103, 137] := low_dval (g := 256) (by decide) [1, 35, 69, 103, 137] (by decide) (by intro d h; injection h with h; subst h; decide)
theorem aw_hex : txt 16 4886718345 = [49, 50, 51, 52, 53, 54, 55, 56, 57] := by
  rw [txt, if_neg (by decide), show (low 16 4886718345).reverse = [1, 2, 3, 4, 5, 6, 7, 8, 9] from low_dval (g := 16) (by decide) [1, 2, 3, 4, 5, 6, 7, 8, 9] (by decide) (by intro d h; injection h with h; subst h; decide)]
  rfl
theorem bt_lit {w y : World} {b : Nat} {l : List Nat} (hy : w.alloc (.cells (cb l).toArray 5) = y) (hb : w.heap.size = b) (hl : ∀ x ∈ l, x < 256) (hs : l.length ≤ 1048576) : Bt y (some ⟨b, 0, none⟩) l.length l.length l := by
  refine (rw_block (t := 5) ?_).bt rfl (Nat.le_refl _) hl hs
  rw [← hy, ← hb]
  show (w.heap.push _)[w.heap.size]? = _
  simp
set_option linter.unusedSimpArgs false in
set_option maxRecDepth 100000 in
set_option maxHeartbeats 16000000 in
theorem awake4 (w : World) : Calls Try.prog 53 #[] w fun e w' => e = .returned (.bool true) ∧ Gr w w' := by
  have H := Sta.start w
  go_enter Try.func53, Try.ntmps53
  go_upto_region 0 with fail
  refine Kr.seqStartW ?_
  (refine Kr.seqQ (v := ?_) (a' := ?_) (by rfl) ?_ ?_ ?_; rotate_left 2; (focus (go_simp; first | done | rfl)); (focus ((try simp only [Act.put, List.getElem_toArray, List.getElem_cons_zero, List.getElem_cons_succ, List.setIfInBounds_toArray, List.set_cons_zero, List.set_cons_succ]); first | done | rfl)))
  refine Kr.seqDoneW ?_
  go_upto_region 1 with fail
  refine Kr.seqStartW ?_
  refine Kr.seqR (by rfl) (fun K hK => ?_)
  go_simp
  go_at_call 59
  refine (Parse_v (S := ⟨#[52, 56, 56, 54, 55, 49, 56, 51, 52, 53]⟩)).mono ?_
  rintro e y1 ⟨z, k, hp, pr, nr, cr, rfl, hr, hg⟩
  obtain ⟨rfl, rfl⟩ := parsed_eq hp aw_parsed
  replace H := H.grow hg
  replace H := H.num hr
  clear hr hg hp
  (refine Kr.outS hK (a' := ?_) ?_ ?_; rotate_left; (focus ((try simp only [Act.put, List.getElem_toArray, List.getElem_cons_zero, List.getElem_cons_succ, List.setIfInBounds_toArray, List.set_cons_zero, List.set_cons_succ]); first | done | rfl))); clear hK K
  iterate 3 (refine Kr.seqQ (v := ?_) (a' := ?_) (by rfl) ?_ ?_ ?_; rotate_left 2; (focus (go_simp; first | done | rfl)); (focus ((try simp only [Act.put, List.getElem_toArray, List.getElem_cons_zero, List.getElem_cons_succ, List.setIfInBounds_toArray, List.set_cons_zero, List.set_cons_succ]); first | done | rfl)))
  refine Kr.seqR (by rfl) (fun K hK => ?_)
  go_simp
  obtain ⟨y2, hy⟩ : ∃ y, y1.alloc (.cells #[.slice none 0 0] 24) = y := ⟨_, rfl⟩
  obtain ⟨bn, hb⟩ : ∃ b, y1.heap.size = b := ⟨_, rfl⟩
  rw [hy, hb]
  replace H := H.alloc hy hb rfl
  clear hy hb
  (refine Kr.outS hK (a' := ?_) ?_ ?_; rotate_left; (focus ((try simp only [Act.put, List.getElem_toArray, List.getElem_cons_zero, List.getElem_cons_succ, List.setIfInBounds_toArray, List.set_cons_zero, List.set_cons_succ]); first | done | rfl))); clear hK K
  have hk := H.c
  simp only [Kr.Cells] at hk
  refine Kr.seqR (by rfl) (fun K hK => ?_)
  go_simp
  clear hk
  obtain ⟨y3, hy⟩ : ∃ y, y2.setCell ⟨bn, 0, none⟩ (.slice pr nr cr) = y := ⟨_, rfl⟩
  rw [hy]
  replace H := H.store 0 hy rfl rfl
  dsimp only [List.set] at H
  clear hy
  (refine Kr.outS hK (a' := ?_) ?_ ?_; rotate_left; (focus ((try simp only [Act.put, List.getElem_toArray, List.getElem_cons_zero, List.getElem_cons_succ, List.setIfInBounds_toArray, List.set_cons_zero, List.set_cons_succ]); first | done | rfl))); clear hK K
  (refine Kr.seqQ (v := ?_) (a' := ?_) (by rfl) ?_ ?_ ?_; rotate_left 2; (focus (go_simp; first | done | rfl)); (focus ((try simp only [Act.put, List.getElem_toArray, List.getElem_cons_zero, List.getElem_cons_succ, List.setIfInBounds_toArray, List.set_cons_zero, List.set_cons_succ]); first | done | rfl)))
  refine Kr.seqDoneW ?_
  go_upto_region 2 with fail
  refine Kr.seqStartW ?_
  have hk := H.c
  simp only [Kr.Cells] at hk
  (refine Kr.seqQ (v := ?_) (a' := ?_) (by rfl) ?_ ?_ ?_; rotate_left 2; (focus (go_simp; first | done | rfl)); (focus ((try simp only [Act.put, List.getElem_toArray, List.getElem_cons_zero, List.getElem_cons_succ, List.setIfInBounds_toArray, List.set_cons_zero, List.set_cons_succ]); first | done | rfl)))
  refine Kr.seqR (by rfl) (fun K hK => ?_)
  go_simp
  go_at_call 63
  refine (bytes_ok (N := 6) (m := 5) (H.nw 0 rfl) aw_lt (by decide) (by rw [aw_low]; rfl) (by decide)).mono ?_
  rintro e y4 ⟨pb, nb, cb2, rfl, hr, hg⟩
  rw [aw_low] at hr
  clear hk
  replace H := H.grow hg
  replace H := H.add (keepB _ _ _ _) hr
  clear hr hg
  (refine Kr.outS hK (a' := ?_) ?_ ?_; rotate_left; (focus ((try simp only [Act.put, List.getElem_toArray, List.getElem_cons_zero, List.getElem_cons_succ, List.setIfInBounds_toArray, List.set_cons_zero, List.set_cons_succ]); first | done | rfl))); clear hK K
  iterate 5 (refine Kr.seqQ (v := ?_) (a' := ?_) (by rfl) ?_ ?_ ?_; rotate_left 2; (focus (go_simp; first | done | rfl)); (focus ((try simp only [Act.put, List.getElem_toArray, List.getElem_cons_zero, List.getElem_cons_succ, List.setIfInBounds_toArray, List.set_cons_zero, List.set_cons_succ]); first | done | rfl)))
  refine Kr.seqDoneW ?_
  go_upto_region 3 with fail
  refine Kr.seqStartW ?_
  iterate 3 (refine Kr.seqQ (v := ?_) (a' := ?_) (by rfl) ?_ ?_ ?_; rotate_left 2; (focus (go_simp; first | done | rfl)); (focus ((try simp only [Act.put, List.getElem_toArray, List.getElem_cons_zero, List.getElem_cons_succ, List.setIfInBounds_toArray, List.set_cons_zero, List.set_cons_succ]); first | done | rfl)))
  have hk := H.c
  simp only [Kr.Cells] at hk
  (refine Kr.seqQ (v := ?_) (a' := ?_) (by rfl) ?_ ?_ ?_; rotate_left 2; (focus (go_simp; first | done | rfl)); (focus ((try simp only [Act.put, List.getElem_toArray, List.getElem_cons_zero, List.getElem_cons_succ, List.setIfInBounds_toArray, List.set_cons_zero, List.set_cons_succ]); first | done | rfl)))
  refine Kr.seqR (by rfl) (fun K hK => ?_)
  go_simp
  go_at_call 57
  refine (Hex_v (H.nw 1 rfl) aw_lt).mono ?_
  rintro e y5 ⟨rfl, hg⟩
  rw [aw_hex]
  clear hk
  replace H := H.grow hg
  clear hg
  (refine Kr.outS hK (a' := ?_) ?_ ?_; rotate_left; (focus ((try simp only [Act.put, List.getElem_toArray, List.getElem_cons_zero, List.getElem_cons_succ, List.setIfInBounds_toArray, List.set_cons_zero, List.set_cons_succ]); first | done | rfl))); clear hK K
  (refine Kr.seqQ (v := .bool true) (a' := ?_) (by rfl) ?_ ?_ ?_; rotate_left 1; (focus (exact val_of rfl (run_eql_t 9 (a := str [49, 50, 51, 52, 53, 54, 55, 56, 57]) _ rfl))); (focus ((try simp only [Act.put, List.getElem_toArray, List.getElem_cons_zero, List.getElem_cons_succ, List.setIfInBounds_toArray, List.set_cons_zero, List.set_cons_succ]); first | done | rfl)))
  iterate 7 (refine Kr.seqQ (v := ?_) (a' := ?_) (by rfl) ?_ ?_ ?_; rotate_left 2; (focus (go_simp; first | done | rfl)); (focus ((try simp only [Act.put, List.getElem_toArray, List.getElem_cons_zero, List.getElem_cons_succ, List.setIfInBounds_toArray, List.set_cons_zero, List.set_cons_succ]); first | done | rfl)))
  refine Kr.seqR (by rfl) (fun K hK => ?_)
  go_simp
  obtain ⟨y6, hy⟩ : ∃ y, y5.alloc (.cells #[.int .u8 0, .int .u8 1, .int .u8 35, .int .u8 69, .int .u8 103, .int .u8 137] 5) = y := ⟨_, rfl⟩
  obtain ⟨bone, hb⟩ : ∃ b, y5.heap.size = b := ⟨_, rfl⟩
  rw [hy, hb]
  have hr : Bt y6 (some ⟨bone, 0, none⟩) 6 6 [0, 1, 35, 69, 103, 137] := bt_lit (l := [0, 1, 35, 69, 103, 137]) hy hb (by decide) (by decide)
  have hg : Gr y5 y6 := hy ▸ (Gr.refl _).alloc _
  replace H := H.grow hg
  replace H := H.add (keepB _ _ _ _) hr
  clear hy hb hr hg
  (refine Kr.outS hK (a' := ?_) ?_ ?_; rotate_left; (focus ((try simp only [Act.put, List.getElem_toArray, List.getElem_cons_zero, List.getElem_cons_succ, List.setIfInBounds_toArray, List.set_cons_zero, List.set_cons_succ]); first | done | rfl))); clear hK K
  refine Kr.seqR (by rfl) (fun K hK => ?_)
  go_simp
  go_at_call 67
  refine (Equal8_v (l := pad 6 [1, 35, 69, 103, 137]) (H.fact 1 rfl : B pb nb cb2 _ y6) (H.fact 0 rfl : B (some ⟨bone, 0, none⟩) 6 6 [0, 1, 35, 69, 103, 137] y6)).mono ?_
  rintro e y7 ⟨rfl, hg⟩
  rw [show decide (pad 6 [1, 35, 69, 103, 137] = [0, 1, 35, 69, 103, 137]) = true from rfl]
  replace H := H.grow hg
  clear hg
  (refine Kr.outS hK (a' := ?_) ?_ ?_; rotate_left; (focus ((try simp only [Act.put, List.getElem_toArray, List.getElem_cons_zero, List.getElem_cons_succ, List.setIfInBounds_toArray, List.set_cons_zero, List.set_cons_succ]); first | done | rfl))); clear hK K
  iterate 2 (refine Kr.seqQ (v := ?_) (a' := ?_) (by rfl) ?_ ?_ ?_; rotate_left 2; (focus (go_simp; first | done | rfl)); (focus ((try simp only [Act.put, List.getElem_toArray, List.getElem_cons_zero, List.getElem_cons_succ, List.setIfInBounds_toArray, List.set_cons_zero, List.set_cons_succ]); first | done | rfl)))
  refine Kr.seqDoneW ?_
  go_wp2
  go_ret
  exact ⟨rfl, H.g⟩
end Go.Proofs.Ytlciocebbckdcaa.Pf


/- What the laws of layer 4 say of lists: strings of numbers are read as these numbers, and back. -/
namespace Go.Proofs.Ytlciocebbckdcaa.Pf
open Go Go.RowKit Go.Proofs.Ytlciocebbckdcaa.Nm Go.Proofs.Ytlciocebbckdcaa.Ne Go.Proofs.Ytlciocebbckdcaa.Nf Go.Proofs.Ytlciocebbckdcaa.Nk Go.Proofs.Ytlciocebbckdcaa.Nv Go.Proofs.Ytlciocebbckdcaa.Nr2 Go.Proofs.Ytlciocebbckdcaa.Kr Go.Proofs.Ytlciocebbckdcaa.Fb Go.Proofs.Ytlciocebbckdcaa.Ff Go.Proofs.Ytlciocebbckdcaa.Rf Go.Proofs.Ytlciocebbckdcaa.Nl

theorem low_small8 {g x : Nat} (hg : 8 ≤ g) (hx : x < pw 64) : (low g x).length ≤ 683 := by
  obtain ⟨K, hK⟩ : ∃ K, K = 683 := ⟨_, rfl⟩
  have h1 : pw 64 ≤ 8 ^ K := by
    rw [show (8 : Nat) = 2 ^ 3 from rfl, ← Nat.pow_mul, pw_two]
    generalize hN : 32 * 64 = N
    exact Nat.pow_le_pow_right (by decide) (by omega)
  have h2 := low_len (g := g) (by omega) K x (Nat.lt_of_lt_of_le hx (Nat.le_trans h1 (Nat.pow_le_pow_left hg K)))
  omega
theorem map_wv_sm {L : List Nat} (h : ∀ d ∈ L, d < 16) : (L.map sm).map wv = L := by
  rw [List.map_map]
  exact (List.map_congr_left (g := id) fun d hd => wv_sm (h d hd)).trans (List.map_id _)
theorem map_sm_wv {g : Nat} (hg : g = 10 ∨ g = 16) {l : List Nat} (h : ∀ c ∈ l, wv c < g) : (l.map wv).map sm = l := by
  rw [List.map_map]
  refine (List.map_congr_left (g := id) fun c hc => ?_).trans (List.map_id _)
  have h1 := h c hc
  show sm (wv c) = c
  revert h1
  unfold wv sm
  intro h1
  by_cases h2 : 48 ≤ c ∧ c ≤ 57
  · rw [if_pos h2] at h1 ⊢
    rw [if_pos (by omega)]; omega
  · rw [if_neg h2] at h1 ⊢
    by_cases h3 : 97 ≤ c ∧ c ≤ 102
    · rw [if_pos h3] at h1 ⊢
      rw [if_neg (by omega)]; omega
    · rw [if_neg h3] at h1
      rcases hg with h | h <;> omega
theorem sm_zero {d : Nat} (h : sm d = 48) : d = 0 := by
  unfold sm at h
  split at h <;> omega
theorem txt_head {g x : Nat} (hg : 2 ≤ g) (hx : x ≠ 0) : (txt g x).head? ≠ some 48 := by
  rw [txt, if_neg hx, List.head?_map, List.head?_reverse]
  intro h
  cases hl : (low g x).getLast? with
  | none => rw [hl] at h; cases h
  | some d =>
    rw [hl] at h
    exact low_last hg x d hl (sm_zero (Option.some.inj h))
theorem low16 {g : Nat} (hg : 2 ≤ g ∧ g ≤ 16) (x : Nat) : ∀ d ∈ (low g x).reverse, d < 16 := fun d hd => Nat.lt_of_lt_of_le (low_lt hg.1 x d (List.mem_reverse.1 hd)) hg.2
/-- The string of a number is read as this number. -/
theorem parsed_txt {g x : Nat} (hg : 10 ≤ g ∧ g ≤ 16) (hx : x < pw 64) : Parsed g (txt g x) x 0 := by
  have hg2 : 2 ≤ g ∧ g ≤ 16 := by omega
  by_cases h0 : x = 0
  · subst h0
    have ht : txt g 0 = [48] := by rw [txt, if_pos rfl]
    rw [ht]
    refine .inr (.inr ⟨by decide, ?_, .inl ⟨by simpa [dval, wv] using pw_pos 64, by simp [dval, wv], rfl⟩⟩)
    rintro (h | h | ⟨c, hc, h⟩)
    · cases h
    · exact h.2 rfl
    · rw [List.mem_singleton.1 hc] at h
      have : wv 48 = 0 := rfl
      omega
  · have ht : txt g x = (low g x).reverse.map sm := by rw [txt, if_neg h0]
    have hw : (txt g x).map wv = (low g x).reverse := by rw [ht]; exact map_wv_sm (low16 hg2 x)
    refine .inr (.inr ⟨?_, ?_, ?_⟩)
    · have := low_small8 (g := g) (by omega) hx
      rw [ht, List.length_map, List.length_reverse]; omega
    · rintro (h | h | ⟨c, hc, h⟩)
      · rw [ht] at h
        exact low_ne hg2.1 h0 (by simpa using h)
      · exact txt_head hg2.1 h0 h.1
      · have h1 : wv c ∈ (low g x).reverse := by rw [← hw]; exact List.mem_map_of_mem hc
        have h2 := low_lt hg2.1 x _ (List.mem_reverse.1 h1)
        omega
    · rw [hw, dval_low hg2.1]
      exact .inl ⟨hx, rfl, rfl⟩
/-- A string that is read is the string of its number. -/
theorem txt_parsed {g : Nat} (hg : g = 10 ∨ g = 16) {l : List Nat} {z : Nat} (h : Parsed g l z 0) : txt g z = l ∧ z < pw 64 := by
  have hg2 : 2 ≤ g := by rcases hg with h | h <;> omega
  rcases h with ⟨_, _, h⟩ | ⟨_, _, _, h⟩ | ⟨hlen, hbad, hf⟩
  · cases h
  · cases h
  · obtain ⟨rfl, hz⟩ := hf.ok
    refine ⟨?_, hz⟩
    have hw : ∀ c ∈ l, wv c < g := fun c hc => Nat.lt_of_not_le fun h => hbad (.inr (.inr ⟨c, hc, h⟩))
    have hw2 : ∀ d ∈ l.map wv, d < g := fun d hd => by
      obtain ⟨c, hc, rfl⟩ := List.mem_map.1 hd
      exact hw c hc
    by_cases h48 : l = [48]
    · subst h48
      rw [txt, if_pos (by simp [dval, wv])]
    · have hne : l ≠ [] := fun h => hbad (.inl h)
      have hh : l.head? ≠ some 48 := fun h => hbad (.inr (.inl ⟨h, h48⟩))
      have hhd : ∀ d, (l.map wv).head? = some d → d ≠ 0 := by
        intro d hd e
        subst e
        rw [List.head?_map] at hd
        cases hc : l.head? with
        | none => rw [hc] at hd; cases hd
        | some c =>
          rw [hc] at hd
          have h1 : wv c = 0 := Option.some.inj hd
          have hcm : c ∈ l := List.mem_of_mem_head? hc
          have h2 : c = 48 := by
            have h3 := map_sm_wv hg (l := [c]) (fun y hy => by rw [List.mem_singleton.1 hy]; exact hw c hcm)
            simp only [List.map_cons, List.map_nil, h1, List.cons.injEq, and_true] at h3
            rw [← h3]; rfl
          subst h2
          exact hh hc
      have hlow := low_dval hg2 (l.map wv) hw2 hhd
      have hnz : dval g (l.map wv) ≠ 0 := by
        intro e
        rw [e, low_zero] at hlow
        exact hne (by simpa using hlow.symm)
      rw [txt, if_neg hnz, hlow, map_sm_wv hg hw]
/-- What Bytes hands back: a function of the words and the size. -/
def byo (l : List Nat) (t : Int) : List Nat × Nat :=
  if valid l then
    if t < 0 ∨ 1000 < t then ([], 2)
    else if (low 256 (val l)).reverse.length ≤ t.toNat then (pad t.toNat (low 256 (val l)).reverse, 0) else ([], 9)
  else ([], 1)
theorem Bytes_any {pn : Option Addr} {nn cn : Nat} {t : Int} {l : List Nat} {w : World} (hn : Nw w pn nn cn l) :
    Calls Try.prog 63 #[.agg #[.slice pn nn cn], .int .i64 t] w (BtE (byo l t).1 (byo l t).2 w) := by
  unfold byo
  by_cases hv : valid l
  · rw [if_pos hv]
    obtain ⟨x, hx, rfl⟩ := nw_value hn (decide_eq_true hv)
    rw [val_digs]
    by_cases ht : t < 0 ∨ 1000 < t
    · rw [if_pos ht]
      rcases ht with ht | ht
      · exact bytes_range0 hn hx ht
      · exact bytes_range1 hn hx ht
    · rw [if_neg ht]
      obtain ⟨N, rfl⟩ : ∃ N : Nat, t = (N : Int) := ⟨t.toNat, by omega⟩
      rw [Int.toNat_natCast]
      by_cases hf : (low 256 x).reverse.length ≤ N
      · rw [if_pos hf]; exact bytes_ok hn hx (by omega) rfl hf
      · rw [if_neg hf]; exact bytes_big hn hx (by omega) rfl (by omega)
  · rw [if_neg hv]; exact bytes_bad hn hv
theorem Bytes4_any {pn : Option Addr} {nn cn : Nat} {t : Int} {l : List Nat} {w : World} (hn : Nw w pn nn cn l) :
    Calls Try.prog 64 #[.agg #[.slice pn nn cn], .int .i64 t] w (BtE (byo l t).1 (byo l t).2 w) := by
  unfold byo
  by_cases hv : valid l
  · rw [if_pos hv]
    obtain ⟨x, hx, rfl⟩ := nw_value hn (decide_eq_true hv)
    rw [val_digs]
    by_cases ht : t < 0 ∨ 1000 < t
    · rw [if_pos ht]
      rcases ht with ht | ht
      · exact bytes4_range0 hn hx ht
      · exact bytes4_range1 hn hx ht
    · rw [if_neg ht]
      obtain ⟨N, rfl⟩ : ∃ N : Nat, t = (N : Int) := ⟨t.toNat, by omega⟩
      rw [Int.toNat_natCast]
      refine (bytes4_v hn hx (by omega)).mono ?_
      rintro e w' (⟨hf, h⟩ | ⟨hf, h⟩)
      · rw [if_pos hf]; exact h
      · rw [if_neg hf]; exact h
  · rw [if_neg hv]; exact bytes4_bad hn hv
/-- What FromBytes hands back. -/
def FB (l : List Nat) (z k : Nat) : Prop := (1000 < l.length ∧ z = 0 ∧ k = 5) ∨ (l.length ≤ 1000 ∧ Fits (dval 256 l) z k)
theorem fb_eq {l : List Nat} {z k z' k' : Nat} (h : FB l z k) (h' : FB l z' k') : z = z' ∧ k = k' := by
  rcases h with ⟨h1, rfl, rfl⟩ | ⟨h1, h2⟩ <;> rcases h' with ⟨h1', rfl, rfl⟩ | ⟨h1', h2'⟩
  · exact ⟨rfl, rfl⟩
  · omega
  · omega
  · exact fits_eq h2 h2'
theorem FromBytes_any {pl : Option Addr} {nl cl : Nat} {l : List Nat} {w : World} (hl : Bt w pl nl cl l) :
    Calls Try.prog 65 #[.slice pl nl cl] w fun e w' => ∃ z k, FB l z k ∧ HasE z k w e w' := by
  by_cases h : 1000 < nl
  · exact (frombytes_big hl h).mono fun e w' h2 => ⟨0, 5, .inl ⟨by rw [hl.len]; exact h, rfl, rfl⟩, h2⟩
  · exact (frombytes_v hl (by omega)).mono fun e w' ⟨z, k, h1, h2⟩ => ⟨z, k, .inr ⟨by rw [hl.len]; omega, h1⟩, h2⟩
theorem FromBytes4_any {pl : Option Addr} {nl cl : Nat} {l : List Nat} {w : World} (hl : Bt w pl nl cl l) :
    Calls Try.prog 66 #[.slice pl nl cl] w fun e w' => ∃ z k, FB l z k ∧ HasE z k w e w' := by
  by_cases h : 1000 < nl
  · exact (frombytes4_big hl h).mono fun e w' h2 => ⟨0, 5, .inl ⟨by rw [hl.len]; exact h, rfl, rfl⟩, h2⟩
  · exact (frombytes4_v hl (by omega)).mono fun e w' ⟨z, k, h1, h2⟩ => ⟨z, k, .inr ⟨by rw [hl.len]; omega, h1⟩, h2⟩
theorem Same4_v {p q : Option Addr} {n m c d x y : Nat} {w : World} (hl : Nw w p n c (digs x)) (hk : Nw w q m d (digs y)) :
    Calls Try.prog 62 #[.agg #[.slice p n c], .agg #[.slice q m d]] w fun e w' => e = .returned (.bool (decide (x = y))) ∧ Gr w w' :=
  (same4_any p q n m c d _ _ w hl hk).mono fun e w' hg => by
    rw [show decide (digs x = digs y) = decide (x = y) from decide_eq_decide.2 digs_inj] at hg; exact hg
/-- How much room a number's bytes take. -/
theorem fits_words {x n : Nat} (h : (digs x).length = n) (m : Nat) : (low 256 x).reverse.length ≤ 4 * n + m := by
  rw [List.length_reverse]
  refine low_len (by decide) _ x ?_
  have h1 := (digs_length_le x n).1 (by omega)
  rw [pw_eq, show 32 * n = 8 * (4 * n) by omega, Nat.pow_mul] at h1
  exact Nat.lt_of_lt_of_le h1 (Nat.pow_le_pow_right (by decide) (by omega))
/-- An argument: bytes of any length. -/
def Bin (W : World) (p : Option Addr) (n c : Nat) : Prop := ∃ l : List Nat, l.length = n ∧ n ≤ c ∧ (p = none → n = 0 ∧ c = 0) ∧ (l = [] ∨ ∃ b off, p = some ⟨b, off, none⟩ ∧ ∀ i, i < l.length → W.cell? ⟨b, off + i, none⟩ = some (.int .u8 ((l[i]?.getD 0 : Nat) : Int))) ∧ (∀ x ∈ l, x < 256) ∧ n ≤ 9223372036854775807
theorem Bin.bt {W : World} {p : Option Addr} {n c : Nat} (h : Bin W p n c) (hn : n ≤ 1048576) : ∃ l, Bt W p n c l := by
  obtain ⟨l, h1, h2, h3, h4, h5, _⟩ := h
  exact ⟨l, h1, h2, h3, h4, h5, hn⟩
theorem Bin.lt {W : World} {p : Option Addr} {n c : Nat} (h : Bin W p n c) : n ≤ 9223372036854775807 := by
  obtain ⟨_, _, _, _, _, _, h6⟩ := h
  exact h6
theorem cells8 : Try.prog.cellsOf 5 = 1 := by kernel_rfl
theorem wf_u8 {n : Int} (h : (Lit.int .u8 n).wf = true) : 0 ≤ n ∧ n < 256 := by
  simp [Lit.wf, IntKind.min, IntKind.max, IntKind.signed, IntKind.bits] at h
  omega
open Go.ChangeShapes Go.WideShapes Go.ChangeAt Go.WideElems in
set_option maxRecDepth 100000 in
theorem open_bytes {H : Type} {enc : TypeId × Value → H} {W : World} {r : Reach} {b0 : Nat} {v : Value} {d : DataW H} {p : List MemPlace}
    (hv : Value.okWide Try.prog W r b0 62 v) (h : DataW.Trod enc Try.prog W 0 (fun _ => true) true 62 v d p) :
    ∃ (q : Option Addr) (n c : Nat), v = .slice q n c ∧ Bin W q n c := by
  obtain ⟨a0, len0, cap0, rfl⟩ := okWide_slice Try.underlying62 hv
  obtain ⟨fuel, hf⟩ := h
  rcases open_ints Try.underlying62 Try.underlying5 cells8 hf with ⟨hc, _⟩ | ⟨a, len, cap, zs, hc, _, hl, hm, hz, _, hcell, hw⟩
  · simp [Value.cells] at hc
    obtain ⟨rfl, rfl, rfl⟩ := hc
    exact ⟨none, 0, 0, rfl, [], rfl, Nat.le_refl _, fun _ => ⟨rfl, rfl⟩, .inl rfl, (fun x hx => by cases hx), by decide⟩
  · simp [Value.cells] at hc
    obtain ⟨rfl, rfl, rfl⟩ := hc
    have hz' : zs.length = cap0 := by simpa using hz
    have hm' : cap0 ≤ 9223372036854775807 := Nat.le_trans hm maxLen_le
    refine ⟨some a, len0, cap0, rfl, (zs.take len0).map Int.toNat, by simp; omega, hl, (fun e => by cases e), ?_, ?_, by omega⟩
    · rcases Nat.eq_zero_or_pos len0 with h0 | h0
      · subst h0
        exact .inl (by simp)
      · have hs : a.spot = none := addr_at (v := .int .u8 (zs.getD 0 0)) (by simpa [Addr.add] using hcell 0 (by omega))
        obtain ⟨b, off, sp⟩ := a
        subst hs
        refine .inr ⟨b, off, rfl, fun i hi => ?_⟩
        have hi' : i < len0 := by simp at hi; omega
        have e := hcell i (by omega)
        rw [addr_add] at e
        rw [e]
        have hiz : i < zs.length := by omega
        have e2 : ((zs.take len0).map Int.toNat)[i]?.getD 0 = (zs.getD i 0).toNat := by
          simp [hi', hiz]
        rw [e2]
        have e3 := wf_u8 (hw (zs.getD i 0) (by
          have : zs.getD i 0 = zs[i] := by simp [List.getD, hiz]
          rw [this]; exact List.getElem_mem hiz))
        rw [Int.toNat_of_nonneg e3.1]
    · intro x hx
      obtain ⟨z, hz2, rfl⟩ := List.mem_map.1 hx
      have := wf_u8 (hw z (List.mem_of_mem_take hz2))
      omega
end Go.Proofs.Ytlciocebbckdcaa.Pf
