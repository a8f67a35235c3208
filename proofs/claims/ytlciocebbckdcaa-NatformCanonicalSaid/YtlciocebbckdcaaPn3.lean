/- A part of the proofs, joined of smaller texts: Fk, Ft, Fm, Fu, Fo, Ra, Rb, Rc, Rd, Re, Rg, Rh, Ri, Rj, Rk. -/
import Derived.Test.YtlciocebbckdcaaPn2
import Derived.Deep.Cut
import Derived.Laws.CopyOwn
import Derived.Laws.AppendOwnNone

/- The contracts of natform's FromBytes and worth. -/
namespace Go.Proofs.Ytlciocebbckdcaa.Ff
open Go.RowKit Go.Shelf Go.Proofs.Ytlciocebbckdcaa.Nm Go.Proofs.Ytlciocebbckdcaa.Ne Go.Proofs.Ytlciocebbckdcaa.Nf Go.Proofs.Ytlciocebbckdcaa.Nk Go.Proofs.Ytlciocebbckdcaa.Nv Go.Proofs.Ytlciocebbckdcaa.Nr2 Go.Proofs.Ytlciocebbckdcaa.Kr Go.Proofs.Ytlciocebbckdcaa.Fb

set_option linter.unusedSimpArgs false in
set_option maxRecDepth 100000 in
set_option maxHeartbeats 16000000 in
theorem frombytes_big {pl : Option Addr} {nl cl : Nat} {l : List Nat} {w : World} (hl : Bt w pl nl cl l) (hg : 1000 < nl) :
    Calls Try.prog 65 #[.slice pl nl cl] w fun e w' => HasE 0 5 w e w' := by
  have HG := hg
  have h2 := hl.small
  have H := Sta.start w
  replace H := H.add (keepB _ _ _ _) hl
  go_enter Try.func65, Try.ntmps65
  go_upto_region 0 with fail
  refine Kr.seqStartW ?_
  refine Kr.seqR (by rfl) (fun K hK => ?_)
  go_simp
  obtain ⟨y1, hy⟩ : ∃ y, w.alloc (.cells #[.slice none 0 0] 24) = y := ⟨_, rfl⟩
  obtain ⟨br, hb⟩ : ∃ b, w.heap.size = b := ⟨_, rfl⟩
  rw [hy, hb]
  replace H := H.alloc hy hb rfl
  clear hy hb
  (refine Kr.outS hK (a' := ?_) ?_ ?_; rotate_left; (focus ((try simp only [Act.put, List.getElem_toArray, List.getElem_cons_zero, List.getElem_cons_succ, List.setIfInBounds_toArray, List.set_cons_zero, List.set_cons_succ]); first | done | rfl))); clear hK K
  (refine Kr.seqQ (v := ?_) (a' := ?_) (by rfl) ?_ ?_ ?_; rotate_left 2; (focus (go_simp; first | done | rfl)); (focus ((try simp only [Act.put, List.getElem_toArray, List.getElem_cons_zero, List.getElem_cons_succ, List.setIfInBounds_toArray, List.set_cons_zero, List.set_cons_succ]); first | done | rfl)))
  refine Kr.seqDoneW ?_
  go_upto_region 1 with fail
  refine Kr.seqStartW ?_
  iterate 3 (refine Kr.seqQ (v := ?_) (a' := ?_) (by rfl) ?_ ?_ ?_; rotate_left 2; (focus (go_simp; first | done | rfl)); (focus ((try simp only [Act.put, List.getElem_toArray, List.getElem_cons_zero, List.getElem_cons_succ, List.setIfInBounds_toArray, List.set_cons_zero, List.set_cons_succ]); first | done | rfl)))
  refine Kr.seqDoneW ?_
  go_upto_region 2 with fail
  refine Kr.seqStartW ?_
  (refine Kr.seqQ (v := ?_) (a' := ?_) (by rfl) ?_ ?_ ?_; rotate_left 2; (focus (go_simp; first | done | rfl)); (focus ((try simp only [Act.put, List.getElem_toArray, List.getElem_cons_zero, List.getElem_cons_succ, List.setIfInBounds_toArray, List.set_cons_zero, List.set_cons_succ]); first | done | rfl)))
  have hk := H.c
  simp only [Kr.Cells] at hk
  refine Kr.seqR (by rfl) (fun K hK => ?_)
  go_simp
  clear hk
  obtain ⟨y2, hy⟩ : ∃ y, y1.setCell ⟨br, 0, none⟩ (.slice none 0 0) = y := ⟨_, rfl⟩
  rw [hy]
  replace H := H.store 0 hy rfl rfl
  dsimp only [List.set] at H
  clear hy
  (refine Kr.outS hK (a' := ?_) ?_ ?_; rotate_left; (focus ((try simp only [Act.put, List.getElem_toArray, List.getElem_cons_zero, List.getElem_cons_succ, List.setIfInBounds_toArray, List.set_cons_zero, List.set_cons_succ]); first | done | rfl))); clear hK K
  (refine Kr.seqQ (v := ?_) (a' := ?_) (by rfl) ?_ ?_ ?_; rotate_left 2; (focus (go_simp; first | done | rfl)); (focus ((try simp only [Act.put, List.getElem_toArray, List.getElem_cons_zero, List.getElem_cons_succ, List.setIfInBounds_toArray, List.set_cons_zero, List.set_cons_succ]); first | done | rfl)))
  refine Kr.seqDoneW ?_
  have hk := H.c
  simp only [Kr.Cells] at hk
  go_wp2
  refine bodyPost_ret (v := .tuple #[.agg #[.slice none 0 0], .int .i64 5]) (by simp [results, Try.results65, go_sem, hk]) rfl ⟨none, 0, 0, rfl, nw_none _, H.g⟩
set_option linter.unusedSimpArgs false in
set_option maxRecDepth 100000 in
set_option maxHeartbeats 16000000 in
theorem frombytes_v {pl : Option Addr} {nl cl : Nat} {l : List Nat} {w : World} (hl : Bt w pl nl cl l) (hg : nl ≤ 1000) :
    Calls Try.prog 65 #[.slice pl nl cl] w fun e w' => ∃ z k, Fits (dval 256 l) z k ∧ HasE z k w e w' := by
  have HG := hg
  have h2 := hl.small
  have H := Sta.start w
  replace H := H.add (keepB _ _ _ _) hl
  go_enter Try.func65, Try.ntmps65
  go_upto_region 0 with fail
  refine Kr.seqStartW ?_
  refine Kr.seqR (by rfl) (fun K hK => ?_)
  go_simp
  obtain ⟨y1, hy⟩ : ∃ y, w.alloc (.cells #[.slice none 0 0] 24) = y := ⟨_, rfl⟩
  obtain ⟨br, hb⟩ : ∃ b, w.heap.size = b := ⟨_, rfl⟩
  rw [hy, hb]
  replace H := H.alloc hy hb rfl
  clear hy hb
  (refine Kr.outS hK (a' := ?_) ?_ ?_; rotate_left; (focus ((try simp only [Act.put, List.getElem_toArray, List.getElem_cons_zero, List.getElem_cons_succ, List.setIfInBounds_toArray, List.set_cons_zero, List.set_cons_succ]); first | done | rfl))); clear hK K
  (refine Kr.seqQ (v := ?_) (a' := ?_) (by rfl) ?_ ?_ ?_; rotate_left 2; (focus (go_simp; first | done | rfl)); (focus ((try simp only [Act.put, List.getElem_toArray, List.getElem_cons_zero, List.getElem_cons_succ, List.setIfInBounds_toArray, List.set_cons_zero, List.set_cons_succ]); first | done | rfl)))
  refine Kr.seqDoneW ?_
  go_upto_region 1 with fail
  refine Kr.seqStartW ?_
  iterate 3 (refine Kr.seqQ (v := ?_) (a' := ?_) (by rfl) ?_ ?_ ?_; rotate_left 2; (focus (go_simp; first | done | rfl)); (focus ((try simp only [Act.put, List.getElem_toArray, List.getElem_cons_zero, List.getElem_cons_succ, List.setIfInBounds_toArray, List.set_cons_zero, List.set_cons_succ]); first | done | rfl)))
  refine Kr.seqDoneW ?_
  go_upto_region 3 with fail
  refine Kr.seqStartW ?_
  (refine Kr.seqQ (v := ?_) (a' := ?_) (by rfl) ?_ ?_ ?_; rotate_left 2; (focus (go_simp; first | done | rfl)); (focus ((try simp only [Act.put, List.getElem_toArray, List.getElem_cons_zero, List.getElem_cons_succ, List.setIfInBounds_toArray, List.set_cons_zero, List.set_cons_succ]); first | done | rfl)))
  refine Kr.seqR (by rfl) (fun K hK => ?_)
  go_simp
  go_at_call 108
  refine (join_v (g := 256) (H.fact 0 rfl : B pl nl cl l y1) ⟨by decide, by decide⟩).mono ?_
  rintro e y2 ⟨z, k, HF, p2, n2, c2, rfl, hr, hg⟩
  replace HF := Lib.hid HF
  replace H := H.grow hg
  replace H := H.num hr
  clear hr hg
  (refine Kr.outS hK (a' := ?_) ?_ ?_; rotate_left; (focus ((try simp only [Act.put, List.getElem_toArray, List.getElem_cons_zero, List.getElem_cons_succ, List.setIfInBounds_toArray, List.set_cons_zero, List.set_cons_succ]); first | done | rfl))); clear hK K
  iterate 2 (refine Kr.seqQ (v := ?_) (a' := ?_) (by rfl) ?_ ?_ ?_; rotate_left 2; (focus (go_simp; first | done | rfl)); (focus ((try simp only [Act.put, List.getElem_toArray, List.getElem_cons_zero, List.getElem_cons_succ, List.setIfInBounds_toArray, List.set_cons_zero, List.set_cons_succ]); first | done | rfl)))
  have hk := H.c
  simp only [Kr.Cells] at hk
  refine Kr.seqR (by rfl) (fun K hK => ?_)
  go_simp
  clear hk
  obtain ⟨y3, hy⟩ : ∃ y, y2.setCell ⟨br, 0, none⟩ (.slice p2 n2 c2) = y := ⟨_, rfl⟩
  rw [hy]
  replace H := H.store 0 hy rfl rfl
  dsimp only [List.set] at H
  clear hy
  (refine Kr.outS hK (a' := ?_) ?_ ?_; rotate_left; (focus ((try simp only [Act.put, List.getElem_toArray, List.getElem_cons_zero, List.getElem_cons_succ, List.setIfInBounds_toArray, List.set_cons_zero, List.set_cons_succ]); first | done | rfl))); clear hK K
  (refine Kr.seqQ (v := ?_) (a' := ?_) (by rfl) ?_ ?_ ?_; rotate_left 2; (focus (go_simp; first | done | rfl)); (focus ((try simp only [Act.put, List.getElem_toArray, List.getElem_cons_zero, List.getElem_cons_succ, List.setIfInBounds_toArray, List.set_cons_zero, List.set_cons_succ]); first | done | rfl)))
  refine Kr.seqDoneW ?_
  have hk := H.c
  simp only [Kr.Cells] at hk
  go_wp2
  refine bodyPost_ret (v := .tuple #[.agg #[.slice p2 n2 c2], .int .i64 (k : Int)]) (by simp [results, Try.results65, go_sem, hk]) rfl ⟨z, k, HF.out, p2, n2, c2, rfl, H.nw 0 rfl, H.g⟩
/-- What a character is worth as a digit. -/
def wv (c : Nat) : Nat := if 48 ≤ c ∧ c ≤ 57 then c - 48 else if 97 ≤ c ∧ c ≤ 102 then c - 87 else 255
set_option linter.unusedSimpArgs false in
set_option maxRecDepth 100000 in
set_option maxHeartbeats 16000000 in
theorem worth_0 {c : Nat} {w : World} (hc : c < 256) (h : c < 48) :
    Calls Try.prog 125 #[.int .u8 (c : Int)] w fun e w' => e = .returned (.int .u8 ((wv c : Nat) : Int)) ∧ Gr w w' := by
  have f0 : ¬ (48 : Int) ≤ (c : Int) := by omega
  have f1 : ¬ (97 : Int) ≤ (c : Int) := by omega
  have fv : ((wv c : Nat) : Int) = 255 := by unfold wv; split <;> (try split) <;> omega
  have H := Sta.start w
  go_enter Try.func125, Try.ntmps125
  go_upto_region 0 with fail
  refine Kr.seqStartW ?_
  (refine Kr.seqQ (v := ?_) (a' := ?_) (by rfl) ?_ ?_ ?_; rotate_left 2; (focus (go_simp; first | done | rfl)); (focus ((try simp only [Act.put, List.getElem_toArray, List.getElem_cons_zero, List.getElem_cons_succ, List.setIfInBounds_toArray, List.set_cons_zero, List.set_cons_succ]); first | done | rfl)))
  refine Kr.seqDoneW ?_
  go_upto_region 1 with fail
  refine Kr.seqStartW ?_
  iterate 3 (refine Kr.seqQ (v := ?_) (a' := ?_) (by rfl) ?_ ?_ ?_; rotate_left 2; (focus (go_simp; first | done | rfl)); (focus ((try simp only [Act.put, List.getElem_toArray, List.getElem_cons_zero, List.getElem_cons_succ, List.setIfInBounds_toArray, List.set_cons_zero, List.set_cons_succ]); first | done | rfl)))
  (refine Kr.seqSkipQ (a' := ?_) (by rfl) ?_ ?_; rotate_left; (focus ((try simp only [Act.put, List.getElem_toArray, List.getElem_cons_zero, List.getElem_cons_succ, List.setIfInBounds_toArray, List.set_cons_zero, List.set_cons_succ]); first | done | rfl)))
  (refine Kr.seqSkipQ (a' := ?_) (by rfl) ?_ ?_; rotate_left; (focus ((try simp only [Act.put, List.getElem_toArray, List.getElem_cons_zero, List.getElem_cons_succ, List.setIfInBounds_toArray, List.set_cons_zero, List.set_cons_succ]); first | done | rfl)))
  iterate 2 (refine Kr.seqQ (v := ?_) (a' := ?_) (by rfl) ?_ ?_ ?_; rotate_left 2; (focus (go_simp; first | done | rfl)); (focus ((try simp only [Act.put, List.getElem_toArray, List.getElem_cons_zero, List.getElem_cons_succ, List.setIfInBounds_toArray, List.set_cons_zero, List.set_cons_succ]); first | done | rfl)))
  refine Kr.seqDoneW ?_
  go_upto_region 3 with fail
  refine Kr.seqStartW ?_
  iterate 3 (refine Kr.seqQ (v := ?_) (a' := ?_) (by rfl) ?_ ?_ ?_; rotate_left 2; (focus (go_simp; first | done | rfl)); (focus ((try simp only [Act.put, List.getElem_toArray, List.getElem_cons_zero, List.getElem_cons_succ, List.setIfInBounds_toArray, List.set_cons_zero, List.set_cons_succ]); first | done | rfl)))
  (refine Kr.seqSkipQ (a' := ?_) (by rfl) ?_ ?_; rotate_left; (focus ((try simp only [Act.put, List.getElem_toArray, List.getElem_cons_zero, List.getElem_cons_succ, List.setIfInBounds_toArray, List.set_cons_zero, List.set_cons_succ]); first | done | rfl)))
  (refine Kr.seqSkipQ (a' := ?_) (by rfl) ?_ ?_; rotate_left; (focus ((try simp only [Act.put, List.getElem_toArray, List.getElem_cons_zero, List.getElem_cons_succ, List.setIfInBounds_toArray, List.set_cons_zero, List.set_cons_succ]); first | done | rfl)))
  iterate 2 (refine Kr.seqQ (v := ?_) (a' := ?_) (by rfl) ?_ ?_ ?_; rotate_left 2; (focus (go_simp; first | done | rfl)); (focus ((try simp only [Act.put, List.getElem_toArray, List.getElem_cons_zero, List.getElem_cons_succ, List.setIfInBounds_toArray, List.set_cons_zero, List.set_cons_succ]); first | done | rfl)))
  refine Kr.seqDoneW ?_
  go_upto_region 5 with fail
  refine Kr.seqStartW ?_
  (refine Kr.seqQ (v := ?_) (a' := ?_) (by rfl) ?_ ?_ ?_; rotate_left 2; (focus (go_simp; first | done | rfl)); (focus ((try simp only [Act.put, List.getElem_toArray, List.getElem_cons_zero, List.getElem_cons_succ, List.setIfInBounds_toArray, List.set_cons_zero, List.set_cons_succ]); first | done | rfl)))
  refine Kr.seqDoneW ?_
  have hk : True := trivial
  go_wp2
  refine bodyPost_ret (v := .int .u8 (255)) (by simp [results, Try.results125, go_sem, hk]) rfl ⟨by first | rfl | rw [fv], H.g⟩
set_option linter.unusedSimpArgs false in
set_option maxRecDepth 100000 in
set_option maxHeartbeats 16000000 in
theorem worth_1 {c : Nat} {w : World} (hc : c < 256) (h : 48 ≤ c ∧ c ≤ 57) :
    Calls Try.prog 125 #[.int .u8 (c : Int)] w fun e w' => e = .returned (.int .u8 ((wv c : Nat) : Int)) ∧ Gr w w' := by
  have f0 : (48 : Int) ≤ (c : Int) := by omega
  have f1 : (c : Int) ≤ 57 := by omega
  have fw : IntKind.u8.wrap ((c : Int) - 48) = (c : Int) - 48 := IntWalk.u8_in _ (by omega)
  have fv : ((wv c : Nat) : Int) = (c : Int) - 48 := by unfold wv; split <;> omega
  have H := Sta.start w
  go_enter Try.func125, Try.ntmps125
  go_upto_region 0 with fail
  refine Kr.seqStartW ?_
  (refine Kr.seqQ (v := ?_) (a' := ?_) (by rfl) ?_ ?_ ?_; rotate_left 2; (focus (go_simp; first | done | rfl)); (focus ((try simp only [Act.put, List.getElem_toArray, List.getElem_cons_zero, List.getElem_cons_succ, List.setIfInBounds_toArray, List.set_cons_zero, List.set_cons_succ]); first | done | rfl)))
  refine Kr.seqDoneW ?_
  go_upto_region 1 with fail
  refine Kr.seqStartW ?_
  iterate 7 (refine Kr.seqQ (v := ?_) (a' := ?_) (by rfl) ?_ ?_ ?_; rotate_left 2; (focus (go_simp; first | done | rfl)); (focus ((try simp only [Act.put, List.getElem_toArray, List.getElem_cons_zero, List.getElem_cons_succ, List.setIfInBounds_toArray, List.set_cons_zero, List.set_cons_succ]); first | done | rfl)))
  refine Kr.seqDoneW ?_
  go_upto_region 2 with fail
  refine Kr.seqStartW ?_
  iterate 3 (refine Kr.seqQ (v := ?_) (a' := ?_) (by rfl) ?_ ?_ ?_; rotate_left 2; (focus (go_simp; first | done | rfl)); (focus ((try simp only [Act.put, List.getElem_toArray, List.getElem_cons_zero, List.getElem_cons_succ, List.setIfInBounds_toArray, List.set_cons_zero, List.set_cons_succ]); first | done | rfl)))
  refine Kr.seqDoneW ?_
  have hk : True := trivial
  go_wp2
  refine bodyPost_ret (v := .int .u8 ((c : Int) - 48)) (by simp [results, Try.results125, go_sem, hk]) rfl ⟨by first | rfl | rw [fv], H.g⟩
set_option linter.unusedSimpArgs false in
set_option maxRecDepth 100000 in
set_option maxHeartbeats 16000000 in
theorem worth_2 {c : Nat} {w : World} (hc : c < 256) (h : 57 < c ∧ c < 97) :
    Calls Try.prog 125 #[.int .u8 (c : Int)] w fun e w' => e = .returned (.int .u8 ((wv c : Nat) : Int)) ∧ Gr w w' := by
  have f0 : (48 : Int) ≤ (c : Int) := by omega
  have f1 : ¬ (c : Int) ≤ 57 := by omega
  have f2 : ¬ (97 : Int) ≤ (c : Int) := by omega
  have fv : ((wv c : Nat) : Int) = 255 := by unfold wv; split <;> (try split) <;> omega
  have H := Sta.start w
  go_enter Try.func125, Try.ntmps125
  go_upto_region 0 with fail
  refine Kr.seqStartW ?_
  (refine Kr.seqQ (v := ?_) (a' := ?_) (by rfl) ?_ ?_ ?_; rotate_left 2; (focus (go_simp; first | done | rfl)); (focus ((try simp only [Act.put, List.getElem_toArray, List.getElem_cons_zero, List.getElem_cons_succ, List.setIfInBounds_toArray, List.set_cons_zero, List.set_cons_succ]); first | done | rfl)))
  refine Kr.seqDoneW ?_
  go_upto_region 1 with fail
  refine Kr.seqStartW ?_
  iterate 7 (refine Kr.seqQ (v := ?_) (a' := ?_) (by rfl) ?_ ?_ ?_; rotate_left 2; (focus (go_simp; first | done | rfl)); (focus ((try simp only [Act.put, List.getElem_toArray, List.getElem_cons_zero, List.getElem_cons_succ, List.setIfInBounds_toArray, List.set_cons_zero, List.set_cons_succ]); first | done | rfl)))
  refine Kr.seqDoneW ?_
  go_upto_region 3 with fail
  refine Kr.seqStartW ?_
  iterate 3 (refine Kr.seqQ (v := ?_) (a' := ?_) (by rfl) ?_ ?_ ?_; rotate_left 2; (focus (go_simp; first | done | rfl)); (focus ((try simp only [Act.put, List.getElem_toArray, List.getElem_cons_zero, List.getElem_cons_succ, List.setIfInBounds_toArray, List.set_cons_zero, List.set_cons_succ]); first | done | rfl)))
  (refine Kr.seqSkipQ (a' := ?_) (by rfl) ?_ ?_; rotate_left; (focus ((try simp only [Act.put, List.getElem_toArray, List.getElem_cons_zero, List.getElem_cons_succ, List.setIfInBounds_toArray, List.set_cons_zero, List.set_cons_succ]); first | done | rfl)))
  (refine Kr.seqSkipQ (a' := ?_) (by rfl) ?_ ?_; rotate_left; (focus ((try simp only [Act.put, List.getElem_toArray, List.getElem_cons_zero, List.getElem_cons_succ, List.setIfInBounds_toArray, List.set_cons_zero, List.set_cons_succ]); first | done | rfl)))
  iterate 2 (refine Kr.seqQ (v := ?_) (a' := ?_) (by rfl) ?_ ?_ ?_; rotate_left 2; (focus (go_simp; first | done | rfl)); (focus ((try simp only [Act.put, List.getElem_toArray, List.getElem_cons_zero, List.getElem_cons_succ, List.setIfInBounds_toArray, List.set_cons_zero, List.set_cons_succ]); first | done | rfl)))
  refine Kr.seqDoneW ?_
  go_upto_region 5 with fail
  refine Kr.seqStartW ?_
  (refine Kr.seqQ (v := ?_) (a' := ?_) (by rfl) ?_ ?_ ?_; rotate_left 2; (focus (go_simp; first | done | rfl)); (focus ((try simp only [Act.put, List.getElem_toArray, List.getElem_cons_zero, List.getElem_cons_succ, List.setIfInBounds_toArray, List.set_cons_zero, List.set_cons_succ]); first | done | rfl)))
  refine Kr.seqDoneW ?_
  have hk : True := trivial
  go_wp2
  refine bodyPost_ret (v := .int .u8 (255)) (by simp [results, Try.results125, go_sem, hk]) rfl ⟨by first | rfl | rw [fv], H.g⟩
set_option linter.unusedSimpArgs false in
set_option maxRecDepth 100000 in
set_option maxHeartbeats 16000000 in
theorem worth_3 {c : Nat} {w : World} (hc : c < 256) (h : 97 ≤ c ∧ c ≤ 102) :
    Calls Try.prog 125 #[.int .u8 (c : Int)] w fun e w' => e = .returned (.int .u8 ((wv c : Nat) : Int)) ∧ Gr w w' := by
  have f0 : (48 : Int) ≤ (c : Int) := by omega
  have f1 : ¬ (c : Int) ≤ 57 := by omega
  have f2 : (97 : Int) ≤ (c : Int) := by omega
  have f3 : (c : Int) ≤ 102 := by omega
  have fw : IntKind.u8.wrap ((c : Int) - 97) = (c : Int) - 97 := IntWalk.u8_in _ (by omega)
  have fx : IntKind.u8.wrap ((c : Int) - 97 + 10) = (c : Int) - 87 := by rw [IntWalk.u8_in _ (by omega)]; omega
  have fv : ((wv c : Nat) : Int) = (c : Int) - 87 := by unfold wv; split <;> (try split) <;> omega
  have H := Sta.start w
  go_enter Try.func125, Try.ntmps125
  go_upto_region 0 with fail
  refine Kr.seqStartW ?_
  (refine Kr.seqQ (v := ?_) (a' := ?_) (by rfl) ?_ ?_ ?_; rotate_left 2; (focus (go_simp; first | done | rfl)); (focus ((try simp only [Act.put, List.getElem_toArray, List.getElem_cons_zero, List.getElem_cons_succ, List.setIfInBounds_toArray, List.set_cons_zero, List.set_cons_succ]); first | done | rfl)))
  refine Kr.seqDoneW ?_
  go_upto_region 1 with fail
  refine Kr.seqStartW ?_
  iterate 7 (refine Kr.seqQ (v := ?_) (a' := ?_) (by rfl) ?_ ?_ ?_; rotate_left 2; (focus (go_simp; first | done | rfl)); (focus ((try simp only [Act.put, List.getElem_toArray, List.getElem_cons_zero, List.getElem_cons_succ, List.setIfInBounds_toArray, List.set_cons_zero, List.set_cons_succ]); first | done | rfl)))
  refine Kr.seqDoneW ?_
  go_upto_region 3 with fail
  refine Kr.seqStartW ?_
  iterate 7 (refine Kr.seqQ (v := ?_) (a' := ?_) (by rfl) ?_ ?_ ?_; rotate_left 2; (focus (go_simp; first | done | rfl)); (focus ((try simp only [Act.put, List.getElem_toArray, List.getElem_cons_zero, List.getElem_cons_succ, List.setIfInBounds_toArray, List.set_cons_zero, List.set_cons_succ]); first | done | rfl)))
  refine Kr.seqDoneW ?_
  go_upto_region 4 with fail
  refine Kr.seqStartW ?_
  iterate 4 (refine Kr.seqQ (v := ?_) (a' := ?_) (by rfl) ?_ ?_ ?_; rotate_left 2; (focus (go_simp; first | done | rfl)); (focus ((try simp only [Act.put, List.getElem_toArray, List.getElem_cons_zero, List.getElem_cons_succ, List.setIfInBounds_toArray, List.set_cons_zero, List.set_cons_succ]); first | done | rfl)))
  refine Kr.seqDoneW ?_
  have hk : True := trivial
  go_wp2
  refine bodyPost_ret (v := .int .u8 ((c : Int) - 87)) (by simp [results, Try.results125, go_sem, hk]) rfl ⟨by first | rfl | rw [fv], H.g⟩
set_option linter.unusedSimpArgs false in
set_option maxRecDepth 100000 in
set_option maxHeartbeats 16000000 in
theorem worth_4 {c : Nat} {w : World} (hc : c < 256) (h : 102 < c) :
    Calls Try.prog 125 #[.int .u8 (c : Int)] w fun e w' => e = .returned (.int .u8 ((wv c : Nat) : Int)) ∧ Gr w w' := by
  have f0 : (48 : Int) ≤ (c : Int) := by omega
  have f1 : ¬ (c : Int) ≤ 57 := by omega
  have f2 : (97 : Int) ≤ (c : Int) := by omega
  have f3 : ¬ (c : Int) ≤ 102 := by omega
  have fv : ((wv c : Nat) : Int) = 255 := by unfold wv; split <;> (try split) <;> omega
  have H := Sta.start w
  go_enter Try.func125, Try.ntmps125
  go_upto_region 0 with fail
  refine Kr.seqStartW ?_
  (refine Kr.seqQ (v := ?_) (a' := ?_) (by rfl) ?_ ?_ ?_; rotate_left 2; (focus (go_simp; first | done | rfl)); (focus ((try simp only [Act.put, List.getElem_toArray, List.getElem_cons_zero, List.getElem_cons_succ, List.setIfInBounds_toArray, List.set_cons_zero, List.set_cons_succ]); first | done | rfl)))
  refine Kr.seqDoneW ?_
  go_upto_region 1 with fail
  refine Kr.seqStartW ?_
  iterate 7 (refine Kr.seqQ (v := ?_) (a' := ?_) (by rfl) ?_ ?_ ?_; rotate_left 2; (focus (go_simp; first | done | rfl)); (focus ((try simp only [Act.put, List.getElem_toArray, List.getElem_cons_zero, List.getElem_cons_succ, List.setIfInBounds_toArray, List.set_cons_zero, List.set_cons_succ]); first | done | rfl)))
  refine Kr.seqDoneW ?_
  go_upto_region 3 with fail
  refine Kr.seqStartW ?_
  iterate 7 (refine Kr.seqQ (v := ?_) (a' := ?_) (by rfl) ?_ ?_ ?_; rotate_left 2; (focus (go_simp; first | done | rfl)); (focus ((try simp only [Act.put, List.getElem_toArray, List.getElem_cons_zero, List.getElem_cons_succ, List.setIfInBounds_toArray, List.set_cons_zero, List.set_cons_succ]); first | done | rfl)))
  refine Kr.seqDoneW ?_
  go_upto_region 5 with fail
  refine Kr.seqStartW ?_
  (refine Kr.seqQ (v := ?_) (a' := ?_) (by rfl) ?_ ?_ ?_; rotate_left 2; (focus (go_simp; first | done | rfl)); (focus ((try simp only [Act.put, List.getElem_toArray, List.getElem_cons_zero, List.getElem_cons_succ, List.setIfInBounds_toArray, List.set_cons_zero, List.set_cons_succ]); first | done | rfl)))
  refine Kr.seqDoneW ?_
  have hk : True := trivial
  go_wp2
  refine bodyPost_ret (v := .int .u8 (255)) (by simp [results, Try.results125, go_sem, hk]) rfl ⟨by first | rfl | rw [fv], H.g⟩
theorem worth_v {c : Nat} {w : World} (hc : c < 256) :
    Calls Try.prog 125 #[.int .u8 (c : Int)] w fun e w' => e = .returned (.int .u8 ((wv c : Nat) : Int)) ∧ Gr w w' := by
  by_cases h1 : c < 48
  · exact worth_0 hc h1
  by_cases h2 : c ≤ 57
  · exact worth_1 hc ⟨by omega, h2⟩
  by_cases h3 : c < 97
  · exact worth_2 hc ⟨by omega, h3⟩
  by_cases h4 : c ≤ 102
  · exact worth_3 hc ⟨by omega, h4⟩
  exact worth_4 hc (by omega)
end Go.Proofs.Ytlciocebbckdcaa.Ff


/- Layer 4 as plain lists: the string of a number, the number of a string, its bytes. -/
namespace Go.Proofs.Ytlciocebbckdcaa.Fb
open Go Go.RowKit Go.Proofs.Ytlciocebbckdcaa.Nm Go.Proofs.Ytlciocebbckdcaa.Ne Go.Proofs.Ytlciocebbckdcaa.Nf Go.Proofs.Ytlciocebbckdcaa.Nk Go.Proofs.Ytlciocebbckdcaa.Nr2 Go.Proofs.Ytlciocebbckdcaa.Nv Go.Proofs.Ytlciocebbckdcaa.Kr Go.Proofs.Ytlciocebbckdcaa.Ff

/-- The first k changed, the others as they were. -/
def mix (f : Nat → Nat) (L : List Nat) (k : Nat) : List Nat := (L.take k).map f ++ L.drop k
theorem mix_zero (f : Nat → Nat) (L : List Nat) : mix f L 0 = L := by simp [mix]
theorem mix_all (f : Nat → Nat) (L : List Nat) : mix f L L.length = L.map f := by simp [mix]
theorem mix_len (f : Nat → Nat) (L : List Nat) (k : Nat) : (mix f L k).length = L.length := by simp [mix]; omega
theorem mix_get {f : Nat → Nat} {L : List Nat} {k : Nat} (h : k < L.length) : (mix f L k)[k]?.getD 0 = L[k]?.getD 0 := by
  have h1 : ((L.take k).map f).length = k := by simp; omega
  simp only [mix]
  rw [List.getElem?_append_right (by omega), h1, Nat.sub_self, List.getElem?_drop, Nat.add_zero]
theorem mix_set {f : Nat → Nat} {L : List Nat} {k : Nat} (h : k < L.length) : (mix f L k).set k (f (L[k]?.getD 0)) = mix f L (k + 1) := by
  have h1 : ((L.take k).map f).length = k := by simp; omega
  simp only [mix]
  rw [List.set_append_right _ _ (by omega), h1, Nat.sub_self, List.drop_eq_getElem_cons h, List.set_cons_zero, List.take_add_one, List.getElem?_eq_getElem h, List.map_append, List.append_assoc]
  rfl
theorem mix_got {f : Nat → Nat} {L : List Nat} {k : Nat} (h : k < L.length) : (mix f L (k + 1))[k]?.getD 0 = f (L[k]?.getD 0) := by
  rw [← mix_set h]
  simp [mix_len, h]
theorem get_mem {L : List Nat} {k : Nat} (h : k < L.length) : L[k]?.getD 0 ∈ L := by
  rw [List.getElem?_eq_getElem h]
  exact List.getElem_mem _
/-- The character of a digit. -/
def sm (d : Nat) : Nat := if d < 10 then 48 + d else 87 + d
theorem run_sym {P : Program} {t : TypeId} (ht : P.underlying t = some .string) {d : Nat} (h : d < 16) (k : IntKind) (w : World) : (Instr.index t (.string ⟨#[48, 49, 50, 51, 52, 53, 54, 55, 56, 57, 97, 98, 99, 100, 101, 102]⟩) (.int k (d : Int))).run P w = .ok (.int .u8 ((sm d : Nat) : Int)) w := by
  rw [run_at ht k _ (show d < 16 from h)]
  congr 3
  clear ht
  revert h
  have hh : ∀ d : Fin 16, (bs ⟨#[48, 49, 50, 51, 52, 53, 54, 55, 56, 57, 97, 98, 99, 100, 101, 102]⟩)[d.val]?.getD 0 = sm d.val := by decide
  exact fun h => hh ⟨_, h⟩
theorem sm_lt {d : Nat} (h : d < 16) : sm d < 256 := by unfold sm; split <;> omega
/-- The string of a number. -/
def txt (g x : Nat) : List Nat := if x = 0 then [48] else (low g x).reverse.map sm
theorem txt_lt {g : Nat} (h1 : 2 ≤ g) (h2 : g ≤ 16) (x : Nat) : ∀ c ∈ txt g x, c < 256 := by
  unfold txt
  split
  · intro c hc
    rw [List.mem_singleton.1 hc]; decide
  · intro c hc
    obtain ⟨d, hd, rfl⟩ := List.mem_map.1 hc
    exact sm_lt (Nat.lt_of_lt_of_le (low_lt h1 x d (List.mem_reverse.1 hd)) h2)
theorem low_ne {g x : Nat} (hg : 2 ≤ g) (hx : x ≠ 0) : (low g x).reverse ≠ [] := by
  intro h
  exact hx (low_nil hg (by simpa using h))
/-- A string that is none of a number in the base g. -/
def Bad (g : Nat) (l : List Nat) : Prop := l = [] ∨ (l.head? = some 48 ∧ l ≠ [48]) ∨ ∃ c ∈ l, g ≤ wv c
/-- What a string is read as. -/
def Parsed (g : Nat) (l : List Nat) (z k : Nat) : Prop :=
  (1000 < l.length ∧ z = 0 ∧ k = 5) ∨ (l.length ≤ 1000 ∧ Bad g l ∧ z = 0 ∧ k = 3) ∨ (l.length ≤ 1000 ∧ ¬ Bad g l ∧ Fits (dval g (l.map wv)) z k)
theorem fits_eq {x z k z' k' : Nat} (h : Fits x z k) (h' : Fits x z' k') : z = z' ∧ k = k' := by
  rcases h with ⟨h, rfl, rfl⟩ | ⟨h, rfl, rfl⟩ <;> rcases h' with ⟨h', rfl, rfl⟩ | ⟨h', rfl, rfl⟩
  · exact ⟨rfl, rfl⟩
  · omega
  · omega
  · exact ⟨rfl, rfl⟩
theorem parsed_eq {g : Nat} {l : List Nat} {z k z' k' : Nat} (h : Parsed g l z k) (h' : Parsed g l z' k') : z = z' ∧ k = k' := by
  rcases h with ⟨h1, rfl, rfl⟩ | ⟨h1, h2, rfl, rfl⟩ | ⟨h1, h2, h3⟩ <;> rcases h' with ⟨h1', rfl, rfl⟩ | ⟨h1', h2', rfl, rfl⟩ | ⟨h1', h2', h3'⟩
  · exact ⟨rfl, rfl⟩
  · omega
  · omega
  · omega
  · exact ⟨rfl, rfl⟩
  · exact absurd h2 h2'
  · omega
  · exact absurd h2' h2
  · exact fits_eq h3 h3'
theorem wv_lt (c : Nat) (h : c < 256) : wv c < 256 := by unfold wv; split <;> (try split) <;> omega
theorem wv_sm {d : Nat} (h : d < 16) : wv (sm d) = d := by
  unfold wv sm
  by_cases h1 : d < 10
  · rw [if_pos h1, if_pos (by omega)]; omega
  · rw [if_neg h1, if_neg (by omega), if_pos (by omega)]; omega
/-- The bytes of a number in so many places. -/
def pad (n : Nat) (l : List Nat) : List Nat := List.replicate (n - l.length) 0 ++ l
theorem pad_len {n : Nat} {l : List Nat} (h : l.length ≤ n) : (pad n l).length = n := by simp [pad]; omega
theorem pad_lt {n : Nat} {l : List Nat} (h : ∀ x ∈ l, x < 256) : ∀ x ∈ pad n l, x < 256 := by
  intro x hx
  rcases List.mem_append.1 hx with hx | hx
  · rw [List.eq_of_mem_replicate hx]; decide
  · exact h x hx
theorem dval_from (g : Nat) (l : List Nat) : ∀ a, l.foldl (fun a d => a * g + d) a = a * g ^ l.length + dval g l := by
  induction l with
  | nil => intro a; simp [dval]
  | cons d l ih =>
    intro a
    have h := ih d
    simp only [List.foldl_cons, List.length_cons, dval, Nat.zero_mul, Nat.zero_add]
    rw [ih (a * g + d), h, Nat.add_mul, Nat.pow_succ', Nat.mul_assoc, Nat.add_assoc]
theorem dval_append (g : Nat) (l m : List Nat) : dval g (l ++ m) = dval g l * g ^ m.length + dval g m := by
  rw [dval, List.foldl_append, dval_from]; rfl
theorem dval_zeros (g n : Nat) : dval g (List.replicate n 0) = 0 := by
  induction n with
  | zero => rfl
  | succ n ih => rw [List.replicate_succ', dval_snoc, ih]; simp
theorem dval_pad (g n : Nat) (l : List Nat) : dval g (pad n l) = dval g l := by
  rw [pad, dval_append, dval_zeros]; simp
theorem dval_cons (g d : Nat) (l : List Nat) : dval g (d :: l) = d * g ^ l.length + dval g l := by
  have := dval_append g [d] l
  rwa [show dval g [d] = d by simp [dval]] at this
theorem dval_lt {g : Nat} (l : List Nat) (h : ∀ d ∈ l, d < g) : dval g l < g ^ l.length := by
  induction l with
  | nil => simp [dval]
  | cons d l ih =>
    rw [dval_cons, List.length_cons, Nat.pow_succ']
    have h1 := ih fun e he => h e (List.mem_cons_of_mem _ he)
    have h2 := h d (List.mem_cons_self ..)
    have h3 := Nat.mul_le_mul_right (g ^ l.length) (show d + 1 ≤ g from h2)
    rw [Nat.add_mul, Nat.one_mul] at h3
    omega
theorem dval_inj {g : Nat} : ∀ {l m : List Nat}, l.length = m.length → (∀ d ∈ l, d < g) → (∀ d ∈ m, d < g) → dval g l = dval g m → l = m
  | [], [], _, _, _, _ => rfl
  | [], _ :: _, h, _, _, _ => by simp at h
  | _ :: _, [], h, _, _, _ => by simp at h
  | a :: l, b :: m, h, h1, h2, h3 => by
    have hl : l.length = m.length := by simpa using h
    have l1 := dval_lt l fun e he => h1 e (List.mem_cons_of_mem _ he)
    have l2 := dval_lt m fun e he => h2 e (List.mem_cons_of_mem _ he)
    rw [dval_cons, dval_cons, ← hl] at h3
    rw [← hl] at l2
    have e : a = b := by
      have q1 := congrArg (· / g ^ l.length) h3
      rwa [Nat.mul_comm a, Nat.mul_comm b, Nat.mul_add_div (by omega), Nat.mul_add_div (by omega), Nat.div_eq_of_lt l1, Nat.div_eq_of_lt l2] at q1
    subst e
    rw [dval_inj hl (fun e he => h1 e (List.mem_cons_of_mem _ he)) (fun e he => h2 e (List.mem_cons_of_mem _ he)) (by omega)]
end Go.Proofs.Ytlciocebbckdcaa.Fb


/- The contract of natform's write. -/
namespace Go.Proofs.Ytlciocebbckdcaa.Ff
open Go.RowKit Go.Shelf Go.Proofs.Ytlciocebbckdcaa.Nm Go.Proofs.Ytlciocebbckdcaa.Ne Go.Proofs.Ytlciocebbckdcaa.Nf Go.Proofs.Ytlciocebbckdcaa.Nk Go.Proofs.Ytlciocebbckdcaa.Nv Go.Proofs.Ytlciocebbckdcaa.Nr2 Go.Proofs.Ytlciocebbckdcaa.Kr Go.Proofs.Ytlciocebbckdcaa.Fb

set_option linter.unusedSimpArgs false in
set_option maxRecDepth 100000 in
set_option maxHeartbeats 16000000 in
theorem write_bad {pn : Option Addr} {nn cn g : Nat} {l : List Nat} {w : World} (hn : Nw w pn nn cn l) (hv : ¬ valid l) :
    Calls Try.prog 101 #[.agg #[.slice pn nn cn], .int .i64 (g : Int)] w fun e w' => e = .returned (.string ⟨#[]⟩) ∧ Gr w w' := by
  have HV := Lib.hid (decide_eq_false hv)
  have H := Sta.start w
  replace H := H.add (keepWs _ _ _ _) hn
  go_enter Try.func101, Try.ntmps101
  go_upto_region 0 with fail
  refine Kr.seqStartW ?_
  refine Kr.seqR (by rfl) (fun K hK => ?_)
  go_simp
  obtain ⟨y1, hy⟩ : ∃ y, w.alloc (.cells #[.slice pn nn cn] 24) = y := ⟨_, rfl⟩
  obtain ⟨bn, hb⟩ : ∃ b, w.heap.size = b := ⟨_, rfl⟩
  rw [hy, hb]
  replace H := H.alloc hy hb rfl
  clear hy hb
  (refine Kr.outS hK (a' := ?_) ?_ ?_; rotate_left; (focus ((try simp only [Act.put, List.getElem_toArray, List.getElem_cons_zero, List.getElem_cons_succ, List.setIfInBounds_toArray, List.set_cons_zero, List.set_cons_succ]); first | done | rfl))); clear hK K
  (refine Kr.seqQ (v := ?_) (a' := ?_) (by rfl) ?_ ?_ ?_; rotate_left 2; (focus (go_simp; first | done | rfl)); (focus ((try simp only [Act.put, List.getElem_toArray, List.getElem_cons_zero, List.getElem_cons_succ, List.setIfInBounds_toArray, List.set_cons_zero, List.set_cons_succ]); first | done | rfl)))
  refine Kr.seqDoneW ?_
  go_upto_region 1 with fail
  refine Kr.seqStartW ?_
  have hk := H.c
  simp only [Kr.Cells] at hk
  (refine Kr.seqQ (v := ?_) (a' := ?_) (by rfl) ?_ ?_ ?_; rotate_left 2; (focus (go_simp; first | done | rfl)); (focus ((try simp only [Act.put, List.getElem_toArray, List.getElem_cons_zero, List.getElem_cons_succ, List.setIfInBounds_toArray, List.set_cons_zero, List.set_cons_succ]); first | done | rfl)))
  refine Kr.seqR (by rfl) (fun K hK => ?_)
  go_simp
  go_at_call 80
  refine (Valid_n pn nn cn l _ (H.ws 0 rfl)).mono ?_
  rintro e y2 ⟨rfl, hg⟩
  rw [HV.out]
  clear hk
  replace H := H.grow hg
  clear hg
  (refine Kr.outS hK (a' := ?_) ?_ ?_; rotate_left; (focus ((try simp only [Act.put, List.getElem_toArray, List.getElem_cons_zero, List.getElem_cons_succ, List.setIfInBounds_toArray, List.set_cons_zero, List.set_cons_succ]); first | done | rfl))); clear hK K
  iterate 2 (refine Kr.seqQ (v := ?_) (a' := ?_) (by rfl) ?_ ?_ ?_; rotate_left 2; (focus (go_simp; first | done | rfl)); (focus ((try simp only [Act.put, List.getElem_toArray, List.getElem_cons_zero, List.getElem_cons_succ, List.setIfInBounds_toArray, List.set_cons_zero, List.set_cons_succ]); first | done | rfl)))
  refine Kr.seqDoneW ?_
  go_upto_region 2 with fail
  refine Kr.seqStartW ?_
  (refine Kr.seqQ (v := ?_) (a' := ?_) (by rfl) ?_ ?_ ?_; rotate_left 2; (focus (go_simp; first | done | rfl)); (focus ((try simp only [Act.put, List.getElem_toArray, List.getElem_cons_zero, List.getElem_cons_succ, List.setIfInBounds_toArray, List.set_cons_zero, List.set_cons_succ]); first | done | rfl)))
  refine Kr.seqDoneW ?_
  have hk := H.c
  simp only [Kr.Cells] at hk
  go_wp2
  refine bodyPost_ret (v := .string ⟨#[]⟩) (by simp [results, Try.results101, go_sem, hk]) rfl ⟨rfl, H.g⟩
set_option linter.unusedSimpArgs false in
set_option maxRecDepth 100000 in
set_option maxHeartbeats 16000000 in
theorem write_zero {pn : Option Addr} {nn cn g : Nat} {w : World} (hn : Nw w pn nn cn (digs 0)) (hx : 0 < pw 64) (hg : 2 ≤ g ∧ g ≤ 16) :
    Calls Try.prog 101 #[.agg #[.slice pn nn cn], .int .i64 (g : Int)] w fun e w' => e = .returned (.string ⟨#[48]⟩) ∧ Gr w w' := by
  have HX := Lib.hid hx; have HG := Lib.hid hg
  obtain rfl : nn = 0 := (len_zero hn).2 rfl
  have H := Sta.start w
  replace H := H.num hn
  go_enter Try.func101, Try.ntmps101
  go_upto_region 0 with fail
  refine Kr.seqStartW ?_
  refine Kr.seqR (by rfl) (fun K hK => ?_)
  go_simp
  obtain ⟨y1, hy⟩ : ∃ y, w.alloc (.cells #[.slice pn 0 cn] 24) = y := ⟨_, rfl⟩
  obtain ⟨bn, hb⟩ : ∃ b, w.heap.size = b := ⟨_, rfl⟩
  rw [hy, hb]
  replace H := H.alloc hy hb rfl
  clear hy hb
  (refine Kr.outS hK (a' := ?_) ?_ ?_; rotate_left; (focus ((try simp only [Act.put, List.getElem_toArray, List.getElem_cons_zero, List.getElem_cons_succ, List.setIfInBounds_toArray, List.set_cons_zero, List.set_cons_succ]); first | done | rfl))); clear hK K
  (refine Kr.seqQ (v := ?_) (a' := ?_) (by rfl) ?_ ?_ ?_; rotate_left 2; (focus (go_simp; first | done | rfl)); (focus ((try simp only [Act.put, List.getElem_toArray, List.getElem_cons_zero, List.getElem_cons_succ, List.setIfInBounds_toArray, List.set_cons_zero, List.set_cons_succ]); first | done | rfl)))
  refine Kr.seqDoneW ?_
  go_upto_region 1 with fail
  refine Kr.seqStartW ?_
  have hk := H.c
  simp only [Kr.Cells] at hk
  (refine Kr.seqQ (v := ?_) (a' := ?_) (by rfl) ?_ ?_ ?_; rotate_left 2; (focus (go_simp; first | done | rfl)); (focus ((try simp only [Act.put, List.getElem_toArray, List.getElem_cons_zero, List.getElem_cons_succ, List.setIfInBounds_toArray, List.set_cons_zero, List.set_cons_succ]); first | done | rfl)))
  refine Kr.seqR (by rfl) (fun K hK => ?_)
  go_simp
  go_at_call 80
  refine (Valid_v (H.nw 0 rfl) HX.out).mono ?_
  rintro e y2 ⟨rfl, hg⟩
  clear hk
  replace H := H.grow hg
  clear hg
  (refine Kr.outS hK (a' := ?_) ?_ ?_; rotate_left; (focus ((try simp only [Act.put, List.getElem_toArray, List.getElem_cons_zero, List.getElem_cons_succ, List.setIfInBounds_toArray, List.set_cons_zero, List.set_cons_succ]); first | done | rfl))); clear hK K
  iterate 2 (refine Kr.seqQ (v := ?_) (a' := ?_) (by rfl) ?_ ?_ ?_; rotate_left 2; (focus (go_simp; first | done | rfl)); (focus ((try simp only [Act.put, List.getElem_toArray, List.getElem_cons_zero, List.getElem_cons_succ, List.setIfInBounds_toArray, List.set_cons_zero, List.set_cons_succ]); first | done | rfl)))
  refine Kr.seqDoneW ?_
  go_upto_region 3 with fail
  refine Kr.seqStartW ?_
  (refine Kr.seqQ (v := ?_) (a' := ?_) (by rfl) ?_ ?_ ?_; rotate_left 2; (focus (go_simp; first | done | rfl)); (focus ((try simp only [Act.put, List.getElem_toArray, List.getElem_cons_zero, List.getElem_cons_succ, List.setIfInBounds_toArray, List.set_cons_zero, List.set_cons_succ]); first | done | rfl)))
  have hk := H.c
  simp only [Kr.Cells] at hk
  iterate 4 (refine Kr.seqQ (v := ?_) (a' := ?_) (by rfl) ?_ ?_ ?_; rotate_left 2; (focus (go_simp; first | done | rfl)); (focus ((try simp only [Act.put, List.getElem_toArray, List.getElem_cons_zero, List.getElem_cons_succ, List.setIfInBounds_toArray, List.set_cons_zero, List.set_cons_succ]); first | done | rfl)))
  clear hk
  refine Kr.seqDoneW ?_
  go_upto_region 4 with fail
  refine Kr.seqStartW ?_
  (refine Kr.seqQ (v := ?_) (a' := ?_) (by rfl) ?_ ?_ ?_; rotate_left 2; (focus (go_simp; first | done | rfl)); (focus ((try simp only [Act.put, List.getElem_toArray, List.getElem_cons_zero, List.getElem_cons_succ, List.setIfInBounds_toArray, List.set_cons_zero, List.set_cons_succ]); first | done | rfl)))
  refine Kr.seqDoneW ?_
  have hk := H.c
  simp only [Kr.Cells] at hk
  go_wp2
  refine bodyPost_ret (v := .string ⟨#[48]⟩) (by simp [results, Try.results101, go_sem, hk]) rfl ⟨rfl, H.g⟩
set_option linter.unusedSimpArgs false in
set_option maxRecDepth 100000 in
set_option maxHeartbeats 16000000 in
theorem write_pos {pn : Option Addr} {nn cn x g : Nat} {w : World} (hn : Nw w pn nn cn (digs x)) (hx : x < pw 64) (hg : 2 ≤ g ∧ g ≤ 16) (h0 : x ≠ 0) :
    Calls Try.prog 101 #[.agg #[.slice pn nn cn], .int .i64 (g : Int)] w fun e w' => e = .returned (.string (str (txt g x))) ∧ Gr w w' := by
  have HX := Lib.hid hx; have HG := Lib.hid hg
  have hnz : nn ≠ 0 := mt (len_zero hn).1 h0
  have hnb : ((nn : Int) == 0) = false := by simp; omega
  have hnc : ¬ (nn : Int) = 0 := by omega
  have HNE := Lib.hid (low_ne hg.1 h0); have HD := Lib.hid (low_lt hg.1 x); have HSZ := Lib.hid (low_small hg.1 hx); have H0 := Lib.hid h0
  clear h0 hg hx
  have H := Sta.start w
  replace H := H.num hn
  go_enter Try.func101, Try.ntmps101
  go_upto_region 0 with fail
  refine Kr.seqStartW ?_
  refine Kr.seqR (by rfl) (fun K hK => ?_)
  go_simp
  obtain ⟨y1, hy⟩ : ∃ y, w.alloc (.cells #[.slice pn nn cn] 24) = y := ⟨_, rfl⟩
  obtain ⟨bn, hb⟩ : ∃ b, w.heap.size = b := ⟨_, rfl⟩
  rw [hy, hb]
  replace H := H.alloc hy hb rfl
  clear hy hb
  (refine Kr.outS hK (a' := ?_) ?_ ?_; rotate_left; (focus ((try simp only [Act.put, List.getElem_toArray, List.getElem_cons_zero, List.getElem_cons_succ, List.setIfInBounds_toArray, List.set_cons_zero, List.set_cons_succ]); first | done | rfl))); clear hK K
  (refine Kr.seqQ (v := ?_) (a' := ?_) (by rfl) ?_ ?_ ?_; rotate_left 2; (focus (go_simp; first | done | rfl)); (focus ((try simp only [Act.put, List.getElem_toArray, List.getElem_cons_zero, List.getElem_cons_succ, List.setIfInBounds_toArray, List.set_cons_zero, List.set_cons_succ]); first | done | rfl)))
  refine Kr.seqDoneW ?_
  go_upto_region 1 with fail
  refine Kr.seqStartW ?_
  have hk := H.c
  simp only [Kr.Cells] at hk
  (refine Kr.seqQ (v := ?_) (a' := ?_) (by rfl) ?_ ?_ ?_; rotate_left 2; (focus (go_simp; first | done | rfl)); (focus ((try simp only [Act.put, List.getElem_toArray, List.getElem_cons_zero, List.getElem_cons_succ, List.setIfInBounds_toArray, List.set_cons_zero, List.set_cons_succ]); first | done | rfl)))
  refine Kr.seqR (by rfl) (fun K hK => ?_)
  go_simp
  go_at_call 80
  refine (Valid_v (H.nw 0 rfl) HX.out).mono ?_
  rintro e y2 ⟨rfl, hg⟩
  clear hk
  replace H := H.grow hg
  clear hg
  (refine Kr.outS hK (a' := ?_) ?_ ?_; rotate_left; (focus ((try simp only [Act.put, List.getElem_toArray, List.getElem_cons_zero, List.getElem_cons_succ, List.setIfInBounds_toArray, List.set_cons_zero, List.set_cons_succ]); first | done | rfl))); clear hK K
  iterate 2 (refine Kr.seqQ (v := ?_) (a' := ?_) (by rfl) ?_ ?_ ?_; rotate_left 2; (focus (go_simp; first | done | rfl)); (focus ((try simp only [Act.put, List.getElem_toArray, List.getElem_cons_zero, List.getElem_cons_succ, List.setIfInBounds_toArray, List.set_cons_zero, List.set_cons_succ]); first | done | rfl)))
  refine Kr.seqDoneW ?_
  go_upto_region 3 with fail
  refine Kr.seqStartW ?_
  (refine Kr.seqQ (v := ?_) (a' := ?_) (by rfl) ?_ ?_ ?_; rotate_left 2; (focus (go_simp; first | done | rfl)); (focus ((try simp only [Act.put, List.getElem_toArray, List.getElem_cons_zero, List.getElem_cons_succ, List.setIfInBounds_toArray, List.set_cons_zero, List.set_cons_succ]); first | done | rfl)))
  have hk := H.c
  simp only [Kr.Cells] at hk
  iterate 4 (refine Kr.seqQ (v := ?_) (a' := ?_) (by rfl) ?_ ?_ ?_; rotate_left 2; (focus (go_simp; first | done | rfl)); (focus ((try simp only [Act.put, List.getElem_toArray, List.getElem_cons_zero, List.getElem_cons_succ, List.setIfInBounds_toArray, List.set_cons_zero, List.set_cons_succ]); first | done | rfl)))
  clear hk
  refine Kr.seqDoneW ?_
  clear hnz hnb hnc
  go_upto_region 5 with fail
  refine Kr.seqStartW ?_
  have hk := H.c
  simp only [Kr.Cells] at hk
  iterate 2 (refine Kr.seqQ (v := ?_) (a' := ?_) (by rfl) ?_ ?_ ?_; rotate_left 2; (focus (go_simp; first | done | rfl)); (focus ((try simp only [Act.put, List.getElem_toArray, List.getElem_cons_zero, List.getElem_cons_succ, List.setIfInBounds_toArray, List.set_cons_zero, List.set_cons_succ]); first | done | rfl)))
  refine Kr.seqR (by rfl) (fun K hK => ?_)
  go_simp
  go_at_call 107
  have hle := H.g.le
  refine (split_v (H.nw 0 rfl) HX.out ⟨HG.out.1, Nat.le_trans HG.out.2 (by decide)⟩).mono ?_
  rintro e y3 ⟨v, rfl, hrow, hg⟩
  clear hk
  replace H := H.grow hg
  obtain ⟨b, cap, rfl, hb, hcap, hrw⟩ := hrow.form HNE.out
  have HB := Lib.hid (Nat.le_trans hle hb)
  clear hle hb hcap hrow hg
  obtain ⟨L, hL⟩ : ∃ L, (low g x).reverse = L := ⟨_, rfl⟩
  rw [hL] at hrw ⊢
  have HL := Lib.hid hL
  have HLD : Hid (∀ d ∈ L, d < g) := Lib.hid (fun d hd => HD.out d (List.mem_reverse.1 (hL ▸ hd)))
  obtain ⟨m, hm⟩ : ∃ m, L.length = m := ⟨_, rfl⟩
  rw [hm]
  have HM := Lib.hid hm
  have hmb : m ≤ 2048 := by have h := HSZ.out; rw [← List.length_reverse, HL.out, HM.out] at h; exact h
  clear hm hL
  replace H := H.add (keepRw _ _) hrw
  clear hrw
  (refine Kr.outS hK (a' := ?_) ?_ ?_; rotate_left; (focus ((try simp only [Act.put, List.getElem_toArray, List.getElem_cons_zero, List.getElem_cons_succ, List.setIfInBounds_toArray, List.set_cons_zero, List.set_cons_succ]); first | done | rfl))); clear hK K
  (refine Kr.seqQ (v := ?_) (a' := ?_) (by rfl) ?_ ?_ ?_; rotate_left 2; (focus (go_simp; first | done | rfl)); (focus ((try simp only [Act.put, List.getElem_toArray, List.getElem_cons_zero, List.getElem_cons_succ, List.setIfInBounds_toArray, List.set_cons_zero, List.set_cons_succ]); first | done | rfl)))
  refine Kr.seqDoneW ?_
  go_upto_region 6 with fail
  refine Kr.seqStartW ?_
  iterate 3 (refine Kr.seqQ (v := ?_) (a' := ?_) (by rfl) ?_ ?_ ?_; rotate_left 2; (focus (go_simp; first | done | rfl)); (focus ((try simp only [Act.put, List.getElem_toArray, List.getElem_cons_zero, List.getElem_cons_succ, List.setIfInBounds_toArray, List.set_cons_zero, List.set_cons_succ]); first | done | rfl)))
  refine Kr.seqDoneW ?_
  have H2 : Hid (Sta w y3 [(bn, 0, .slice pn nn cn)] [Rw b (mix sm L 0)]) := Lib.hid (by rw [mix_zero]; exact H.pick [0] rfl)
  go_wp2
  go_loopw [22] (fun i wr => ∃ k : Nat, k ≤ m ∧ i = .int .i64 (k : Int) ∧ Hid (Sta w wr [(bn, 0, .slice pn nn cn)] [Rw b (mix sm L k)])) (fun i _ => m - (intOf i).toNat)
  case atStart => exact ⟨0, Nat.zero_le _, rfl, H2⟩
  case round =>
    clear H H2
    obtain ⟨k, hk, rfl, HH⟩ := hrel
    have H := HH.out
    clear HH
    by_cases hlt : k < m
    · skip
      have hlL : k < L.length := by rw [HM.out]; exact hlt
      have hlx : k < (mix sm L k).length := by rw [mix_len]; exact hlL
      obtain ⟨hc, hf⟩ := (H.fact 0 rfl : Rw b (mix sm L k) wr) k hlx
      rw [mix_get hlL] at hc
      have hset := Lib.hid (mix_set (f := sm) hlL)
      obtain ⟨d, hd⟩ : ∃ d, L[k]?.getD 0 = d := ⟨_, rfl⟩
      rw [hd] at hc hset
      have hd16 : Hid (d < 16) := Lib.hid (by rw [← hd]; exact Nat.lt_of_lt_of_le (HLD.out _ (get_mem hlL)) HG.out.2)
      clear hd
      have HXL := Lib.hid hlx
      clear hlx hlL
      have k0 : (0 : Int) ≤ (k : Int) := by omega
      have k1 : (k : Int) < (m : Int) := by omega
      have kt : ((k : Int)).toNat = k := by omega
      have kw : IntKind.i64.wrap ((k : Int) + 1) = (k : Int) + 1 := IntWalk.i64_in _ (by omega)
      go_upto_region 8 with fail
      refine Kr.seqStartW ?_
      iterate 2 (refine Kr.seqQ (v := ?_) (a' := ?_) (by rfl) ?_ ?_ ?_; rotate_left 2; (focus (go_simp; first | done | rfl)); (focus ((try simp only [Act.put, List.getElem_toArray, List.getElem_cons_zero, List.getElem_cons_succ, List.setIfInBounds_toArray, List.set_cons_zero, List.set_cons_succ]); first | done | rfl)))
      have hk := H.c
      simp only [Kr.Cells] at hk
      iterate 3 (refine Kr.seqQ (v := ?_) (a' := ?_) (by rfl) ?_ ?_ ?_; rotate_left 2; (focus (go_simp; first | done | rfl)); (focus ((try simp only [Act.put, List.getElem_toArray, List.getElem_cons_zero, List.getElem_cons_succ, List.setIfInBounds_toArray, List.set_cons_zero, List.set_cons_succ]); first | done | rfl)))
      clear hk
      refine Kr.seqDoneW ?_
      go_upto_region 9 with fail
      refine Kr.seqStartW ?_
      iterate 3 (refine Kr.seqQ (v := ?_) (a' := ?_) (by rfl) ?_ ?_ ?_; rotate_left 2; (focus (go_simp; first | done | rfl)); (focus ((try simp only [Act.put, List.getElem_toArray, List.getElem_cons_zero, List.getElem_cons_succ, List.setIfInBounds_toArray, List.set_cons_zero, List.set_cons_succ]); first | done | rfl)))
      (refine Kr.seqQ (v := .int .u8 ((sm d : Nat) : Int)) (a' := ?_) (by rfl) ?_ ?_ ?_; rotate_left 1; (focus (exact val_of rfl (run_sym Try.underlying9 hd16.out .u8 _))); (focus ((try simp only [Act.put, List.getElem_toArray, List.getElem_cons_zero, List.getElem_cons_succ, List.setIfInBounds_toArray, List.set_cons_zero, List.set_cons_succ]); first | done | rfl)))
      (refine Kr.seqQ (v := ?_) (a' := ?_) (by rfl) ?_ ?_ ?_; rotate_left 2; (focus (go_simp; first | done | rfl)); (focus ((try simp only [Act.put, List.getElem_toArray, List.getElem_cons_zero, List.getElem_cons_succ, List.setIfInBounds_toArray, List.set_cons_zero, List.set_cons_succ]); first | done | rfl)))
      refine Kr.seqR (by rfl) (fun K hK => ?_)
      go_simp
      obtain ⟨ys, hy⟩ : ∃ y, wr.setCell ⟨b, k, none⟩ (.int .u8 ((sm d : Nat) : Int)) = y := ⟨_, rfl⟩
      rw [hy]
      replace H := sta_byte H HB.out HXL.out hy
      rw [hset.out] at H
      clear hy hc hf
      (refine Kr.outS hK (a' := ?_) ?_ ?_; rotate_left; (focus ((try simp only [Act.put, List.getElem_toArray, List.getElem_cons_zero, List.getElem_cons_succ, List.setIfInBounds_toArray, List.set_cons_zero, List.set_cons_succ]); first | done | rfl))); clear hK K
      refine Kr.seqDoneW ?_
      go_upto_region 10 with fail
      refine Kr.seqStartW ?_
      iterate 2 (refine Kr.seqQ (v := ?_) (a' := ?_) (by rfl) ?_ ?_ ?_; rotate_left 2; (focus (go_simp; first | done | rfl)); (focus ((try simp only [Act.put, List.getElem_toArray, List.getElem_cons_zero, List.getElem_cons_succ, List.setIfInBounds_toArray, List.set_cons_zero, List.set_cons_succ]); first | done | rfl)))
      refine Kr.seqDoneW ?_
      go_wp2
      go_roundw
      case rel => exact ⟨k + 1, by omega, rfl, Lib.hid H⟩
      case measure => (simp [intOf] <;> omega)
    · obtain rfl : k = m := by omega
      clear hk
      rw [← HM.out, mix_all] at H
      go_upto_region 11 with fail
      refine Kr.seqStartW ?_
      (refine Kr.seqQ (v := ?_) (a' := ?_) (by rfl) ?_ ?_ ?_; rotate_left 2; (focus (go_simp; first | done | rfl)); (focus ((try simp only [Act.put, List.getElem_toArray, List.getElem_cons_zero, List.getElem_cons_succ, List.setIfInBounds_toArray, List.set_cons_zero, List.set_cons_succ]); first | done | rfl)))
      (refine Kr.seqQ (v := .string (str (L.map sm))) (a' := ?_) (by rfl) ?_ ?_ ?_; rotate_left 1; (focus (exact val_of rfl (run_string (H.fact 0 rfl : Rw b (L.map sm) _) (by rw [List.length_map]; exact HM.out) (fun c hc => by obtain ⟨d, hd, rfl⟩ := List.mem_map.1 hc; exact sm_lt (Nat.lt_of_lt_of_le (HLD.out d hd) HG.out.2))))); (focus ((try simp only [Act.put, List.getElem_toArray, List.getElem_cons_zero, List.getElem_cons_succ, List.setIfInBounds_toArray, List.set_cons_zero, List.set_cons_succ]); first | done | rfl)))
      (refine Kr.seqQ (v := ?_) (a' := ?_) (by rfl) ?_ ?_ ?_; rotate_left 2; (focus (go_simp; first | done | rfl)); (focus ((try simp only [Act.put, List.getElem_toArray, List.getElem_cons_zero, List.getElem_cons_succ, List.setIfInBounds_toArray, List.set_cons_zero, List.set_cons_succ]); first | done | rfl)))
      refine Kr.seqDoneW ?_
      have hk := H.c
      simp only [Kr.Cells] at hk
      go_wp2
      refine bodyPost_ret (v := .string (str (L.map sm))) (by simp [results, Try.results101, go_sem, hk]) rfl ⟨by rw [txt, if_neg H0.out, HL.out], H.g⟩
theorem write_v {pn : Option Addr} {nn cn x g : Nat} {w : World} (hn : Nw w pn nn cn (digs x)) (hx : x < pw 64) (hg : 2 ≤ g ∧ g ≤ 16) :
    Calls Try.prog 101 #[.agg #[.slice pn nn cn], .int .i64 (g : Int)] w fun e w' => e = .returned (.string (str (txt g x))) ∧ Gr w w' := by
  by_cases h0 : x = 0
  · subst h0
    have h := write_zero hn hx hg
    rwa [show (⟨#[48]⟩ : ByteArray) = str (txt g 0) by rw [txt, if_pos rfl]; rfl] at h
  · exact write_pos hn hx hg h0
end Go.Proofs.Ytlciocebbckdcaa.Ff


/- A row of bytes that is made, and one that is copied into its end. -/
namespace Go.Proofs.Ytlciocebbckdcaa.Fb
open Go Go.RowKit Go.Proofs.Ytlciocebbckdcaa.Nm Go.Proofs.Ytlciocebbckdcaa.Ne Go.Proofs.Ytlciocebbckdcaa.Nf Go.Proofs.Ytlciocebbckdcaa.Nk Go.Proofs.Ytlciocebbckdcaa.Nr2 Go.Proofs.Ytlciocebbckdcaa.Nv Go.Proofs.Ytlciocebbckdcaa.Kr Go.Proofs.Ytlciocebbckdcaa.Ff

theorem made_cb (n : Nat) : madeCells (Value.int .u8 0).cells (n * 1) = (cb (List.replicate n 0)).toArray := by
  apply Array.ext_getElem?
  intro i
  by_cases hi : i < n
  · simp [madeCells, Value.cells, cb, hi]
    rw [Nat.mod_one]
    rfl
  · rw [Array.getElem?_eq_none (by simp [madeCells]; omega), Array.getElem?_eq_none (by simp [cb]; omega)]
theorem rw_block {W : World} {b : Nat} {l : List Nat} {t : TypeId} (h : W.heap[b]? = some (.cells (cb l).toArray t (0, 0))) : Rw b l W := by
  intro i hi
  refine ⟨?_, by simp [World.frozen?, h]⟩
  rw [cell_of_row W b i _ t (0, 0) h]
  simp [cb, hi]
/-- make([]byte, n). -/
theorem wp_make8 {o : Oper} {a : Act} {w : World} {K : Act → World → Prop} {Q : Exit → Act → World → Prop} (n : Nat) (x x2 : Operand) (ho : o.op = .makeSlice 62 x x2) (hx : a.eval x = .int .i64 (n : Int)) (hx2 : a.eval x2 = .int .i64 (n : Int)) (hn : n ≤ 1000000)
    (h : ∀ b y, y.heap[b]? = some (.cells (cb (List.replicate n 0)).toArray 5 (0, 0)) → Gr w y → w.heap.size = b → K (a.put o.dst (.slice (some ⟨b, 0, none⟩) n n)) y) : o.wp Try.prog a w K Q := by
  obtain ⟨i0, hi, hz0, hz1, hz2⟩ := info_parts infoB
  have hr := run_make (P := Try.prog) w 62 5 i0 (.int .u8 0) Try.underlying62 hi hz0 .i64 .i64 n n (by omega) (by omega) (by rw [hz2]; omega) (by omega)
  rw [hz1, Int.toNat_natCast, made_cb, show Instr.makeSlice 62 (.int .i64 (n : Int)) (.int .i64 (n : Int)) = Instr.makeSlice 62 (a.eval x) (a.eval x2) by rw [hx, hx2]] at hr
  have he : execOp a.eval o = Instr.makeSlice 62 (a.eval x) (a.eval x2) >>= fun x => pure (Next.value x) := by unfold execOp; rw [ho]
  refine wp_run (val_of he hr) (h _ _ ?_ ((Gr.refl _).alloc _) rfl)
  show (w.heap.push _)[w.heap.size]? = _
  simp
theorem setRow_grown (W : World) (b : Nat) (c : Array Value) : W.grownBy (W.setRow b c) (some b) :=
  ⟨rfl, rfl, rfl, by simp, fun k _ hne => setRow_other W b k c (fun e => hne (by rw [e]))⟩
set_option maxRecDepth 20000 in
/-- copy(b[N-n:], digits), b made just now. -/
theorem wp_copy8 {o : Oper} {a : Act} {W : World} {K : Act → World → Prop} {Q : Exit → Act → World → Prop} (d s : Operand) (ho : o.op = .call { callee := .builtin .copy, args := #[d, s], argTypes := #[62, 62] })
    {dp sp : Option Addr} {b N n dl dc sc : Nat} {L : List Nat} (hd : a.eval d = .slice dp dl dc) (hdl : dl = n) (hs : a.eval s = .slice sp n sc) (hL : L.length = n) (hn : n ≤ N) (hdp : n ≠ 0 → dp = some ⟨b, N - n, none⟩)
    (hsp : n ≠ 0 → ∃ b', sp = some ⟨b', 0, none⟩ ∧ Rw b' L W) (hg : W.heap[b]? = some (.cells (cb (List.replicate N 0)).toArray 5 (0, 0)))
    (h : ∀ y, Rw b (pad N L) y → W.grownBy y (some b) → K (a.put o.dst (goInt n)) y) : o.wp Try.prog a W K Q := by
  have hsz : (Try.prog.info? 5).map (·.size) = some 1 := by
    obtain ⟨i0, hi, hz0, hz1, hz2⟩ := info_parts infoB
    rw [hi]; simp [hz1]
  subst hdl
  by_cases h0 : dl = 0
  · have hrun := run_copy_none (P := Try.prog) W 62 62 o.type 5 dp sp dl dc dl sc Try.underlying62 hsz (by rw [h0]; rfl)
    have hL0 : L = [] := List.eq_nil_of_length_eq_zero (by omega)
    subst hL0
    have hk := h W (by rw [pad, List.append_nil]; exact rw_block hg) ⟨rfl, rfl, rfl, Nat.le_refl _, fun _ _ _ => rfl⟩
    unfold Oper.wp
    simp [execOp, ho, resolve, invoke, builtin, hd, hs, hrun, Result.andThen]
    rw [h0] at hk
    exact hk
  · obtain ⟨b', rfl, hr⟩ := hsp h0
    have hdp := hdp h0
    subst hdp
    have hrun := run_copy_row (P := Try.prog) W 62 62 o.type 5 b (N - dl) dl dc ⟨b', 0, none⟩ dl sc (cb (List.replicate N 0)).toArray 5 (cb L) Try.underlying62 hsz hg (by rw [cb_length, hL]; exact (Nat.min_self _).symm)
      (fun j u hu => by
        have hj : j < L.length := by have := (List.getElem?_eq_some_iff.1 hu).1; rwa [cb_length] at this
        rw [addr_add, Nat.zero_add, (hr j hj).1, ← hu]
        simp [cb, hj])
      (by simp [cb]; omega) (fun u hu => by obtain ⟨x, _, rfl⟩ := List.mem_map.1 hu; rfl)
    have hk := h (W.setRow b (cb (pad N L)).toArray) (rw_block (setRow_heap W b _ _ _ _ hg)) (setRow_grown _ _ _)
    have he : ((cb (List.replicate N 0)).toArray.toList.take (N - dl) ++ cb L ++ (cb (List.replicate N 0)).toArray.toList.drop (N - dl + (cb L).length)).toArray = (cb (pad N L)).toArray := by
      congr 1
      rw [cb_length, hL, show N - dl + dl = N by omega]
      simp [cb, pad, hL]
    rw [he, cb_length, hL] at hrun
    unfold Oper.wp
    simp [execOp, ho, resolve, invoke, builtin, hd, hs, hrun, Result.andThen]
    exact hk
theorem run_end (b n c k : Nat) (h : k ≤ n) (w : World) : (Instr.slice 62 (.slice (some ⟨b, 0, none⟩) n c) (some (.int .i64 (k : Int))) none none).run Try.prog w = .ok (.slice (if c = k then some ⟨b, 0, none⟩ else some ((⟨b, 0, none⟩ : Addr).add k)) (n - k) (c - k)) w := by
  have h1 : (k : Int) ≤ (n : Int) := by omega
  go_simp
/-- A slice of bytes with an error number. -/
def BtE (l : List Nat) (k : Nat) (w : World) (e : Ending) (w' : World) : Prop :=
  ∃ (p : Option Addr) (n c : Nat), e = .returned (.tuple #[.slice p n c, .int .i64 (k : Int)]) ∧ Bt w' p n c l ∧ Gr w w'
theorem bt_none (w : World) : Bt w none 0 0 [] := ⟨rfl, Nat.le_refl _, fun _ => ⟨rfl, rfl⟩, .inl rfl, (fun x hx => by cases hx), by decide⟩
/-- A row of one's own, nil or not. -/
theorem RowB.form0 {B : Nat} {v : Value} {r : List Nat} {W : World} (h : RowB B v r W) : ∃ p cap, v = .slice p r.length cap ∧ (r.length ≠ 0 → ∃ b, p = some ⟨b, 0, none⟩ ∧ Rw b r W) := by
  by_cases h0 : r = []
  · subst h0
    rcases h.2 with ⟨e, _⟩ | ⟨b, cap, cur, hv, _⟩
    · exact ⟨none, 0, e, fun h => absurd rfl h⟩
    · exact ⟨_, cap, hv, fun h => absurd rfl h⟩
  · obtain ⟨b, cap, e, _, _, hr⟩ := h.form h0
    exact ⟨_, cap, e, fun _ => ⟨b, rfl, hr⟩⟩
/-- The row has been written; nothing else is known any more. -/
theorem sta_row {w W y : World} {cs : List (Nat × Nat × Value)} {fs : List (World → Prop)} {b : Nat} (H : Sta w W cs fs) (g : W.grownBy y (some b)) (hb : w.heap.size ≤ b) (hc : ∀ x ∈ cs, x.1 ≠ b) : Sta w y cs [] :=
  sta_grown (row := some b) (H.pick [] rfl) g (fun k e => by rw [← Option.some.inj e]; exact hb) (fun x hx e => hc x hx (Option.some.inj e).symm) (fun F hF => by cases hF)
end Go.Proofs.Ytlciocebbckdcaa.Fb


/- The contract of natform's Bytes. -/
namespace Go.Proofs.Ytlciocebbckdcaa.Ff
open Go.RowKit Go.Shelf Go.Proofs.Ytlciocebbckdcaa.Nm Go.Proofs.Ytlciocebbckdcaa.Ne Go.Proofs.Ytlciocebbckdcaa.Nf Go.Proofs.Ytlciocebbckdcaa.Nk Go.Proofs.Ytlciocebbckdcaa.Nv Go.Proofs.Ytlciocebbckdcaa.Nr2 Go.Proofs.Ytlciocebbckdcaa.Kr Go.Proofs.Ytlciocebbckdcaa.Fb

set_option linter.unusedSimpArgs false in
set_option maxRecDepth 100000 in
set_option maxHeartbeats 16000000 in
theorem bytes_bad {pn : Option Addr} {nn cn : Nat} {t : Int} {l : List Nat} {w : World} (hn : Nw w pn nn cn l) (hv : ¬ valid l) :
    Calls Try.prog 63 #[.agg #[.slice pn nn cn], .int .i64 t] w (BtE [] 1 w) := by
  have HV := Lib.hid (decide_eq_false hv)
  have H := Sta.start w
  replace H := H.add (keepWs _ _ _ _) hn
  go_enter Try.func63, Try.ntmps63
  go_upto_region 0 with fail
  refine Kr.seqStartW ?_
  refine Kr.seqR (by rfl) (fun K hK => ?_)
  go_simp
  obtain ⟨y1, hy⟩ : ∃ y, w.alloc (.cells #[.slice pn nn cn] 24) = y := ⟨_, rfl⟩
  obtain ⟨bn, hb⟩ : ∃ b, w.heap.size = b := ⟨_, rfl⟩
  rw [hy, hb]
  replace H := H.alloc hy hb rfl
  clear hy hb
  (refine Kr.outS hK (a' := ?_) ?_ ?_; rotate_left; (focus ((try simp only [Act.put, List.getElem_toArray, List.getElem_cons_zero, List.getElem_cons_succ, List.setIfInBounds_toArray, List.set_cons_zero, List.set_cons_succ]); first | done | rfl))); clear hK K
  iterate 2 (refine Kr.seqQ (v := ?_) (a' := ?_) (by rfl) ?_ ?_ ?_; rotate_left 2; (focus (go_simp; first | done | rfl)); (focus ((try simp only [Act.put, List.getElem_toArray, List.getElem_cons_zero, List.getElem_cons_succ, List.setIfInBounds_toArray, List.set_cons_zero, List.set_cons_succ]); first | done | rfl)))
  refine Kr.seqDoneW ?_
  go_upto_region 1 with fail
  refine Kr.seqStartW ?_
  have hk := H.c
  simp only [Kr.Cells] at hk
  (refine Kr.seqQ (v := ?_) (a' := ?_) (by rfl) ?_ ?_ ?_; rotate_left 2; (focus (go_simp; first | done | rfl)); (focus ((try simp only [Act.put, List.getElem_toArray, List.getElem_cons_zero, List.getElem_cons_succ, List.setIfInBounds_toArray, List.set_cons_zero, List.set_cons_succ]); first | done | rfl)))
  refine Kr.seqR (by rfl) (fun K hK => ?_)
  go_simp
  go_at_call 80
  refine (Valid_n pn nn cn l _ (H.ws 0 rfl)).mono ?_
  rintro e y2 ⟨rfl, hg⟩
  rw [HV.out]
  clear hk
  replace H := H.grow hg
  clear hg
  (refine Kr.outS hK (a' := ?_) ?_ ?_; rotate_left; (focus ((try simp only [Act.put, List.getElem_toArray, List.getElem_cons_zero, List.getElem_cons_succ, List.setIfInBounds_toArray, List.set_cons_zero, List.set_cons_succ]); first | done | rfl))); clear hK K
  iterate 2 (refine Kr.seqQ (v := ?_) (a' := ?_) (by rfl) ?_ ?_ ?_; rotate_left 2; (focus (go_simp; first | done | rfl)); (focus ((try simp only [Act.put, List.getElem_toArray, List.getElem_cons_zero, List.getElem_cons_succ, List.setIfInBounds_toArray, List.set_cons_zero, List.set_cons_succ]); first | done | rfl)))
  refine Kr.seqDoneW ?_
  go_upto_region 2 with fail
  refine Kr.seqStartW ?_
  iterate 2 (refine Kr.seqQ (v := ?_) (a' := ?_) (by rfl) ?_ ?_ ?_; rotate_left 2; (focus (go_simp; first | done | rfl)); (focus ((try simp only [Act.put, List.getElem_toArray, List.getElem_cons_zero, List.getElem_cons_succ, List.setIfInBounds_toArray, List.set_cons_zero, List.set_cons_succ]); first | done | rfl)))
  refine Kr.seqDoneW ?_
  have hk := H.c
  simp only [Kr.Cells] at hk
  go_wp2
  refine bodyPost_ret (v := .tuple #[.slice none 0 0, .int .i64 1]) (by simp [results, Try.results63, go_sem, hk]) rfl ⟨none, 0, 0, rfl, bt_none _, H.g⟩
set_option linter.unusedSimpArgs false in
set_option maxRecDepth 100000 in
set_option maxHeartbeats 16000000 in
theorem bytes_range0 {pn : Option Addr} {nn cn x : Nat} {t : Int} {w : World} (hn : Nw w pn nn cn (digs x)) (hx : x < pw 64) (ht : t < 0) :
    Calls Try.prog 63 #[.agg #[.slice pn nn cn], .int .i64 t] w (BtE [] 2 w) := by
  have HX := Lib.hid hx
  have H := Sta.start w
  replace H := H.num hn
  go_enter Try.func63, Try.ntmps63
  go_upto_region 0 with fail
  refine Kr.seqStartW ?_
  refine Kr.seqR (by rfl) (fun K hK => ?_)
  go_simp
  obtain ⟨y1, hy⟩ : ∃ y, w.alloc (.cells #[.slice pn nn cn] 24) = y := ⟨_, rfl⟩
  obtain ⟨bn, hb⟩ : ∃ b, w.heap.size = b := ⟨_, rfl⟩
  rw [hy, hb]
  replace H := H.alloc hy hb rfl
  clear hy hb
  (refine Kr.outS hK (a' := ?_) ?_ ?_; rotate_left; (focus ((try simp only [Act.put, List.getElem_toArray, List.getElem_cons_zero, List.getElem_cons_succ, List.setIfInBounds_toArray, List.set_cons_zero, List.set_cons_succ]); first | done | rfl))); clear hK K
  iterate 2 (refine Kr.seqQ (v := ?_) (a' := ?_) (by rfl) ?_ ?_ ?_; rotate_left 2; (focus (go_simp; first | done | rfl)); (focus ((try simp only [Act.put, List.getElem_toArray, List.getElem_cons_zero, List.getElem_cons_succ, List.setIfInBounds_toArray, List.set_cons_zero, List.set_cons_succ]); first | done | rfl)))
  refine Kr.seqDoneW ?_
  go_upto_region 1 with fail
  refine Kr.seqStartW ?_
  have hk := H.c
  simp only [Kr.Cells] at hk
  (refine Kr.seqQ (v := ?_) (a' := ?_) (by rfl) ?_ ?_ ?_; rotate_left 2; (focus (go_simp; first | done | rfl)); (focus ((try simp only [Act.put, List.getElem_toArray, List.getElem_cons_zero, List.getElem_cons_succ, List.setIfInBounds_toArray, List.set_cons_zero, List.set_cons_succ]); first | done | rfl)))
  refine Kr.seqR (by rfl) (fun K hK => ?_)
  go_simp
  go_at_call 80
  refine (Valid_v (H.nw 0 rfl) HX.out).mono ?_
  rintro e y2 ⟨rfl, hg⟩
  clear hk
  replace H := H.grow hg
  clear hg
  (refine Kr.outS hK (a' := ?_) ?_ ?_; rotate_left; (focus ((try simp only [Act.put, List.getElem_toArray, List.getElem_cons_zero, List.getElem_cons_succ, List.setIfInBounds_toArray, List.set_cons_zero, List.set_cons_succ]); first | done | rfl))); clear hK K
  iterate 2 (refine Kr.seqQ (v := ?_) (a' := ?_) (by rfl) ?_ ?_ ?_; rotate_left 2; (focus (go_simp; first | done | rfl)); (focus ((try simp only [Act.put, List.getElem_toArray, List.getElem_cons_zero, List.getElem_cons_succ, List.setIfInBounds_toArray, List.set_cons_zero, List.set_cons_succ]); first | done | rfl)))
  refine Kr.seqDoneW ?_
  go_upto_region 3 with fail
  refine Kr.seqStartW ?_
  iterate 3 (refine Kr.seqQ (v := ?_) (a' := ?_) (by rfl) ?_ ?_ ?_; rotate_left 2; (focus (go_simp; first | done | rfl)); (focus ((try simp only [Act.put, List.getElem_toArray, List.getElem_cons_zero, List.getElem_cons_succ, List.setIfInBounds_toArray, List.set_cons_zero, List.set_cons_succ]); first | done | rfl)))
  (refine Kr.seqSkipQ (a' := ?_) (by rfl) ?_ ?_; rotate_left; (focus ((try simp only [Act.put, List.getElem_toArray, List.getElem_cons_zero, List.getElem_cons_succ, List.setIfInBounds_toArray, List.set_cons_zero, List.set_cons_succ]); first | done | rfl)))
  (refine Kr.seqSkipQ (a' := ?_) (by rfl) ?_ ?_; rotate_left; (focus ((try simp only [Act.put, List.getElem_toArray, List.getElem_cons_zero, List.getElem_cons_succ, List.setIfInBounds_toArray, List.set_cons_zero, List.set_cons_succ]); first | done | rfl)))
  iterate 2 (refine Kr.seqQ (v := ?_) (a' := ?_) (by rfl) ?_ ?_ ?_; rotate_left 2; (focus (go_simp; first | done | rfl)); (focus ((try simp only [Act.put, List.getElem_toArray, List.getElem_cons_zero, List.getElem_cons_succ, List.setIfInBounds_toArray, List.set_cons_zero, List.set_cons_succ]); first | done | rfl)))
  refine Kr.seqDoneW ?_
  go_upto_region 4 with fail
  refine Kr.seqStartW ?_
  iterate 2 (refine Kr.seqQ (v := ?_) (a' := ?_) (by rfl) ?_ ?_ ?_; rotate_left 2; (focus (go_simp; first | done | rfl)); (focus ((try simp only [Act.put, List.getElem_toArray, List.getElem_cons_zero, List.getElem_cons_succ, List.setIfInBounds_toArray, List.set_cons_zero, List.set_cons_succ]); first | done | rfl)))
  refine Kr.seqDoneW ?_
  have hk := H.c
  simp only [Kr.Cells] at hk
  go_wp2
  refine bodyPost_ret (v := .tuple #[.slice none 0 0, .int .i64 2]) (by simp [results, Try.results63, go_sem, hk]) rfl ⟨none, 0, 0, rfl, bt_none _, H.g⟩
set_option linter.unusedSimpArgs false in
set_option maxRecDepth 100000 in
set_option maxHeartbeats 16000000 in
theorem bytes_range1 {pn : Option Addr} {nn cn x : Nat} {t : Int} {w : World} (hn : Nw w pn nn cn (digs x)) (hx : x < pw 64) (ht : 1000 < t) :
    Calls Try.prog 63 #[.agg #[.slice pn nn cn], .int .i64 t] w (BtE [] 2 w) := by
  have HX := Lib.hid hx
  have h2 : ¬ t < 0 := by omega
  have H := Sta.start w
  replace H := H.num hn
  go_enter Try.func63, Try.ntmps63
  go_upto_region 0 with fail
  refine Kr.seqStartW ?_
  refine Kr.seqR (by rfl) (fun K hK => ?_)
  go_simp
  obtain ⟨y1, hy⟩ : ∃ y, w.alloc (.cells #[.slice pn nn cn] 24) = y := ⟨_, rfl⟩
  obtain ⟨bn, hb⟩ : ∃ b, w.heap.size = b := ⟨_, rfl⟩
  rw [hy, hb]
  replace H := H.alloc hy hb rfl
  clear hy hb
  (refine Kr.outS hK (a' := ?_) ?_ ?_; rotate_left; (focus ((try simp only [Act.put, List.getElem_toArray, List.getElem_cons_zero, List.getElem_cons_succ, List.setIfInBounds_toArray, List.set_cons_zero, List.set_cons_succ]); first | done | rfl))); clear hK K
  iterate 2 (refine Kr.seqQ (v := ?_) (a' := ?_) (by rfl) ?_ ?_ ?_; rotate_left 2; (focus (go_simp; first | done | rfl)); (focus ((try simp only [Act.put, List.getElem_toArray, List.getElem_cons_zero, List.getElem_cons_succ, List.setIfInBounds_toArray, List.set_cons_zero, List.set_cons_succ]); first | done | rfl)))
  refine Kr.seqDoneW ?_
  go_upto_region 1 with fail
  refine Kr.seqStartW ?_
  have hk := H.c
  simp only [Kr.Cells] at hk
  (refine Kr.seqQ (v := ?_) (a' := ?_) (by rfl) ?_ ?_ ?_; rotate_left 2; (focus (go_simp; first | done | rfl)); (focus ((try simp only [Act.put, List.getElem_toArray, List.getElem_cons_zero, List.getElem_cons_succ, List.setIfInBounds_toArray, List.set_cons_zero, List.set_cons_succ]); first | done | rfl)))
  refine Kr.seqR (by rfl) (fun K hK => ?_)
  go_simp
  go_at_call 80
  refine (Valid_v (H.nw 0 rfl) HX.out).mono ?_
  rintro e y2 ⟨rfl, hg⟩
  clear hk
  replace H := H.grow hg
  clear hg
  (refine Kr.outS hK (a' := ?_) ?_ ?_; rotate_left; (focus ((try simp only [Act.put, List.getElem_toArray, List.getElem_cons_zero, List.getElem_cons_succ, List.setIfInBounds_toArray, List.set_cons_zero, List.set_cons_succ]); first | done | rfl))); clear hK K
  iterate 2 (refine Kr.seqQ (v := ?_) (a' := ?_) (by rfl) ?_ ?_ ?_; rotate_left 2; (focus (go_simp; first | done | rfl)); (focus ((try simp only [Act.put, List.getElem_toArray, List.getElem_cons_zero, List.getElem_cons_succ, List.setIfInBounds_toArray, List.set_cons_zero, List.set_cons_succ]); first | done | rfl)))
  refine Kr.seqDoneW ?_
  go_upto_region 3 with fail
  refine Kr.seqStartW ?_
  iterate 7 (refine Kr.seqQ (v := ?_) (a' := ?_) (by rfl) ?_ ?_ ?_; rotate_left 2; (focus (go_simp; first | done | rfl)); (focus ((try simp only [Act.put, List.getElem_toArray, List.getElem_cons_zero, List.getElem_cons_succ, List.setIfInBounds_toArray, List.set_cons_zero, List.set_cons_succ]); first | done | rfl)))
  refine Kr.seqDoneW ?_
  go_upto_region 4 with fail
  refine Kr.seqStartW ?_
  iterate 2 (refine Kr.seqQ (v := ?_) (a' := ?_) (by rfl) ?_ ?_ ?_; rotate_left 2; (focus (go_simp; first | done | rfl)); (focus ((try simp only [Act.put, List.getElem_toArray, List.getElem_cons_zero, List.getElem_cons_succ, List.setIfInBounds_toArray, List.set_cons_zero, List.set_cons_succ]); first | done | rfl)))
  refine Kr.seqDoneW ?_
  have hk := H.c
  simp only [Kr.Cells] at hk
  go_wp2
  refine bodyPost_ret (v := .tuple #[.slice none 0 0, .int .i64 2]) (by simp [results, Try.results63, go_sem, hk]) rfl ⟨none, 0, 0, rfl, bt_none _, H.g⟩
set_option linter.unusedSimpArgs false in
set_option maxRecDepth 100000 in
set_option maxHeartbeats 16000000 in
theorem bytes_big {pn : Option Addr} {nn cn x N m : Nat} {w : World} (hn : Nw w pn nn cn (digs x)) (hx : x < pw 64) (hN : N ≤ 1000) (hm : (low 256 x).reverse.length = m) (hfit : N < m) :
    Calls Try.prog 63 #[.agg #[.slice pn nn cn], .int .i64 (N : Int)] w (BtE [] 9 w) := by
  have HX := Lib.hid hx
  have h1 : ¬ (N : Int) < 0 := by omega
  have h2 : ¬ (1000 : Int) < (N : Int) := by omega
  have HM := Lib.hid hm; have HNL := Lib.hid hN; have HFI := Lib.hid hfit; have HD : Hid (∀ d ∈ (low 256 x).reverse, d < 256) := Lib.hid (fun d hd => low_lt (by decide) x d (List.mem_reverse.1 hd))
  clear hm
  have hdf : (N : Int) < (m : Int) := by omega
  have H := Sta.start w
  replace H := H.num hn
  go_enter Try.func63, Try.ntmps63
  go_upto_region 0 with fail
  refine Kr.seqStartW ?_
  refine Kr.seqR (by rfl) (fun K hK => ?_)
  go_simp
  obtain ⟨y1, hy⟩ : ∃ y, w.alloc (.cells #[.slice pn nn cn] 24) = y := ⟨_, rfl⟩
  obtain ⟨bn, hb⟩ : ∃ b, w.heap.size = b := ⟨_, rfl⟩
  rw [hy, hb]
  replace H := H.alloc hy hb rfl
  clear hy hb
  (refine Kr.outS hK (a' := ?_) ?_ ?_; rotate_left; (focus ((try simp only [Act.put, List.getElem_toArray, List.getElem_cons_zero, List.getElem_cons_succ, List.setIfInBounds_toArray, List.set_cons_zero, List.set_cons_succ]); first | done | rfl))); clear hK K
  iterate 2 (refine Kr.seqQ (v := ?_) (a' := ?_) (by rfl) ?_ ?_ ?_; rotate_left 2; (focus (go_simp; first | done | rfl)); (focus ((try simp only [Act.put, List.getElem_toArray, List.getElem_cons_zero, List.getElem_cons_succ, List.setIfInBounds_toArray, List.set_cons_zero, List.set_cons_succ]); first | done | rfl)))
  refine Kr.seqDoneW ?_
  go_upto_region 1 with fail
  refine Kr.seqStartW ?_
  have hk := H.c
  simp only [Kr.Cells] at hk
  (refine Kr.seqQ (v := ?_) (a' := ?_) (by rfl) ?_ ?_ ?_; rotate_left 2; (focus (go_simp; first | done | rfl)); (focus ((try simp only [Act.put, List.getElem_toArray, List.getElem_cons_zero, List.getElem_cons_succ, List.setIfInBounds_toArray, List.set_cons_zero, List.set_cons_succ]); first | done | rfl)))
  refine Kr.seqR (by rfl) (fun K hK => ?_)
  go_simp
  go_at_call 80
  refine (Valid_v (H.nw 0 rfl) HX.out).mono ?_
  rintro e y2 ⟨rfl, hg⟩
  clear hk
  replace H := H.grow hg
  clear hg
  (refine Kr.outS hK (a' := ?_) ?_ ?_; rotate_left; (focus ((try simp only [Act.put, List.getElem_toArray, List.getElem_cons_zero, List.getElem_cons_succ, List.setIfInBounds_toArray, List.set_cons_zero, List.set_cons_succ]); first | done | rfl))); clear hK K
  iterate 2 (refine Kr.seqQ (v := ?_) (a' := ?_) (by rfl) ?_ ?_ ?_; rotate_left 2; (focus (go_simp; first | done | rfl)); (focus ((try simp only [Act.put, List.getElem_toArray, List.getElem_cons_zero, List.getElem_cons_succ, List.setIfInBounds_toArray, List.set_cons_zero, List.set_cons_succ]); first | done | rfl)))
  refine Kr.seqDoneW ?_
  go_upto_region 3 with fail
  refine Kr.seqStartW ?_
  iterate 7 (refine Kr.seqQ (v := ?_) (a' := ?_) (by rfl) ?_ ?_ ?_; rotate_left 2; (focus (go_simp; first | done | rfl)); (focus ((try simp only [Act.put, List.getElem_toArray, List.getElem_cons_zero, List.getElem_cons_succ, List.setIfInBounds_toArray, List.set_cons_zero, List.set_cons_succ]); first | done | rfl)))
  refine Kr.seqDoneW ?_
  clear h1 h2
  go_upto_region 5 with fail
  refine Kr.seqStartW ?_
  have hk := H.c
  simp only [Kr.Cells] at hk
  (refine Kr.seqQ (v := ?_) (a' := ?_) (by rfl) ?_ ?_ ?_; rotate_left 2; (focus (go_simp; first | done | rfl)); (focus ((try simp only [Act.put, List.getElem_toArray, List.getElem_cons_zero, List.getElem_cons_succ, List.setIfInBounds_toArray, List.set_cons_zero, List.set_cons_succ]); first | done | rfl)))
  refine Kr.seqR (by rfl) (fun K hK => ?_)
  go_simp
  go_at_call 107
  refine (split_v (g := 256) (H.nw 0 rfl) HX.out ⟨by decide, by decide⟩).mono ?_
  rintro e y3 ⟨v, rfl, hrow, hg⟩
  clear hk
  replace H := H.grow hg
  obtain ⟨ps, cap, rfl, hps⟩ := hrow.form0
  rw [HM.out] at hps ⊢
  have HPS := Lib.hid hps
  clear hps hrow hg
  (refine Kr.outS hK (a' := ?_) ?_ ?_; rotate_left; (focus ((try simp only [Act.put, List.getElem_toArray, List.getElem_cons_zero, List.getElem_cons_succ, List.setIfInBounds_toArray, List.set_cons_zero, List.set_cons_succ]); first | done | rfl))); clear hK K
  (refine Kr.seqQ (v := ?_) (a' := ?_) (by rfl) ?_ ?_ ?_; rotate_left 2; (focus (go_simp; first | done | rfl)); (focus ((try simp only [Act.put, List.getElem_toArray, List.getElem_cons_zero, List.getElem_cons_succ, List.setIfInBounds_toArray, List.set_cons_zero, List.set_cons_succ]); first | done | rfl)))
  refine Kr.seqDoneW ?_
  go_upto_region 6 with fail
  refine Kr.seqStartW ?_
  iterate 4 (refine Kr.seqQ (v := ?_) (a' := ?_) (by rfl) ?_ ?_ ?_; rotate_left 2; (focus (go_simp; first | done | rfl)); (focus ((try simp only [Act.put, List.getElem_toArray, List.getElem_cons_zero, List.getElem_cons_succ, List.setIfInBounds_toArray, List.set_cons_zero, List.set_cons_succ]); first | done | rfl)))
  refine Kr.seqDoneW ?_
  clear hdf
  go_upto_region 7 with fail
  refine Kr.seqStartW ?_
  iterate 2 (refine Kr.seqQ (v := ?_) (a' := ?_) (by rfl) ?_ ?_ ?_; rotate_left 2; (focus (go_simp; first | done | rfl)); (focus ((try simp only [Act.put, List.getElem_toArray, List.getElem_cons_zero, List.getElem_cons_succ, List.setIfInBounds_toArray, List.set_cons_zero, List.set_cons_succ]); first | done | rfl)))
  refine Kr.seqDoneW ?_
  have hk := H.c
  simp only [Kr.Cells] at hk
  go_wp2
  refine bodyPost_ret (v := .tuple #[.slice none 0 0, .int .i64 9]) (by simp [results, Try.results63, go_sem, hk]) rfl ⟨none, 0, 0, rfl, bt_none _, H.g⟩
set_option linter.unusedSimpArgs false in
set_option maxRecDepth 100000 in
set_option maxHeartbeats 16000000 in
theorem bytes_ok {pn : Option Addr} {nn cn x N m : Nat} {w : World} (hn : Nw w pn nn cn (digs x)) (hx : x < pw 64) (hN : N ≤ 1000) (hm : (low 256 x).reverse.length = m) (hfit : m ≤ N) :
    Calls Try.prog 63 #[.agg #[.slice pn nn cn], .int .i64 (N : Int)] w (BtE (pad N (low 256 x).reverse) 0 w) := by
  have HX := Lib.hid hx
  have h1 : ¬ (N : Int) < 0 := by omega
  have h2 : ¬ (1000 : Int) < (N : Int) := by omega
  have HM := Lib.hid hm; have HNL := Lib.hid hN; have HFI := Lib.hid hfit; have HD : Hid (∀ d ∈ (low 256 x).reverse, d < 256) := Lib.hid (fun d hd => low_lt (by decide) x d (List.mem_reverse.1 hd))
  clear hm
  have hdf : ¬ (N : Int) < (m : Int) := by omega
  have hsw : IntKind.i64.wrap ((N : Int) - (m : Int)) = ((N - m : Nat) : Int) := by rw [IntWalk.i64_in _ (by omega)]; omega
  have H := Sta.start w
  replace H := H.num hn
  go_enter Try.func63, Try.ntmps63
  go_upto_region 0 with fail
  refine Kr.seqStartW ?_
  refine Kr.seqR (by rfl) (fun K hK => ?_)
  go_simp
  obtain ⟨y1, hy⟩ : ∃ y, w.alloc (.cells #[.slice pn nn cn] 24) = y := ⟨_, rfl⟩
  obtain ⟨bn, hb⟩ : ∃ b, w.heap.size = b := ⟨_, rfl⟩
  rw [hy, hb]
  replace H := H.alloc hy hb rfl
  clear hy hb
  (refine Kr.outS hK (a' := ?_) ?_ ?_; rotate_left; (focus ((try simp only [Act.put, List.getElem_toArray, List.getElem_cons_zero, List.getElem_cons_succ, List.setIfInBounds_toArray, List.set_cons_zero, List.set_cons_succ]); first | done | rfl))); clear hK K
  iterate 2 (refine Kr.seqQ (v := ?_) (a' := ?_) (by rfl) ?_ ?_ ?_; rotate_left 2; (focus (go_simp; first | done | rfl)); (focus ((try simp only [Act.put, List.getElem_toArray, List.getElem_cons_zero, List.getElem_cons_succ, List.setIfInBounds_toArray, List.set_cons_zero, List.set_cons_succ]); first | done | rfl)))
  refine Kr.seqDoneW ?_
  go_upto_region 1 with fail
  refine Kr.seqStartW ?_
  have hk := H.c
  simp only [Kr.Cells] at hk
  (refine Kr.seqQ (v := ?_) (a' := ?_) (by rfl) ?_ ?_ ?_; rotate_left 2; (focus (go_simp; first | done | rfl)); (focus ((try simp only [Act.put, List.getElem_toArray, List.getElem_cons_zero, List.getElem_cons_succ, List.setIfInBounds_toArray, List.set_cons_zero, List.set_cons_succ]); first | done | rfl)))
  refine Kr.seqR (by rfl) (fun K hK => ?_)
  go_simp
  go_at_call 80
  refine (Valid_v (H.nw 0 rfl) HX.out).mono ?_
  rintro e y2 ⟨rfl, hg⟩
  clear hk
  replace H := H.grow hg
  clear hg
  (refine Kr.outS hK (a' := ?_) ?_ ?_; rotate_left; (focus ((try simp only [Act.put, List.getElem_toArray, List.getElem_cons_zero, List.getElem_cons_succ, List.setIfInBounds_toArray, List.set_cons_zero, List.set_cons_succ]); first | done | rfl))); clear hK K
  iterate 2 (refine Kr.seqQ (v := ?_) (a' := ?_) (by rfl) ?_ ?_ ?_; rotate_left 2; (focus (go_simp; first | done | rfl)); (focus ((try simp only [Act.put, List.getElem_toArray, List.getElem_cons_zero, List.getElem_cons_succ, List.setIfInBounds_toArray, List.set_cons_zero, List.set_cons_succ]); first | done | rfl)))
  refine Kr.seqDoneW ?_
  go_upto_region 3 with fail
  refine Kr.seqStartW ?_
  iterate 7 (refine Kr.seqQ (v := ?_) (a' := ?_) (by rfl) ?_ ?_ ?_; rotate_left 2; (focus (go_simp; first | done | rfl)); (focus ((try simp only [Act.put, List.getElem_toArray, List.getElem_cons_zero, List.getElem_cons_succ, List.setIfInBounds_toArray, List.set_cons_zero, List.set_cons_succ]); first | done | rfl)))
  refine Kr.seqDoneW ?_
  clear h1 h2
  go_upto_region 5 with fail
  refine Kr.seqStartW ?_
  have hk := H.c
  simp only [Kr.Cells] at hk
  (refine Kr.seqQ (v := ?_) (a' := ?_) (by rfl) ?_ ?_ ?_; rotate_left 2; (focus (go_simp; first | done | rfl)); (focus ((try simp only [Act.put, List.getElem_toArray, List.getElem_cons_zero, List.getElem_cons_succ, List.setIfInBounds_toArray, List.set_cons_zero, List.set_cons_succ]); first | done | rfl)))
  refine Kr.seqR (by rfl) (fun K hK => ?_)
  go_simp
  go_at_call 107
  refine (split_v (g := 256) (H.nw 0 rfl) HX.out ⟨by decide, by decide⟩).mono ?_
  rintro e y3 ⟨v, rfl, hrow, hg⟩
  clear hk
  replace H := H.grow hg
  obtain ⟨ps, cap, rfl, hps⟩ := hrow.form0
  rw [HM.out] at hps ⊢
  have HPS := Lib.hid hps
  clear hps hrow hg
  (refine Kr.outS hK (a' := ?_) ?_ ?_; rotate_left; (focus ((try simp only [Act.put, List.getElem_toArray, List.getElem_cons_zero, List.getElem_cons_succ, List.setIfInBounds_toArray, List.set_cons_zero, List.set_cons_succ]); first | done | rfl))); clear hK K
  (refine Kr.seqQ (v := ?_) (a' := ?_) (by rfl) ?_ ?_ ?_; rotate_left 2; (focus (go_simp; first | done | rfl)); (focus ((try simp only [Act.put, List.getElem_toArray, List.getElem_cons_zero, List.getElem_cons_succ, List.setIfInBounds_toArray, List.set_cons_zero, List.set_cons_succ]); first | done | rfl)))
  refine Kr.seqDoneW ?_
  go_upto_region 6 with fail
  refine Kr.seqStartW ?_
  iterate 4 (refine Kr.seqQ (v := ?_) (a' := ?_) (by rfl) ?_ ?_ ?_; rotate_left 2; (focus (go_simp; first | done | rfl)); (focus ((try simp only [Act.put, List.getElem_toArray, List.getElem_cons_zero, List.getElem_cons_succ, List.setIfInBounds_toArray, List.set_cons_zero, List.set_cons_succ]); first | done | rfl)))
  refine Kr.seqDoneW ?_
  clear hdf
  go_upto_region 8 with fail
  refine Kr.seqStartW ?_
  (refine Kr.seqQ (v := ?_) (a' := ?_) (by rfl) ?_ ?_ ?_; rotate_left 2; (focus (go_simp; first | done | rfl)); (focus ((try simp only [Act.put, List.getElem_toArray, List.getElem_cons_zero, List.getElem_cons_succ, List.setIfInBounds_toArray, List.set_cons_zero, List.set_cons_succ]); first | done | rfl)))
  refine Kr.seqR (by rfl) (fun K hK => ?_)
  refine wp_make8 N (.tmp 25) (.tmp 25) rfl rfl rfl (by have h := HNL.out; omega) ?_
  intro b yb hblk hg hb
  have HB : Hid (w.heap.size ≤ b) := Lib.hid (hb ▸ H.g.le)
  have HAP : Hid (∀ x ∈ ([(bn, 0, .slice pn nn cn)] : List (Nat × Nat × Value)), x.1 ≠ b) := Lib.hid (fun x hx e => Nat.lt_irrefl b (by have h := Fb.cells_lt H.c x hx; rw [e] at h; omega))
  have HBLK := Lib.hid hblk
  have HPS2 : Hid (m ≠ 0 → ∃ b, ps = some ⟨b, 0, none⟩ ∧ Rw b (low 256 x).reverse yb) := Lib.hid (fun h => by obtain ⟨b1, h1, h2⟩ := HPS.out h; exact ⟨b1, h1, h2.grow hg⟩)
  clear HPS hb hblk
  replace H := H.grow hg
  clear hg
  (refine Kr.outS hK (a' := ?_) ?_ ?_; rotate_left; (focus ((try simp only [Act.put, List.getElem_toArray, List.getElem_cons_zero, List.getElem_cons_succ, List.setIfInBounds_toArray, List.set_cons_zero, List.set_cons_succ]); first | done | rfl))); clear hK K
  (refine Kr.seqQ (v := ?_) (a' := ?_) (by rfl) ?_ ?_ ?_; rotate_left 2; (focus (go_simp; first | done | rfl)); (focus ((try simp only [Act.put, List.getElem_toArray, List.getElem_cons_zero, List.getElem_cons_succ, List.setIfInBounds_toArray, List.set_cons_zero, List.set_cons_succ]); first | done | rfl)))
  refine Kr.seqDoneW ?_
  obtain ⟨dp, hdp⟩ : ∃ dp, (if N = N - m then some ⟨b, 0, none⟩ else some ((⟨b, 0, none⟩ : Addr).add (N - m))) = dp := ⟨_, rfl⟩
  obtain ⟨dl, hdl⟩ : ∃ dl, N - (N - m) = dl := ⟨_, rfl⟩
  have HDE := Lib.hid hdp; have HDE2 := Lib.hid hdl; have HDL2 : Hid (dl = m) := Lib.hid (by have h := HFI.out; omega); have HDP : Hid (m ≠ 0 → dp = some ⟨b, N - m, none⟩) := Lib.hid (fun h0 => by have h := HFI.out; rw [← hdp, if_neg (by omega), addr_add, Nat.zero_add])
  clear hdp hdl
  go_upto_region 9 with fail
  refine Kr.seqStartW ?_
  iterate 5 (refine Kr.seqQ (v := ?_) (a' := ?_) (by rfl) ?_ ?_ ?_; rotate_left 2; (focus (go_simp; first | done | rfl)); (focus ((try simp only [Act.put, List.getElem_toArray, List.getElem_cons_zero, List.getElem_cons_succ, List.setIfInBounds_toArray, List.set_cons_zero, List.set_cons_succ]); first | done | rfl)))
  (refine Kr.seqQ (v := Value.slice dp dl dl) (a' := ?_) (by rfl) ?_ ?_ ?_; rotate_left 1; (focus (exact val_of rfl (by have h := run_end b N N (N - m) (Nat.sub_le _ _) yb; rw [HDE.out, HDE2.out] at h; exact h))); (focus ((try simp only [Act.put, List.getElem_toArray, List.getElem_cons_zero, List.getElem_cons_succ, List.setIfInBounds_toArray, List.set_cons_zero, List.set_cons_succ]); first | done | rfl)))
  (refine Kr.seqQ (v := ?_) (a' := ?_) (by rfl) ?_ ?_ ?_; rotate_left 2; (focus (go_simp; first | done | rfl)); (focus ((try simp only [Act.put, List.getElem_toArray, List.getElem_cons_zero, List.getElem_cons_succ, List.setIfInBounds_toArray, List.set_cons_zero, List.set_cons_succ]); first | done | rfl)))
  refine Kr.seqR (by rfl) (fun K hK => ?_)
  refine wp_copy8 (.tmp 32) (.tmp 33) rfl (dl := dl) rfl HDL2.out rfl HM.out HFI.out HDP.out HPS2.out HBLK.out ?_
  intro yc hrow hgr
  replace H := sta_row H hgr HB.out HAP.out
  have HR := Lib.hid hrow
  clear hrow hgr HPS2 HBLK
  (refine Kr.outS hK (a' := ?_) ?_ ?_; rotate_left; (focus ((try simp only [Act.put, List.getElem_toArray, List.getElem_cons_zero, List.getElem_cons_succ, List.setIfInBounds_toArray, List.set_cons_zero, List.set_cons_succ]); first | done | rfl))); clear hK K
  refine Kr.seqDoneW ?_
  clear hsw
  go_upto_region 10 with fail
  refine Kr.seqStartW ?_
  iterate 3 (refine Kr.seqQ (v := ?_) (a' := ?_) (by rfl) ?_ ?_ ?_; rotate_left 2; (focus (go_simp; first | done | rfl)); (focus ((try simp only [Act.put, List.getElem_toArray, List.getElem_cons_zero, List.getElem_cons_succ, List.setIfInBounds_toArray, List.set_cons_zero, List.set_cons_succ]); first | done | rfl)))
  refine Kr.seqDoneW ?_
  have hk := H.c
  simp only [Kr.Cells] at hk
  go_wp2
  refine bodyPost_ret (v := .tuple #[.slice (some ⟨b, 0, none⟩) N N, .int .i64 0]) (by simp [results, Try.results63, go_sem, hk]) rfl ⟨some ⟨b, 0, none⟩, N, N, rfl, HR.out.bt (pad_len (by rw [HM.out]; exact HFI.out)) (Nat.le_refl _) (pad_lt HD.out) (by have h := HNL.out; omega), H.g⟩
end Go.Proofs.Ytlciocebbckdcaa.Ff


/- The contracts of the fourth reference's Valid, trim and Same. -/
namespace Go.Proofs.Ytlciocebbckdcaa.Rf
open Go.RowKit Go.Shelf Go.Proofs.Ytlciocebbckdcaa.Nm Go.Proofs.Ytlciocebbckdcaa.Ne Go.Proofs.Ytlciocebbckdcaa.Nf Go.Proofs.Ytlciocebbckdcaa.Nk Go.Proofs.Ytlciocebbckdcaa.Nv Go.Proofs.Ytlciocebbckdcaa.Nr2 Go.Proofs.Ytlciocebbckdcaa.Mo

set_option maxHeartbeats 1000000 in
theorem valid4_any (p : Option Addr) (n c : Nat) (l : List Nat) (w : World) (hl : Nw w p n c l) :
    Calls Try.prog 55 #[.agg #[.slice p n c]] w fun e w' => e = .returned (.bool (decide (valid l))) ∧ Gr w w' := by
  have G0 := Lib.hid ((Gr.refl w).alloc (.cells #[.slice p n c] 24))
  have EN := Lib.hid hl.len
  rcases Nat.eq_zero_or_pos n with h0 | h0
  · have hv : decide (valid l) = true := decide_eq_true ⟨by rw [hl.len]; omega, .inl (by rw [hl.len]; exact h0)⟩
    rw [hv]
    subst h0
    clear hv hl
    go_enter Try.func55, Try.ntmps55
    go_wp2
    go_ret
    exact ⟨rfl, G0.out⟩
  · obtain ⟨b, off, rfl, hc⟩ := hl.rd.at (by rw [hl.len]; omega)
    obtain ⟨j, rfl⟩ : ∃ j, n = j + 1 := ⟨n - 1, by omega⟩
    have hcj := G0.out.cell (hc j (by rw [hl.len]; omega))
    have hx := ok_get hl.ok j
    have hn := hl.small
    have hv : decide (valid l) = (decide (j + 1 ≤ 64) && decide (l[j]?.getD 0 ≠ 0)) := by
      rw [Bool.eq_iff_iff, Bool.and_eq_true, decide_eq_true_iff, decide_eq_true_iff, decide_eq_true_iff]
      unfold valid Nm.tight
      rw [hl.len, Nat.add_sub_cancel]
      exact ⟨fun ⟨a, b⟩ => ⟨a, b.resolve_left (Nat.succ_ne_zero j)⟩, fun ⟨a, b⟩ => ⟨a, .inr b⟩⟩
    rw [hv]
    clear hc hl hv
    generalize l[j]?.getD 0 = x at *
    by_cases h64 : j + 1 ≤ 64
    · by_cases hx0 : x = 0
      · subst hx0
        go_enter Try.func55, Try.ntmps55
        go_wp2
        go_ret
        exact ⟨by simp; omega, G0.out⟩
      · go_enter Try.func55, Try.ntmps55
        go_wp2
        go_ret
        exact ⟨by simp [h64, hx0], G0.out⟩
    · go_enter Try.func55, Try.ntmps55
      go_wp2
      go_ret
      exact ⟨by simp <;> omega, G0.out⟩


set_option maxHeartbeats 1000000 in
theorem same4_len (p q : Option Addr) (n m c d : Nat) (w : World) (h : n ≠ m) :
    Calls Try.prog 62 #[.agg #[.slice p n c], .agg #[.slice q m d]] w fun e w' => e = .returned (.bool false) ∧ Gr w w' := by
  have G0 := Lib.hid (((Gr.refl w).alloc (.cells #[.slice p n c] 24)).alloc (.cells #[.slice q m d] 24))
  have h1 : ((n : Int) != (m : Int)) = true := by simp; omega
  clear h
  go_enter Try.func62, Try.ntmps62
  go_wp2
  go_ret
  exact ⟨rfl, G0.out⟩
set_option maxHeartbeats 1000000 in
theorem same4_eq (p q : Option Addr) (n c d : Nat) (l k : List Nat) (w : World) (hl : Nw w p n c l) (hk : Nw w q n d k) :
    Calls Try.prog 62 #[.agg #[.slice p n c], .agg #[.slice q n d]] w fun e w' => e = .returned (.bool (decide (l = k))) ∧ Gr w w' := by
  have HL := Lib.hid hl
  have HK := Lib.hid hk
  have hn := hl.small
  have G0 := Lib.hid (((Gr.refl w).alloc (.cells #[.slice p n c] 24)).alloc (.cells #[.slice q n d] 24))
  clear hl hk
  go_enter Try.func62, Try.ntmps62
  go_wp2
  go_loopw [5] (fun i wr => ∃ k' : Nat, k' ≤ n ∧ i = .int .i64 k' ∧ SameTo l k k' ∧ wr.cell? ⟨w.heap.size, 0, none⟩ = some (.slice p n c) ∧ wr.cell? ⟨w.heap.size + 1, 0, none⟩ = some (.slice q n d) ∧ Gr w wr) (fun i _ => n - (intOf i).toNat)
  case atStart => exact ⟨0, Nat.zero_le _, rfl, (fun i hi => absurd hi (Nat.not_lt_zero i)), by simp [go_sem], by simp [go_sem], G0.out⟩
  case round =>
    obtain ⟨k', hk, rfl, hS, b1, b2, hG⟩ := hrel
    have HS := Lib.hid hS
    have HG := Lib.hid hG
    clear hS hG
    by_cases hlt : k' < n
    · obtain ⟨b, off, rfl, hc⟩ := (HG.out.rd HL.out.rd).at (by rw [HL.out.len]; omega)
      have hc1 := hc k' (by rw [HL.out.len]; omega)
      clear hc
      obtain ⟨b', off', rfl, hc⟩ := (HG.out.rd HK.out.rd).at (by rw [HK.out.len]; omega)
      have hc2 := hc k' (by rw [HK.out.len]; omega)
      clear hc
      obtain ⟨x, hx⟩ : ∃ x, l[k']?.getD 0 = x := ⟨_, rfl⟩
      obtain ⟨y, hy⟩ : ∃ y, k[k']?.getD 0 = y := ⟨_, rfl⟩
      rw [hx] at hc1
      rw [hy] at hc2
      have HX := Lib.hid hx
      have HY := Lib.hid hy
      clear hx hy
      have hk0 : (0 : Int) ≤ (k' : Int) := by omega
      have hk1 : (k' : Int) < (n : Int) := by omega
      have hk2 : IntKind.i64.wrap ((k' : Int) + 1) = (k' : Int) + 1 := IntWalk.i64_in _ (by omega)
      by_cases hxy : x = y
      · subst hxy
        go_wp2
        go_quiet (fail)
        go_wp2
        go_roundw
        case rel => exact ⟨k' + 1, by omega, by go_num, (fun i hi => by
          by_cases e : i = k'
          · subst e; rw [HX.out, HY.out]
          · exact HS.out i (by omega)), b1, b2, HG.out.drewN _⟩
        case measure => simp [intOf]; omega
      · have hne : ((x : Int) != (y : Int)) = true := by simp; omega
        have HN := Lib.hid hxy
        clear hxy
        go_wp2
        go_quiet (fail)
        go_wp2
        go_ret
        refine ⟨?_, HG.out.drewN _⟩
        show Ending.returned (.bool false) = _
        rw [decide_eq_false]
        rintro rfl
        exact HN.out (HX.out.symm.trans HY.out)
    · obtain rfl : k' = n := by omega
      go_wp2
      go_ret
      refine ⟨?_, HG.out⟩
      show Ending.returned (.bool true) = _
      rw [decide_eq_true]
      exact SameTo.eq (by rw [HL.out.len]; exact HS.out) (by rw [HL.out.len, HK.out.len])
theorem same4_any (p q : Option Addr) (n m c d : Nat) (l k : List Nat) (w : World) (hl : Nw w p n c l) (hk : Nw w q m d k) :
    Calls Try.prog 62 #[.agg #[.slice p n c], .agg #[.slice q m d]] w fun e w' => e = .returned (.bool (decide (l = k))) ∧ Gr w w' := by
  by_cases h : n = m
  · subst h; exact same4_eq p q n c d l k w hl hk
  · rw [decide_eq_false (fun e => h (by rw [← hl.len, ← hk.len, e]))]
    exact same4_len p q n m c d w h
set_option maxRecDepth 100000 in
set_option maxHeartbeats 2000000 in
theorem trim4_any (p : Option Addr) (n c : Nat) (l : List Nat) (w : World) (h : Nw w p n c l) :
    Calls Try.prog 124 #[.slice p n c] w fun e w' => ∃ k, e = .returned (.slice p k c) ∧ k ≤ n ∧ l.take k = digs (val l) ∧ Gr w w' := by
  have HL := Lib.hid h
  have hn := h.small
  have hle := h.le
  clear h
  go_enter Try.func124, Try.ntmps124
  go_wp2
  go_loopw [0] (fun s wr => ∃ k : Nat, k ≤ n ∧ s = .slice p k c ∧ Hid (∀ i, k ≤ i → l[i]?.getD 0 = 0) ∧ Hid (Gr w wr)) (fun s _ => match s with | .slice _ k _ => k | _ => 0)
  case atStart => exact ⟨n, Nat.le_refl _, rfl, (fun i hi => by rw [List.getElem?_eq_none (by rw [HL.out.len]; exact hi)]; rfl), Lib.hid (Gr.refl w)⟩
  case round =>
    obtain ⟨k, hk, rfl, HS, HG⟩ := hrel
    rcases Nat.eq_zero_or_pos k with h0 | h0
    · subst h0
      have HT := Lib.hid (trim_done HL.out.ok (Nat.zero_le _) HS.out (fun h => absurd h (Nat.lt_irrefl 0)))
      go_wp2
      go_ret
      exact ⟨0, rfl, Nat.zero_le _, HT.out, HG.out⟩
    · obtain ⟨j, rfl⟩ : ∃ j, k = j + 1 := ⟨k - 1, by omega⟩
      obtain ⟨b, off, rfl, hc⟩ := (HG.out.rd HL.out.rd).at (by rw [HL.out.len]; omega)
      have hc1 := hc j (by rw [HL.out.len]; omega)
      clear hc
      obtain ⟨u, hu⟩ : ∃ u, l[j]?.getD 0 = u := ⟨_, rfl⟩
      rw [hu] at hc1
      have HU := Lib.hid hu
      clear hu h0
      by_cases h0 : u = 0
      · subst h0
        go_wp2
        go_roundw
        case rel =>
          refine ⟨j, by omega, ?_, (fun i hi => by
            by_cases e : i = j
            · subst e; exact HU.out
            · exact HS.out i (by omega)), HG⟩
          first | rfl | (congr 1; omega) | simp
        case measure => first | omega | (simp; done) | (simp <;> omega)
      · have HT := Lib.hid (trim_done HL.out.ok (k := j + 1) (by rw [HL.out.len]; exact hk) HS.out (fun _ => by rw [Nat.add_sub_cancel, HU.out]; exact h0))
        have hu1 : ¬ (u : Int) = 0 := by omega
        go_wp2
        go_ret
        exact ⟨j + 1, rfl, hk, HT.out, HG.out⟩

theorem trim4_nw (p : Option Addr) (n c : Nat) (l : List Nat) (w : World) (h : Nw w p n c l) :
    Calls Try.prog 124 #[.slice p n c] w fun e w' => ∃ k, e = .returned (.slice p k c) ∧ Nw w' p k c (digs (val l)) ∧ Gr w w' := by
  refine (trim4_any p n c l w h).mono ?_
  rintro e w' ⟨k, rfl, hk, ht, hg⟩
  have h2 := h.grow hg
  refine ⟨k, rfl, ⟨?_, Nat.le_trans hk h2.le, fun e => ⟨by have := (h2.nil e).1; omega, (h2.nil e).2⟩, ?_, ok_digs _, Nat.le_trans hk h2.small⟩, hg⟩
  · rw [← ht, List.length_take, h2.len]; omega
  · rw [← ht]; exact h2.rd.take k
end Go.Proofs.Ytlciocebbckdcaa.Rf


/- Short division of words, and words beside a walk. -/
namespace Go.Proofs.Ytlciocebbckdcaa.Rf
open Go Go.RowKit Go.Proofs.Ytlciocebbckdcaa.Nm Go.Proofs.Ytlciocebbckdcaa.Ne Go.Proofs.Ytlciocebbckdcaa.Nf Go.Proofs.Ytlciocebbckdcaa.Nk Go.Proofs.Ytlciocebbckdcaa.Nr2 Go.Proofs.Ytlciocebbckdcaa.Kr Go.Proofs.Ytlciocebbckdcaa.Fb

/-- The quotient's words, and the rest. -/
def qd (d : Nat) : List Nat → List Nat × Nat
  | [] => ([], 0)
  | a :: l => (((qd d l).2 * 4294967296 + a) / d :: (qd d l).1, ((qd d l).2 * 4294967296 + a) % d)
theorem qd_rest {d : Nat} (hd : 0 < d) (l : List Nat) : (qd d l).2 < d := by
  cases l with
  | nil => exact hd
  | cons a l => exact Nat.mod_lt _ hd
theorem qd_val (d : Nat) (l : List Nat) : val (qd d l).1 * d + (qd d l).2 = val l := by
  induction l with
  | nil => simp [qd, val]
  | cons a l ih =>
    have h := Nat.div_add_mod ((qd d l).2 * 4294967296 + a) d
    simp only [qd, val]
    rw [Nat.add_mul, Nat.mul_assoc, Nat.mul_comm _ d]
    have e : 4294967296 * val l = 4294967296 * (val (qd d l).1 * d) + (qd d l).2 * 4294967296 := by rw [← ih, Nat.mul_add, Nat.mul_comm _ (qd d l).2]
    omega
theorem qd_div {d : Nat} (hd : 0 < d) (l : List Nat) : val (qd d l).1 = val l / d ∧ (qd d l).2 = val l % d := by
  have h := qd_val d l
  have h2 := qd_rest hd l
  rw [← h]
  exact ⟨by rw [Nat.mul_comm, Nat.mul_add_div hd, Nat.div_eq_of_lt h2, Nat.add_zero], by rw [Nat.mul_comm, Nat.mul_add_mod, Nat.mod_eq_of_lt h2]⟩
theorem qd_word {d a : Nat} (hd : 0 < d) {l : List Nat} (ha : a < 4294967296) : ((qd d l).2 * 4294967296 + a) / d < 4294967296 := by
  refine Nat.div_lt_of_lt_mul ?_
  have h2 := qd_rest hd l
  have h3 := Nat.mul_le_mul_right 4294967296 (show (qd d l).2 + 1 ≤ d from h2)
  omega
theorem qd_ok {d : Nat} (hd : 0 < d) {l : List Nat} (h : ok l) : ok (qd d l).1 := by
  induction l with
  | nil => exact ok_nil
  | cons a l ih =>
    obtain ⟨h1, h2⟩ := ok_cons.1 h
    exact ok_cons.2 ⟨qd_word hd h1, ih h2⟩
theorem qd_length (d : Nat) (l : List Nat) : (qd d l).1.length = l.length := by
  induction l with
  | nil => rfl
  | cons a l ih => simp [qd, ih]
/-- The row when j words are still to come. -/
def qrow (d : Nat) (l : List Nat) (j : Nat) : List Nat := List.replicate j 0 ++ (qd d (l.drop j)).1
theorem qrow_len {d : Nat} {l : List Nat} {j : Nat} (h : j ≤ l.length) : (qrow d l j).length = l.length := by simp [qrow, qd_length]; omega
theorem qrow_start (d : Nat) (l : List Nat) : qrow d l l.length = List.replicate l.length 0 := by simp [qrow, qd]
theorem qrow_done (d : Nat) (l : List Nat) : qrow d l 0 = (qd d l).1 := by simp [qrow]
theorem drop_step {l : List Nat} {j : Nat} (h : j < l.length) : l.drop j = l[j]?.getD 0 :: l.drop (j + 1) := by
  rw [List.drop_eq_getElem_cons h, List.getElem?_eq_getElem h]; rfl
theorem qrow_set {d : Nat} {l : List Nat} {j : Nat} (h : j < l.length) : (qrow d l (j + 1)).set j (((qd d (l.drop (j + 1))).2 * 4294967296 + l[j]?.getD 0) / d) = qrow d l j := by
  simp only [qrow]
  rw [drop_step h, List.replicate_succ', List.append_assoc, List.set_append_right _ _ (by simp)]
  simp [qd]
theorem qrest_step {d : Nat} {l : List Nat} {j : Nat} (h : j < l.length) : (qd d (l.drop j)).2 = ((qd d (l.drop (j + 1))).2 * 4294967296 + l[j]?.getD 0) % d := by
  rw [drop_step h]; rfl
theorem bits_or64 (a b : Nat) (ha : a < 18446744073709551616) (hb : b < 18446744073709551616) : bits .or .u64 (a : Int) (b : Int) = ((a ||| b : Nat) : Int) := by
  have x2 : a ||| b < 2 ^ 64 := Nat.or_lt_two_pow (by omega) (by omega)
  have h1 : (BitVec.ofInt 64 (a : Int)).toNat = a := by
    rw [BitVec.ofInt_natCast, BitVec.toNat_ofNat]; exact Nat.mod_eq_of_lt (by omega)
  have h2 : (BitVec.ofInt 64 (b : Int)).toNat = b := by
    rw [BitVec.ofInt_natCast, BitVec.toNat_ofNat]; exact Nat.mod_eq_of_lt (by omega)
  show IntKind.u64.wrap ((BitVec.ofInt 64 (a : Int) ||| BitVec.ofInt 64 (b : Int)).toNat : Int) = _
  rw [BitVec.toNat_or, h1, h2, IntKind.wrap_u64]
  omega
theorem or64 {r a : Nat} (hr : r < 4294967296) (ha : a < 4294967296) : bits .or .u64 ((r : Int) * 4294967296) (a : Int) = ((r * 4294967296 + a : Nat) : Int) := by
  have h1 := Nat.shiftLeft_add_eq_or_of_lt (show a < 2 ^ 32 from ha) r
  rw [Nat.shiftLeft_eq] at h1
  have h2 : ((r : Int) * 4294967296) = ((r * 2 ^ 32 : Nat) : Int) := by omega
  rw [h2, bits_or64 _ _ (by omega) (by omega), ← h1]
theorem run_quo64 {w : World} {x d q : Nat} (h0 : 0 < d) (hx : x < 18446744073709551616) (hq : x / d = q) : (binOp .quo 42 (.int .u64 (x : Int)) (.int .u64 (d : Int))).run Try.prog w = .ok (.int .u64 (q : Int)) w := by
  have hd0 : ¬ d = 0 := by omega
  have h1 : IntKind.u64.wrap ((x : Int) / (d : Int)) = (q : Int) := by
    rw [← Int.natCast_ediv, hq, IntKind.wrap_u64]
    have := Nat.div_le_self x d
    omega
  clear hq
  go_simp
theorem run_rem64 {w : World} {x d q : Nat} (h0 : 0 < d) (hq : x % d = q) : (binOp .rem 42 (.int .u64 (x : Int)) (.int .u64 (d : Int))).run Try.prog w = .ok (.int .u64 (q : Int)) w := by
  have hd0 : ¬ d = 0 := by omega
  have h1 : (x : Int).tmod (d : Int) = (q : Int) := by
    rw [Int.tmod_eq_emod_of_nonneg (by omega), ← Int.natCast_emod, hq]
  clear hq
  go_simp
theorem run_64_32 {w : World} {x : Nat} (hx : x < 4294967296) : (convert 42 50 (.int .u64 (x : Int))).run Try.prog w = .ok (.int .u32 (x : Int)) w := by
  have : IntKind.u32.wrap (x : Int) = (x : Int) := by rw [IntKind.wrap_u32]; omega
  go_simp
theorem run_64_8 {w : World} {x : Nat} (hx : x < 256) : (convert 42 5 (.int .u64 (x : Int))).run Try.prog w = .ok (.int .u8 (x : Int)) w := by
  have : IntKind.u8.wrap (x : Int) = (x : Int) := IntWalk.u8_in _ (by omega)
  go_simp
theorem run_8_64 {w : World} {x : Nat} (hx : x < 256) : (convert 5 42 (.int .u8 (x : Int))).run Try.prog w = .ok (.int .u64 (x : Int)) w := by
  have : IntKind.u64.wrap (x : Int) = (x : Int) := by rw [IntKind.wrap_u64]; omega
  go_simp
/-- A word is stored into a row of one's own. -/
theorem sta_word {w W y : World} {p : Option Addr} {n c b i x : Nat} {l : List Nat} (H : Sta w W [] [Ws p n c l]) (ha : Av b p l) (hb : w.heap.size ≤ b) (hy : W.setCell ⟨b, i, none⟩ (.int .u32 (x : Int)) = y) : Sta w y [] [Ws p n c l] := by
  subst hy
  refine ⟨H.g.setCell hb _, trivial, (fun x h => by cases h), List.Pairwise.nil, fun F hF => ?_, H.k⟩
  rw [List.mem_singleton.1 hF]
  exact nw_put (H.ws 0 rfl) ha _
theorem made_cw (n : Nat) : madeCells (Value.int .u32 0).cells (n * 1) = (cw (List.replicate n 0)).toArray := by
  apply Array.ext_getElem?
  intro i
  by_cases hi : i < n
  · simp [madeCells, Value.cells, cw, hi]
    rw [Nat.mod_one]
    rfl
  · rw [Array.getElem?_eq_none (by simp [madeCells]; omega), Array.getElem?_eq_none (by simp [cw]; omega)]
/-- make([]uint32, n). -/
theorem wp_make32 {o : Oper} {a : Act} {w : World} {K : Act → World → Prop} {Q : Exit → Act → World → Prop} (n : Nat) (x x2 : Operand) (ho : o.op = .makeSlice 22 x x2) (hx : a.eval x = .int .i64 (n : Int)) (hx2 : a.eval x2 = .int .i64 (n : Int)) (hn : n ≤ 2000000)
    (h : ∀ b y, Hold y b 0 (List.replicate n 0) → Gr w y → w.heap.size = b → K (a.put o.dst (.slice (some ⟨b, 0, none⟩) n n)) y) : o.wp Try.prog a w K Q := by
  obtain ⟨i0, hi, hz0, hz1, hz2⟩ := info_parts infoW
  have hr := run_make (P := Try.prog) w 22 50 i0 (.int .u32 0) Try.underlying22 hi hz0 .i64 .i64 n n (by omega) (by omega) (by rw [hz2]; omega) (by omega)
  rw [hz1, Int.toNat_natCast, show Instr.makeSlice 22 (.int .i64 (n : Int)) (.int .i64 (n : Int)) = Instr.makeSlice 22 (a.eval x) (a.eval x2) by rw [hx, hx2]] at hr
  have he : execOp a.eval o = Instr.makeSlice 22 (a.eval x) (a.eval x2) >>= fun x => pure (Next.value x) := by unfold execOp; rw [ho]
  refine wp_run (val_of he hr) (h _ _ ?_ ((Gr.refl _).alloc _) rfl)
  refine hold_block ?_
  show (w.heap.push _)[w.heap.size]? = _
  rw [made_cw]
  simp
end Go.Proofs.Ytlciocebbckdcaa.Rf


/- The contract of the fourth reference's divide. -/
namespace Go.Proofs.Ytlciocebbckdcaa.Rf
open Go.RowKit Go.Shelf Go.Proofs.Ytlciocebbckdcaa.Nm Go.Proofs.Ytlciocebbckdcaa.Ne Go.Proofs.Ytlciocebbckdcaa.Nf Go.Proofs.Ytlciocebbckdcaa.Nk Go.Proofs.Ytlciocebbckdcaa.Nv Go.Proofs.Ytlciocebbckdcaa.Nr2 Go.Proofs.Ytlciocebbckdcaa.Kr Go.Proofs.Ytlciocebbckdcaa.Fb Go.Proofs.Ytlciocebbckdcaa.Ff Go.Proofs.Ytlciocebbckdcaa.Mo

set_option linter.unusedSimpArgs false in
set_option maxRecDepth 100000 in
set_option maxHeartbeats 16000000 in
theorem divide4_v {p : Option Addr} {n c d : Nat} {l : List Nat} {w : World} (h : Nw w p n c l) (hd : 0 < d ∧ d ≤ 65536) :
    Calls Try.prog 102 #[.slice p n c, .int .u64 (d : Int)] w fun e w' => ∃ (q : Option Addr) (m k : Nat), e = .returned (.tuple #[.slice q m k, .int .u64 ((val l % d : Nat) : Int)]) ∧ Nw w' q m k (digs (val l / d)) ∧ Gr w w' := by
  have HL := Lib.hid h; have HD := Lib.hid hd; have HD0 : Hid (0 < d) := Lib.hid hd.1; have hn := h.small; have HEN := Lib.hid h.len
  clear h
  have H := Sta.start w
  go_enter Try.func102, Try.ntmps102
  replace H := H.add (keepWs _ _ _ _) HL.out
  go_upto_region 0 with fail
  refine Kr.seqStartW ?_
  iterate 2 (refine Kr.seqQ (v := ?_) (a' := ?_) (by rfl) ?_ ?_ ?_; rotate_left 2; (focus (go_simp; first | done | rfl)); (focus ((try simp only [Act.put, List.getElem_toArray, List.getElem_cons_zero, List.getElem_cons_succ, List.setIfInBounds_toArray, List.set_cons_zero, List.set_cons_succ]); first | done | rfl)))
  refine Kr.seqDoneW ?_
  have nw : IntKind.i64.wrap ((n : Int) - 1) = (n : Int) - 1 := IntWalk.i64_in _ (by omega)
  go_upto_region 1 with fail
  refine Kr.seqStartW ?_
  iterate 2 (refine Kr.seqQ (v := ?_) (a' := ?_) (by rfl) ?_ ?_ ?_; rotate_left 2; (focus (go_simp; first | done | rfl)); (focus ((try simp only [Act.put, List.getElem_toArray, List.getElem_cons_zero, List.getElem_cons_succ, List.setIfInBounds_toArray, List.set_cons_zero, List.set_cons_succ]); first | done | rfl)))
  refine Kr.seqR (by rfl) (fun K hK => ?_)
  refine wp_make32 n (.tmp 11) (.tmp 11) rfl rfl rfl (by omega) ?_
  intro b yb hblk hg hb
  have HB : Hid (w.heap.size ≤ b) := Lib.hid (hb ▸ H.g.le); have HAV : Hid (Av b p l) := Lib.hid (av_new (H.ws 0 rfl) (Nat.le_of_eq hb)); have HR := Lib.hid hblk
  clear hb hblk
  replace H := H.grow hg
  clear hg
  (refine Kr.outS hK (a' := ?_) ?_ ?_; rotate_left; (focus ((try simp only [Act.put, List.getElem_toArray, List.getElem_cons_zero, List.getElem_cons_succ, List.setIfInBounds_toArray, List.set_cons_zero, List.set_cons_succ]); first | done | rfl))); clear hK K
  (refine Kr.seqQ (v := ?_) (a' := ?_) (by rfl) ?_ ?_ ?_; rotate_left 2; (focus (go_simp; first | done | rfl)); (focus ((try simp only [Act.put, List.getElem_toArray, List.getElem_cons_zero, List.getElem_cons_succ, List.setIfInBounds_toArray, List.set_cons_zero, List.set_cons_succ]); first | done | rfl)))
  refine Kr.seqDoneW ?_
  go_upto_region 2 with fail
  refine Kr.seqStartW ?_
  (refine Kr.seqQ (v := ?_) (a' := ?_) (by rfl) ?_ ?_ ?_; rotate_left 2; (focus (go_simp; first | done | rfl)); (focus ((try simp only [Act.put, List.getElem_toArray, List.getElem_cons_zero, List.getElem_cons_succ, List.setIfInBounds_toArray, List.set_cons_zero, List.set_cons_succ]); first | done | rfl)))
  refine Kr.seqDoneW ?_
  go_upto_region 3 with fail
  refine Kr.seqStartW ?_
  iterate 4 (refine Kr.seqQ (v := ?_) (a' := ?_) (by rfl) ?_ ?_ ?_; rotate_left 2; (focus (go_simp; first | done | rfl)); (focus ((try simp only [Act.put, List.getElem_toArray, List.getElem_cons_zero, List.getElem_cons_succ, List.setIfInBounds_toArray, List.set_cons_zero, List.set_cons_succ]); first | done | rfl)))
  refine Kr.seqDoneW ?_
  clear nw
  have H2 := Lib.hid H
  have HR2 : Hid (Hold yb b 0 (qrow d l n)) := Lib.hid (by rw [← HEN.out, qrow_start, HEN.out]; exact HR.out)
  go_wp2
  go_loopg [7, 8, 9] n (fun k r i _ wr => ∃ (j : Nat) (z : Int), j ≤ k ∧ j ≤ n ∧ z = (j : Int) - 1 ∧ i = .int .i64 z ∧ r = .int .u64 (((qd d (l.drop j)).2 : Nat) : Int) ∧ Hid (Hold wr b 0 (qrow d l j)) ∧ Hid (Sta w wr [] [Ws p n c l]))
  case atStart => exact ⟨n, _, Nat.le_refl _, Nat.le_refl _, rfl, rfl, by rw [List.drop_of_length_le (by rw [HEN.out]; exact Nat.le_refl _)]; rfl, HR2, H2⟩
  case round =>
    clear H H2 HR HR2
    obtain ⟨j, z, hjk, hjn, hz, rfl, rfl, HR, HH⟩ := hrel
    have H := HH.out
    clear HH
    rcases j with _ | j
    · obtain rfl : z = -1 := by omega
      clear hz hjk hjn
      rw [qrow_done] at HR
      obtain ⟨r0, hr0⟩ : ∃ r0, (qd d (l.drop 0)).2 = r0 := ⟨_, rfl⟩
      have HR0 := Lib.hid hr0
      rw [hr0]
      clear hr0
      go_upto_region 4 with fail
      refine Kr.seqStartW ?_
      iterate 2 (refine Kr.seqQ (v := ?_) (a' := ?_) (by rfl) ?_ ?_ ?_; rotate_left 2; (focus (go_simp; first | done | rfl)); (focus ((try simp only [Act.put, List.getElem_toArray, List.getElem_cons_zero, List.getElem_cons_succ, List.setIfInBounds_toArray, List.set_cons_zero, List.set_cons_succ]); first | done | rfl)))
      refine Kr.seqDoneW ?_
      go_upto_region 9 with fail
      refine Kr.seqStartW ?_
      (refine Kr.seqQ (v := ?_) (a' := ?_) (by rfl) ?_ ?_ ?_; rotate_left 2; (focus (go_simp; first | done | rfl)); (focus ((try simp only [Act.put, List.getElem_toArray, List.getElem_cons_zero, List.getElem_cons_succ, List.setIfInBounds_toArray, List.set_cons_zero, List.set_cons_succ]); first | done | rfl)))
      refine Kr.seqR (by rfl) (fun K hK => ?_)
      go_simp
      go_at_call 124
      have hnw : Nw wr (some ⟨b, 0, none⟩) n n (qd d l).1 := ⟨by rw [qd_length, HEN.out], Nat.le_refl _, (fun e => by cases e), .inr ⟨b, 0, rfl, fun i hi => (HR.out i hi).1⟩, qd_ok HD0.out HL.out.ok, hn⟩
      refine (trim4_nw _ _ _ _ _ hnw).mono ?_
      rintro e y1 ⟨m, rfl, hr, hg⟩
      replace H := H.grow hg
      have HRR := Lib.hid hr
      clear hr hg hnw
      (refine Kr.outS hK (a' := ?_) ?_ ?_; rotate_left; (focus ((try simp only [Act.put, List.getElem_toArray, List.getElem_cons_zero, List.getElem_cons_succ, List.setIfInBounds_toArray, List.set_cons_zero, List.set_cons_succ]); first | done | rfl))); clear hK K
      iterate 3 (refine Kr.seqQ (v := ?_) (a' := ?_) (by rfl) ?_ ?_ ?_; rotate_left 2; (focus (go_simp; first | done | rfl)); (focus ((try simp only [Act.put, List.getElem_toArray, List.getElem_cons_zero, List.getElem_cons_succ, List.setIfInBounds_toArray, List.set_cons_zero, List.set_cons_succ]); first | done | rfl)))
      refine Kr.seqDoneW ?_
      have hk : True := trivial
      go_wp2
      refine bodyPost_ret (v := .tuple #[.slice (some ⟨b, 0, none⟩) m n, .int .u64 (r0 : Int)]) (by simp [results, Try.results102, go_sem, hk]) rfl ⟨some ⟨b, 0, none⟩, m, n, by rw [← HR0.out, List.drop_zero, (qd_div HD0.out l).2], by rw [← (qd_div HD0.out l).1]; exact HRR.out, H.g⟩
    · obtain rfl : z = (j : Int) := by omega
      clear hz
      have hjl : j < l.length := by rw [HEN.out]; exact hjn
      have hset := Lib.hid (qrow_set (d := d) hjl); have hrest := Lib.hid (qrest_step (d := d) hjl); have HQW := Lib.hid (qd_word (l := l.drop (j + 1)) HD0.out (ok_get HL.out.ok j))
      obtain ⟨b0, off, ep, hc⟩ := (H.ws 0 rfl).rd.at (by rw [HEN.out]; omega)
      replace hc := hc j hjl
      have hrl : (qd d (l.drop (j + 1))).2 < d := qd_rest HD0.out _
      obtain ⟨r, hr⟩ : ∃ r, (qd d (l.drop (j + 1))).2 = r := ⟨_, rfl⟩
      rw [hr] at hset hrest hrl HQW
      rw [hr]
      clear hr
      have hal := ok_get HL.out.ok j
      obtain ⟨a, ha⟩ : ∃ a, l[j]?.getD 0 = a := ⟨_, rfl⟩
      rw [ha] at hset hrest hc hal HQW
      clear ha
      have hdd := HD.out.2
      have hs1 : IntKind.u64.wrap ((r : Int) * 4294967296) = (r : Int) * 4294967296 := by rw [IntKind.wrap_u64]; omega
      have hs2 : bits .or .u64 ((r : Int) * 4294967296) (a : Int) = ((r * 4294967296 + a : Nat) : Int) := or64 (by omega) hal
      have hs3 : IntKind.u64.wrap (a : Int) = (a : Int) := by rw [IntKind.wrap_u64]; omega
      have j0 : (0 : Int) ≤ (j : Int) := by omega
      have j1 : (j : Int) < (n : Int) := by omega
      have jt : ((j : Int)).toNat = j := by omega
      have HXB : Hid (r * 4294967296 + a < 18446744073709551616) := Lib.hid (by omega)
      subst ep
      go_upto_region 4 with fail
      refine Kr.seqStartW ?_
      iterate 2 (refine Kr.seqQ (v := ?_) (a' := ?_) (by rfl) ?_ ?_ ?_; rotate_left 2; (focus (go_simp; first | done | rfl)); (focus ((try simp only [Act.put, List.getElem_toArray, List.getElem_cons_zero, List.getElem_cons_succ, List.setIfInBounds_toArray, List.set_cons_zero, List.set_cons_succ]); first | done | rfl)))
      refine Kr.seqDoneW ?_
      go_upto_region 6 with fail
      refine Kr.seqStartW ?_
      iterate 5 (refine Kr.seqQ (v := ?_) (a' := ?_) (by rfl) ?_ ?_ ?_; rotate_left 2; (focus (go_simp; first | done | rfl)); (focus ((try simp only [Act.put, List.getElem_toArray, List.getElem_cons_zero, List.getElem_cons_succ, List.setIfInBounds_toArray, List.set_cons_zero, List.set_cons_succ]); first | done | rfl)))
      iterate 4 (refine Kr.seqQ (v := ?_) (a' := ?_) (by rfl) ?_ ?_ ?_; rotate_left 2; (focus (go_simp; first | done | rfl)); (focus ((try simp only [Act.put, List.getElem_toArray, List.getElem_cons_zero, List.getElem_cons_succ, List.setIfInBounds_toArray, List.set_cons_zero, List.set_cons_succ]); first | done | rfl)))
      refine Kr.seqDoneW ?_
      clear hc hs1 hs2 hs3 hal
      obtain ⟨x, hx⟩ : ∃ x, r * 4294967296 + a = x := ⟨_, rfl⟩
      rw [hx] at hset hrest HQW HXB
      have hx2 : (r : Int) * 4294967296 + (a : Int) = (x : Int) := by omega
      rw [hx2]
      clear hx hx2
      obtain ⟨q, hq⟩ : ∃ q, x / d = q := ⟨_, rfl⟩
      obtain ⟨e, he⟩ : ∃ e, x % d = e := ⟨_, rfl⟩
      rw [hq] at hset HQW
      rw [he] at hrest
      have HQ := Lib.hid hq; have HE := Lib.hid he
      clear hq he
      have HJL := Lib.hid hjl
      clear hjl
      go_upto_region 7 with fail
      refine Kr.seqStartW ?_
      iterate 4 (refine Kr.seqQ (v := ?_) (a' := ?_) (by rfl) ?_ ?_ ?_; rotate_left 2; (focus (go_simp; first | done | rfl)); (focus ((try simp only [Act.put, List.getElem_toArray, List.getElem_cons_zero, List.getElem_cons_succ, List.setIfInBounds_toArray, List.set_cons_zero, List.set_cons_succ]); first | done | rfl)))
      (refine Kr.seqQ (v := .int .u64 (q : Int)) (a' := ?_) (by rfl) ?_ ?_ ?_; rotate_left 1; (focus (exact val_of rfl (run_quo64 HD0.out HXB.out HQ.out))); (focus ((try simp only [Act.put, List.getElem_toArray, List.getElem_cons_zero, List.getElem_cons_succ, List.setIfInBounds_toArray, List.set_cons_zero, List.set_cons_succ]); first | done | rfl)))
      (refine Kr.seqQ (v := .int .u32 (q : Int)) (a' := ?_) (by rfl) ?_ ?_ ?_; rotate_left 1; (focus (exact val_of rfl (run_64_32 HQW.out))); (focus ((try simp only [Act.put, List.getElem_toArray, List.getElem_cons_zero, List.getElem_cons_succ, List.setIfInBounds_toArray, List.set_cons_zero, List.set_cons_succ]); first | done | rfl)))
      (refine Kr.seqQ (v := ?_) (a' := ?_) (by rfl) ?_ ?_ ?_; rotate_left 2; (focus (go_simp; first | done | rfl)); (focus ((try simp only [Act.put, List.getElem_toArray, List.getElem_cons_zero, List.getElem_cons_succ, List.setIfInBounds_toArray, List.set_cons_zero, List.set_cons_succ]); first | done | rfl)))
      obtain ⟨hc, hf⟩ := HR.out j (by rw [qrow_len (show j + 1 ≤ l.length from HJL.out)]; exact HJL.out)
      rw [Nat.zero_add] at hc hf
      refine Kr.seqR (by rfl) (fun K hK => ?_)
      go_simp
      obtain ⟨ys, hy⟩ : ∃ y, wr.setCell ⟨b, j, none⟩ (.int .u32 (q : Int)) = y := ⟨_, rfl⟩
      rw [hy]
      have HR2 : Hid (Hold ys b 0 (qrow d l j)) := Lib.hid (by rw [← hset.out, ← hy]; exact hold_set0 HR.out j q (by rw [qrow_len (show j + 1 ≤ l.length from HJL.out)]; exact HJL.out))
      replace H := sta_word H HAV.out HB.out hy
      clear hy hc hf HR
      (refine Kr.outS hK (a' := ?_) ?_ ?_; rotate_left; (focus ((try simp only [Act.put, List.getElem_toArray, List.getElem_cons_zero, List.getElem_cons_succ, List.setIfInBounds_toArray, List.set_cons_zero, List.set_cons_succ]); first | done | rfl))); clear hK K
      refine Kr.seqDoneW ?_
      go_upto_region 8 with fail
      refine Kr.seqStartW ?_
      iterate 2 (refine Kr.seqQ (v := ?_) (a' := ?_) (by rfl) ?_ ?_ ?_; rotate_left 2; (focus (go_simp; first | done | rfl)); (focus ((try simp only [Act.put, List.getElem_toArray, List.getElem_cons_zero, List.getElem_cons_succ, List.setIfInBounds_toArray, List.set_cons_zero, List.set_cons_succ]); first | done | rfl)))
      (refine Kr.seqQ (v := .int .u64 (e : Int)) (a' := ?_) (by rfl) ?_ ?_ ?_; rotate_left 1; (focus (exact val_of rfl (run_rem64 HD0.out HE.out))); (focus ((try simp only [Act.put, List.getElem_toArray, List.getElem_cons_zero, List.getElem_cons_succ, List.setIfInBounds_toArray, List.set_cons_zero, List.set_cons_succ]); first | done | rfl)))
      (refine Kr.seqQ (v := ?_) (a' := ?_) (by rfl) ?_ ?_ ?_; rotate_left 2; (focus (go_simp; first | done | rfl)); (focus ((try simp only [Act.put, List.getElem_toArray, List.getElem_cons_zero, List.getElem_cons_succ, List.setIfInBounds_toArray, List.set_cons_zero, List.set_cons_succ]); first | done | rfl)))
      refine Kr.seqDoneW ?_
      have jw : IntKind.i64.wrap ((j : Int) - 1) = (j : Int) - 1 := IntWalk.i64_in _ (by omega)
      go_upto_region 5 with fail
      refine Kr.seqStartW ?_
      iterate 3 (refine Kr.seqQ (v := ?_) (a' := ?_) (by rfl) ?_ ?_ ?_; rotate_left 2; (focus (go_simp; first | done | rfl)); (focus ((try simp only [Act.put, List.getElem_toArray, List.getElem_cons_zero, List.getElem_cons_succ, List.setIfInBounds_toArray, List.set_cons_zero, List.set_cons_succ]); first | done | rfl)))
      refine Kr.seqDoneW ?_
      go_wp2
      go_roundg j
      case measure => exact hjk
      case rel => exact ⟨j, _, Nat.le_refl _, by omega, rfl, rfl, by rw [hrest.out], HR2, Lib.hid H⟩
end Go.Proofs.Ytlciocebbckdcaa.Rf


/- Short multiplication of words; operations on uint64 told by their runs. -/
namespace Go.Proofs.Ytlciocebbckdcaa.Rf
open Go Go.RowKit Go.Proofs.Ytlciocebbckdcaa.Nm Go.Proofs.Ytlciocebbckdcaa.Ne Go.Proofs.Ytlciocebbckdcaa.Nf Go.Proofs.Ytlciocebbckdcaa.Nk Go.Proofs.Ytlciocebbckdcaa.Nr2 Go.Proofs.Ytlciocebbckdcaa.Kr Go.Proofs.Ytlciocebbckdcaa.Fb

theorem run_mul64 {w : World} {x y z : Nat} (hx : x * y < 18446744073709551616) (hz : x * y = z) : (binOp .mul 42 (.int .u64 (x : Int)) (.int .u64 (y : Int))).run Try.prog w = .ok (.int .u64 (z : Int)) w := by
  have h : IntKind.u64.wrap ((x : Int) * (y : Int)) = (z : Int) := by rw [← Int.natCast_mul, hz, IntKind.wrap_u64]; omega
  clear hz
  go_simp
theorem run_add64 {w : World} {x y z : Nat} (hx : x + y < 18446744073709551616) (hz : x + y = z) : (binOp .add 42 (.int .u64 (x : Int)) (.int .u64 (y : Int))).run Try.prog w = .ok (.int .u64 (z : Int)) w := by
  have h : IntKind.u64.wrap ((x : Int) + (y : Int)) = (z : Int) := by rw [IntKind.wrap_u64]; omega
  clear hz
  go_simp
theorem run_32_64 {w : World} {x : Nat} (hx : x < 4294967296) : (convert 50 42 (.int .u32 (x : Int))).run Try.prog w = .ok (.int .u64 (x : Int)) w := by
  have : IntKind.u64.wrap (x : Int) = (x : Int) := by rw [IntKind.wrap_u64]; omega
  go_simp
theorem run_64_32m {w : World} {x z : Nat} (hz : x % 4294967296 = z) : (convert 42 50 (.int .u64 (x : Int))).run Try.prog w = .ok (.int .u32 (z : Int)) w := by
  have : IntKind.u32.wrap (x : Int) = (z : Int) := by rw [IntKind.wrap_u32]; omega
  clear hz
  go_simp
theorem run_shr32 {w : World} {x z : Nat} (hz : x / 4294967296 = z) : (binOp .shr 42 (.int .u64 (x : Int)) (.int .u64 32)).run Try.prog w = .ok (.int .u64 (z : Int)) w := by
  have h : (x : Int) / 4294967296 = (z : Int) := by omega
  clear hz
  go_simp
/-- What holds between two rounds of times. -/
def TimesAt (l : List Nat) (d plus k c : Nat) (r : List Nat) : Prop := r.length = k ∧ ok r ∧ c < 4294967296 ∧ val r + pw k * c = val (l.take k) * d + plus
theorem TimesAt.start (l : List Nat) {d plus : Nat} (h : plus < 65536) : TimesAt l d plus 0 plus [] := ⟨rfl, ok_nil, by omega, by
  have h1 : pw 0 = 1 := rfl
  simp [val, h1]⟩
theorem TimesAt.bound {l : List Nat} {d plus k c : Nat} {r : List Nat} (h : TimesAt l d plus k c r) (hd : d ≤ 256) {a : Nat} (ha : a < 4294967296) : a * d ≤ 1099511627520 ∧ a * d + c < 18446744073709551616 := by
  have h1 := Nat.mul_le_mul (show a ≤ 4294967295 by omega) hd
  have h2 := h.2.2.1
  omega
theorem TimesAt.step {l : List Nat} {d plus k c : Nat} {r : List Nat} (h : TimesAt l d plus k c r) (hd : d ≤ 256) (hl : ok l) (hk : k < l.length) {x : Nat} (hx : l[k]?.getD 0 * d + c = x) : TimesAt l d plus (k + 1) (x / 4294967296) (r ++ [x % 4294967296]) := by
  have hb := h.bound hd (ok_get hl k)
  obtain ⟨h1, h2, h3, h4⟩ := h
  refine ⟨by simp [h1], ok_append.2 ⟨h2, fun y hy => by rw [List.mem_singleton.1 hy]; exact Nat.mod_lt _ (by decide)⟩, by omega, ?_⟩
  rw [val_append, h1, val_take_succ l k hk, Nat.add_mul]
  have e1 : pw (k + 1) = pw k * 4294967296 := by rw [pw_add]; rfl
  have e2 := Nat.div_add_mod x 4294967296
  have e3 : val [x % 4294967296] = x % 4294967296 := by simp [val]
  rw [e1, e3, Nat.mul_assoc, Nat.add_assoc, ← Nat.mul_add, Nat.add_comm (x % _), e2, ← hx, Nat.mul_add]
  rw [Nat.mul_assoc (pw k)]
  omega
theorem digs_of {r : List Nat} (hr : ok r) (h : r = [] ∨ pw (r.length - 1) ≤ val r) : digs (val r) = r := by
  rcases h with h | h
  · subst h; exact digs_zero
  · refine val_inj (ok_digs _) hr ?_ (val_digs _)
    have h1 := (digs_length_le (val r) r.length).2 (val_lt hr)
    by_cases h0 : r.length = 0
    · omega
    · have h2 : ¬ (digs (val r)).length ≤ r.length - 1 := fun h2 => by have := (digs_length_le _ _).1 h2; omega
      omega
theorem TimesAt.done {x d plus c : Nat} {r : List Nat} (hd : 0 < d) (h : TimesAt (digs x) d plus (digs x).length c r) : (c = 0 → digs (x * d + plus) = r) ∧ (0 < c → digs (x * d + plus) = r ++ [c]) := by
  obtain ⟨h1, h2, h3, h4⟩ := h
  rw [List.take_length, val_digs] at h4
  constructor
  · rintro rfl
    rw [Nat.mul_zero, Nat.add_zero] at h4
    rw [← h4]
    refine digs_of h2 ?_
    by_cases h0 : digs x = []
    · exact .inl (List.eq_nil_of_length_eq_zero (by rw [h1, h0]; rfl))
    · right
      rw [h1, h4]
      have := pw_le_val (tight_digs x) h0
      rw [val_digs] at this
      have := Nat.le_mul_of_pos_right x hd
      omega
  · intro hc
    have hok : ok (r ++ [c]) := ok_append.2 ⟨h2, fun y hy => by rw [List.mem_singleton.1 hy]; exact h3⟩
    have hv : val (r ++ [c]) = x * d + plus := by rw [val_append, h1]; simp [val]; exact h4
    rw [← hv]
    refine digs_of hok (.inr ?_)
    rw [hv, List.length_append, h1, ← h4]
    have := Nat.le_mul_of_pos_right (pw (digs x).length) hc
    simp
    omega
/-- A block of one byte reads as a row. -/
theorem rw_one (w : World) (x : Nat) : Rw w.heap.size [x] (w.alloc (.cells #[.int .u8 (x : Int)] 5)) := by
  intro i hi
  have h0 : i = 0 := by simpa using hi
  subst h0
  simp [go_sem]
end Go.Proofs.Ytlciocebbckdcaa.Rf


/- The contract of the fourth reference's times. -/
namespace Go.Proofs.Ytlciocebbckdcaa.Rf
open Go.RowKit Go.Shelf Go.Proofs.Ytlciocebbckdcaa.Nm Go.Proofs.Ytlciocebbckdcaa.Ne Go.Proofs.Ytlciocebbckdcaa.Nf Go.Proofs.Ytlciocebbckdcaa.Nk Go.Proofs.Ytlciocebbckdcaa.Nv Go.Proofs.Ytlciocebbckdcaa.Nr2 Go.Proofs.Ytlciocebbckdcaa.Kr Go.Proofs.Ytlciocebbckdcaa.Fb Go.Proofs.Ytlciocebbckdcaa.Ff Go.Proofs.Ytlciocebbckdcaa.Mo

set_option linter.unusedSimpArgs false in
set_option maxRecDepth 100000 in
set_option maxHeartbeats 16000000 in
theorem times4_v {p : Option Addr} {n c x d plus : Nat} {w : World} (h : Nw w p n c (digs x)) (hn : n ≤ 1000000) (hd : 0 < d ∧ d ≤ 256 ∧ plus < 65536) :
    Calls Try.prog 106 #[.slice p n c, .int .u64 (d : Int), .int .u64 (plus : Int)] w fun e w' => ∃ (q : Option Addr) (m k : Nat), e = .returned (.slice q m k) ∧ Nw w' q m k (digs (x * d + plus)) ∧ Gr w w' := by
  have HL := Lib.hid h; have HD := Lib.hid hd; have hnb := hn; have HEN := Lib.hid h.len
  obtain ⟨i0, hi, hz0, hz1, hz2⟩ := info_parts infoW
  clear h hd hn
  have H := Sta.start w
  go_enter Try.func106, Try.ntmps106
  replace H := H.add (keepWs _ _ _ _) HL.out
  go_upto_region 0 with fail
  refine Kr.seqStartW ?_
  (refine Kr.seqQ (v := ?_) (a' := ?_) (by rfl) ?_ ?_ ?_; rotate_left 2; (focus (go_simp; first | done | rfl)); (focus ((try simp only [Act.put, List.getElem_toArray, List.getElem_cons_zero, List.getElem_cons_succ, List.setIfInBounds_toArray, List.set_cons_zero, List.set_cons_succ]); first | done | rfl)))
  refine Kr.seqDoneW ?_
  go_upto_region 1 with fail
  refine Kr.seqStartW ?_
  (refine Kr.seqQ (v := ?_) (a' := ?_) (by rfl) ?_ ?_ ?_; rotate_left 2; (focus (go_simp; first | done | rfl)); (focus ((try simp only [Act.put, List.getElem_toArray, List.getElem_cons_zero, List.getElem_cons_succ, List.setIfInBounds_toArray, List.set_cons_zero, List.set_cons_succ]); first | done | rfl)))
  refine Kr.seqDoneW ?_
  go_upto_region 2 with fail
  refine Kr.seqStartW ?_
  iterate 2 (refine Kr.seqQ (v := ?_) (a' := ?_) (by rfl) ?_ ?_ ?_; rotate_left 2; (focus (go_simp; first | done | rfl)); (focus ((try simp only [Act.put, List.getElem_toArray, List.getElem_cons_zero, List.getElem_cons_succ, List.setIfInBounds_toArray, List.set_cons_zero, List.set_cons_succ]); first | done | rfl)))
  refine Kr.seqDoneW ?_
  go_upto_region 3 with fail
  refine Kr.seqStartW ?_
  (refine Kr.seqQ (v := ?_) (a' := ?_) (by rfl) ?_ ?_ ?_; rotate_left 2; (focus (go_simp; first | done | rfl)); (focus ((try simp only [Act.put, List.getElem_toArray, List.getElem_cons_zero, List.getElem_cons_succ, List.setIfInBounds_toArray, List.set_cons_zero, List.set_cons_succ]); first | done | rfl)))
  refine Kr.seqDoneW ?_
  have H0 := Lib.hid H
  go_wp2
  go_loopw [7, 8, 9, 10] (fun v cc i _ wr => ∃ (k c2 : Nat) (r : List Nat) (po : Option Addr) (co : Nat), k ≤ n ∧ v = .slice po k co ∧ i = .int .i64 (k : Int) ∧ cc = .int .u64 (c2 : Int) ∧ Hid (TimesAt (digs x) d plus k c2 r) ∧ Hid (Bld w (.slice po k co) r wr)) (fun _ _ i _ _ => n - (intOf i).toNat)
  case atStart => exact ⟨0, plus, [], none, 0, Nat.zero_le _, rfl, rfl, rfl, Lib.hid (TimesAt.start _ HD.out.2.2), Lib.hid (Bld.start w)⟩
  case round =>
    clear H
    obtain ⟨k, c2, r, po, co, hk, rfl, rfl, rfl, HT, HBl⟩ := hrel
    have H := H0.out.grow HBl.out.2.2
    have HLN : Hid (r.length = k) := Lib.hid HT.out.1
    by_cases hlt : k < n
    · skip
      have hkl : k < (digs x).length := by rw [HEN.out]; exact hlt
      obtain ⟨b0, off, ep, hc⟩ := (H.ws 0 rfl).rd.at (by rw [HEN.out]; omega)
      replace hc := hc k hkl
      have HST := Lib.hid (fun y (hy : (digs x)[k]?.getD 0 * d + c2 = y) => HT.out.step HD.out.2.1 HL.out.ok hkl hy); have hal := ok_get HL.out.ok k; have hbd := HT.out.bound HD.out.2.1 hal
      obtain ⟨a, ha⟩ : ∃ a, (digs x)[k]?.getD 0 = a := ⟨_, rfl⟩
      rw [ha] at HST hc hal hbd
      clear ha hkl
      obtain ⟨ad, had⟩ : ∃ ad, a * d = ad := ⟨_, rfl⟩
      rw [had] at hbd HST
      obtain ⟨y, hy⟩ : ∃ y, ad + c2 = y := ⟨_, rfl⟩
      replace HST := Lib.hid (HST.out y hy)
      rw [hy] at hbd
      have HA1 := Lib.hid had; have HA2 := Lib.hid hy; have HB1 : Hid (a * d < 18446744073709551616) := Lib.hid (by rw [had]; omega); have HB2 : Hid (ad + c2 < 18446744073709551616) := Lib.hid (by rw [hy]; exact hbd.2); have HAL := Lib.hid hal
      obtain ⟨lo, hlo⟩ : ∃ lo, y % 4294967296 = lo := ⟨_, rfl⟩
      obtain ⟨hh, hhh⟩ : ∃ hh, y / 4294967296 = hh := ⟨_, rfl⟩
      rw [hlo, hhh] at HST
      have HLO := Lib.hid hlo; have HHH := Lib.hid hhh
      clear had hy hlo hhh hal hbd
      have k0 : (0 : Int) ≤ (k : Int) := by omega
      have k1 : (k : Int) < (n : Int) := by omega
      have kt : ((k : Int)).toNat = k := by omega
      have kw : IntKind.i64.wrap ((k : Int) + 1) = (k : Int) + 1 := IntWalk.i64_in _ (by omega)
      subst ep
      go_upto_region 4 with fail
      refine Kr.seqStartW ?_
      iterate 4 (refine Kr.seqQ (v := ?_) (a' := ?_) (by rfl) ?_ ?_ ?_; rotate_left 2; (focus (go_simp; first | done | rfl)); (focus ((try simp only [Act.put, List.getElem_toArray, List.getElem_cons_zero, List.getElem_cons_succ, List.setIfInBounds_toArray, List.set_cons_zero, List.set_cons_succ]); first | done | rfl)))
      refine Kr.seqDoneW ?_
      go_upto_region 6 with fail
      refine Kr.seqStartW ?_
      iterate 3 (refine Kr.seqQ (v := ?_) (a' := ?_) (by rfl) ?_ ?_ ?_; rotate_left 2; (focus (go_simp; first | done | rfl)); (focus ((try simp only [Act.put, List.getElem_toArray, List.getElem_cons_zero, List.getElem_cons_succ, List.setIfInBounds_toArray, List.set_cons_zero, List.set_cons_succ]); first | done | rfl)))
      (refine Kr.seqQ (v := ?_) (a' := ?_) (by rfl) ?_ ?_ ?_; rotate_left 2; (focus (go_simp; first | done | rfl)); (focus ((try simp only [Act.put, List.getElem_toArray, List.getElem_cons_zero, List.getElem_cons_succ, List.setIfInBounds_toArray, List.set_cons_zero, List.set_cons_succ]); first | done | rfl)))
      (refine Kr.seqQ (v := .int .u64 (a : Int)) (a' := ?_) (by rfl) ?_ ?_ ?_; rotate_left 1; (focus (exact val_of rfl (run_32_64 HAL.out))); (focus ((try simp only [Act.put, List.getElem_toArray, List.getElem_cons_zero, List.getElem_cons_succ, List.setIfInBounds_toArray, List.set_cons_zero, List.set_cons_succ]); first | done | rfl)))
      (refine Kr.seqQ (v := ?_) (a' := ?_) (by rfl) ?_ ?_ ?_; rotate_left 2; (focus (go_simp; first | done | rfl)); (focus ((try simp only [Act.put, List.getElem_toArray, List.getElem_cons_zero, List.getElem_cons_succ, List.setIfInBounds_toArray, List.set_cons_zero, List.set_cons_succ]); first | done | rfl)))
      (refine Kr.seqQ (v := .int .u64 (ad : Int)) (a' := ?_) (by rfl) ?_ ?_ ?_; rotate_left 1; (focus (exact val_of rfl (run_mul64 HB1.out HA1.out))); (focus ((try simp only [Act.put, List.getElem_toArray, List.getElem_cons_zero, List.getElem_cons_succ, List.setIfInBounds_toArray, List.set_cons_zero, List.set_cons_succ]); first | done | rfl)))
      (refine Kr.seqQ (v := ?_) (a' := ?_) (by rfl) ?_ ?_ ?_; rotate_left 2; (focus (go_simp; first | done | rfl)); (focus ((try simp only [Act.put, List.getElem_toArray, List.getElem_cons_zero, List.getElem_cons_succ, List.setIfInBounds_toArray, List.set_cons_zero, List.set_cons_succ]); first | done | rfl)))
      (refine Kr.seqQ (v := .int .u64 (y : Int)) (a' := ?_) (by rfl) ?_ ?_ ?_; rotate_left 1; (focus (exact val_of rfl (run_add64 HB2.out HA2.out))); (focus ((try simp only [Act.put, List.getElem_toArray, List.getElem_cons_zero, List.getElem_cons_succ, List.setIfInBounds_toArray, List.set_cons_zero, List.set_cons_succ]); first | done | rfl)))
      (refine Kr.seqQ (v := ?_) (a' := ?_) (by rfl) ?_ ?_ ?_; rotate_left 2; (focus (go_simp; first | done | rfl)); (focus ((try simp only [Act.put, List.getElem_toArray, List.getElem_cons_zero, List.getElem_cons_succ, List.setIfInBounds_toArray, List.set_cons_zero, List.set_cons_succ]); first | done | rfl)))
      refine Kr.seqDoneW ?_
      clear hc
      go_upto_region 7 with fail
      refine Kr.seqStartW ?_
      iterate 2 (refine Kr.seqQ (v := ?_) (a' := ?_) (by rfl) ?_ ?_ ?_; rotate_left 2; (focus (go_simp; first | done | rfl)); (focus ((try simp only [Act.put, List.getElem_toArray, List.getElem_cons_zero, List.getElem_cons_succ, List.setIfInBounds_toArray, List.set_cons_zero, List.set_cons_succ]); first | done | rfl)))
      (refine Kr.seqQ (v := .int .u32 (lo : Int)) (a' := ?_) (by rfl) ?_ ?_ ?_; rotate_left 1; (focus (exact val_of rfl (run_64_32m HLO.out))); (focus ((try simp only [Act.put, List.getElem_toArray, List.getElem_cons_zero, List.getElem_cons_succ, List.setIfInBounds_toArray, List.set_cons_zero, List.set_cons_succ]); first | done | rfl)))
      refine Kr.seqR (by rfl) (fun K hK => ?_)
      go_simp
      obtain ⟨y1, hy⟩ : ∃ y, wr.alloc (.cells #[.int .u32 (lo : Int)] 50) = y := ⟨_, rfl⟩
      obtain ⟨bone, hbn⟩ : ∃ b, wr.heap.size = b := ⟨_, rfl⟩
      rw [hy, hbn]
      have hg : Gr wr y1 := hy ▸ (Gr.refl _).alloc _
      have HONE := Lib.hid (hbn ▸ hy ▸ one_new wr lo)
      replace HBl := Lib.hid (HBl.out.grow hg)
      replace H := H.grow hg
      clear hg hy hbn
      (refine Kr.outS hK (a' := ?_) ?_ ?_; rotate_left; (focus ((try simp only [Act.put, List.getElem_toArray, List.getElem_cons_zero, List.getElem_cons_succ, List.setIfInBounds_toArray, List.set_cons_zero, List.set_cons_succ]); first | done | rfl))); clear hK K
      refine Kr.seqR (by rfl) (fun K hK => ?_)
      refine wp_append_lies _ (.tmp 27) (.tmp 30) 22 rfl w.heap.size 50 i0 (.int .u32 0) 1 4 Try.underlying22 hi hz0 hz1 hz2 rfl (by decide) (.slice po k co) k (cw r) rfl (ownsRow_at HLN.out HBl.out) ⟨bone, 0, none⟩ 1 1 [.int .u32 (lo : Int)] rfl rfl HONE.out (by simp [Value.oneCell']) (by decide) (by unfold maxLen; omega) (by omega) HBl.out.2.2.size _ rfl ?_
      intro gb cap w3 hown hgrow _ _
      have hb3 := (Bld.step HLN.out HBl.out hown hgrow).1
      have HB3 := Lib.hid hb3
      clear hown hgrow hb3 HONE
      replace H := H0.out.grow HB3.out.2.2
      (refine Kr.outS hK (a' := ?_) ?_ ?_; rotate_left; (focus ((try simp only [Act.put, List.getElem_toArray, List.getElem_cons_zero, List.getElem_cons_succ, List.setIfInBounds_toArray, List.set_cons_zero, List.set_cons_succ]); first | done | rfl))); clear hK K
      (refine Kr.seqQ (v := ?_) (a' := ?_) (by rfl) ?_ ?_ ?_; rotate_left 2; (focus (go_simp; first | done | rfl)); (focus ((try simp only [Act.put, List.getElem_toArray, List.getElem_cons_zero, List.getElem_cons_succ, List.setIfInBounds_toArray, List.set_cons_zero, List.set_cons_succ]); first | done | rfl)))
      refine Kr.seqDoneW ?_
      go_upto_region 8 with fail
      refine Kr.seqStartW ?_
      (refine Kr.seqQ (v := ?_) (a' := ?_) (by rfl) ?_ ?_ ?_; rotate_left 2; (focus (go_simp; first | done | rfl)); (focus ((try simp only [Act.put, List.getElem_toArray, List.getElem_cons_zero, List.getElem_cons_succ, List.setIfInBounds_toArray, List.set_cons_zero, List.set_cons_succ]); first | done | rfl)))
      (refine Kr.seqQ (v := .int .u64 (hh : Int)) (a' := ?_) (by rfl) ?_ ?_ ?_; rotate_left 1; (focus (exact val_of rfl (run_shr32 HHH.out))); (focus ((try simp only [Act.put, List.getElem_toArray, List.getElem_cons_zero, List.getElem_cons_succ, List.setIfInBounds_toArray, List.set_cons_zero, List.set_cons_succ]); first | done | rfl)))
      (refine Kr.seqQ (v := ?_) (a' := ?_) (by rfl) ?_ ?_ ?_; rotate_left 2; (focus (go_simp; first | done | rfl)); (focus ((try simp only [Act.put, List.getElem_toArray, List.getElem_cons_zero, List.getElem_cons_succ, List.setIfInBounds_toArray, List.set_cons_zero, List.set_cons_succ]); first | done | rfl)))
      refine Kr.seqDoneW ?_
      go_upto_region 5 with fail
      refine Kr.seqStartW ?_
      iterate 3 (refine Kr.seqQ (v := ?_) (a' := ?_) (by rfl) ?_ ?_ ?_; rotate_left 2; (focus (go_simp; first | done | rfl)); (focus ((try simp only [Act.put, List.getElem_toArray, List.getElem_cons_zero, List.getElem_cons_succ, List.setIfInBounds_toArray, List.set_cons_zero, List.set_cons_succ]); first | done | rfl)))
      refine Kr.seqDoneW ?_
      go_wp2
      go_roundw
      case rel => exact ⟨k + 1, hh, r ++ [lo], some ⟨gb, 0, none⟩, cap, by omega, rfl, rfl, rfl, HST, HB3⟩
      case measure => (simp [intOf] <;> omega)
    · obtain rfl : k = n := by omega
      clear hk
      have k1 : ¬ (k : Int) < (k : Int) := by omega
      have HDN : Hid ((c2 = 0 → digs (x * d + plus) = r) ∧ (0 < c2 → digs (x * d + plus) = r ++ [c2])) := Lib.hid (TimesAt.done HD.out.1 (by rw [HEN.out]; exact HT.out))
      go_upto_region 4 with fail
      refine Kr.seqStartW ?_
      iterate 4 (refine Kr.seqQ (v := ?_) (a' := ?_) (by rfl) ?_ ?_ ?_; rotate_left 2; (focus (go_simp; first | done | rfl)); (focus ((try simp only [Act.put, List.getElem_toArray, List.getElem_cons_zero, List.getElem_cons_succ, List.setIfInBounds_toArray, List.set_cons_zero, List.set_cons_succ]); first | done | rfl)))
      refine Kr.seqDoneW ?_
      clear k1
      by_cases h0 : c2 = 0
      · have HZ := Lib.hid (HDN.out.1 h0)
        subst h0
        go_upto_region 9 with fail
        refine Kr.seqStartW ?_
        iterate 2 (refine Kr.seqQ (v := ?_) (a' := ?_) (by rfl) ?_ ?_ ?_; rotate_left 2; (focus (go_simp; first | done | rfl)); (focus ((try simp only [Act.put, List.getElem_toArray, List.getElem_cons_zero, List.getElem_cons_succ, List.setIfInBounds_toArray, List.set_cons_zero, List.set_cons_succ]); first | done | rfl)))
        refine Kr.seqDoneW ?_
        go_upto_region 11 with fail
        refine Kr.seqStartW ?_
        iterate 2 (refine Kr.seqQ (v := ?_) (a' := ?_) (by rfl) ?_ ?_ ?_; rotate_left 2; (focus (go_simp; first | done | rfl)); (focus ((try simp only [Act.put, List.getElem_toArray, List.getElem_cons_zero, List.getElem_cons_succ, List.setIfInBounds_toArray, List.set_cons_zero, List.set_cons_succ]); first | done | rfl)))
        refine Kr.seqDoneW ?_
        have hk : True := trivial
        go_wp2
        refine bodyPost_ret (v := .slice po k co) (by simp [results, Try.results106, go_sem, hk]) rfl ⟨po, k, co, rfl, by rw [HZ.out]; exact HBl.out.nw' HT.out.2.1 (by rw [HLN.out]; omega), H.g⟩
      · have hp : 0 < c2 := by omega
        have hp2 : (0 : Int) < (c2 : Int) := by omega
        have HP := Lib.hid hp; have HC32 : Hid (c2 < 4294967296) := Lib.hid HT.out.2.2.1
        clear h0
        go_upto_region 9 with fail
        refine Kr.seqStartW ?_
        iterate 2 (refine Kr.seqQ (v := ?_) (a' := ?_) (by rfl) ?_ ?_ ?_; rotate_left 2; (focus (go_simp; first | done | rfl)); (focus ((try simp only [Act.put, List.getElem_toArray, List.getElem_cons_zero, List.getElem_cons_succ, List.setIfInBounds_toArray, List.set_cons_zero, List.set_cons_succ]); first | done | rfl)))
        refine Kr.seqDoneW ?_
        clear hp hp2
        go_upto_region 10 with fail
        refine Kr.seqStartW ?_
        iterate 2 (refine Kr.seqQ (v := ?_) (a' := ?_) (by rfl) ?_ ?_ ?_; rotate_left 2; (focus (go_simp; first | done | rfl)); (focus ((try simp only [Act.put, List.getElem_toArray, List.getElem_cons_zero, List.getElem_cons_succ, List.setIfInBounds_toArray, List.set_cons_zero, List.set_cons_succ]); first | done | rfl)))
        (refine Kr.seqQ (v := .int .u32 (c2 : Int)) (a' := ?_) (by rfl) ?_ ?_ ?_; rotate_left 1; (focus (exact val_of rfl (run_64_32 HC32.out))); (focus ((try simp only [Act.put, List.getElem_toArray, List.getElem_cons_zero, List.getElem_cons_succ, List.setIfInBounds_toArray, List.set_cons_zero, List.set_cons_succ]); first | done | rfl)))
        refine Kr.seqR (by rfl) (fun K hK => ?_)
        go_simp
        obtain ⟨y2, hy⟩ : ∃ y, wr.alloc (.cells #[.int .u32 (c2 : Int)] 50) = y := ⟨_, rfl⟩
        obtain ⟨bone, hbn⟩ : ∃ b, wr.heap.size = b := ⟨_, rfl⟩
        rw [hy, hbn]
        have hg : Gr wr y2 := hy ▸ (Gr.refl _).alloc _
        have HONE := Lib.hid (hbn ▸ hy ▸ one_new wr c2)
        replace HBl := Lib.hid (HBl.out.grow hg)
        replace H := H.grow hg
        clear hg hy hbn
        (refine Kr.outS hK (a' := ?_) ?_ ?_; rotate_left; (focus ((try simp only [Act.put, List.getElem_toArray, List.getElem_cons_zero, List.getElem_cons_succ, List.setIfInBounds_toArray, List.set_cons_zero, List.set_cons_succ]); first | done | rfl))); clear hK K
        refine Kr.seqR (by rfl) (fun K hK => ?_)
        refine wp_append_lies _ (.tmp 36) (.tmp 39) 22 rfl w.heap.size 50 i0 (.int .u32 0) 1 4 Try.underlying22 hi hz0 hz1 hz2 rfl (by decide) (.slice po k co) k (cw r) rfl (ownsRow_at HLN.out HBl.out) ⟨bone, 0, none⟩ 1 1 [.int .u32 (c2 : Int)] rfl rfl HONE.out (by simp [Value.oneCell']) (by decide) (by unfold maxLen; omega) (by omega) HBl.out.2.2.size _ rfl ?_
        intro gb cap w3 hown hgrow _ _
        have hb3 := (Bld.step HLN.out HBl.out hown hgrow).1
        have HB3 := Lib.hid hb3
        clear hown hgrow hb3 HONE
        replace H := H0.out.grow HB3.out.2.2
        (refine Kr.outS hK (a' := ?_) ?_ ?_; rotate_left; (focus ((try simp only [Act.put, List.getElem_toArray, List.getElem_cons_zero, List.getElem_cons_succ, List.setIfInBounds_toArray, List.set_cons_zero, List.set_cons_succ]); first | done | rfl))); clear hK K
        (refine Kr.seqQ (v := ?_) (a' := ?_) (by rfl) ?_ ?_ ?_; rotate_left 2; (focus (go_simp; first | done | rfl)); (focus ((try simp only [Act.put, List.getElem_toArray, List.getElem_cons_zero, List.getElem_cons_succ, List.setIfInBounds_toArray, List.set_cons_zero, List.set_cons_succ]); first | done | rfl)))
        refine Kr.seqDoneW ?_
        go_upto_region 11 with fail
        refine Kr.seqStartW ?_
        iterate 2 (refine Kr.seqQ (v := ?_) (a' := ?_) (by rfl) ?_ ?_ ?_; rotate_left 2; (focus (go_simp; first | done | rfl)); (focus ((try simp only [Act.put, List.getElem_toArray, List.getElem_cons_zero, List.getElem_cons_succ, List.setIfInBounds_toArray, List.set_cons_zero, List.set_cons_succ]); first | done | rfl)))
        refine Kr.seqDoneW ?_
        have hk : True := trivial
        go_wp2
        refine bodyPost_ret (v := .slice (some ⟨gb, 0, none⟩) (k + 1) cap) (by simp [results, Try.results106, go_sem, hk]) rfl ⟨some ⟨gb, 0, none⟩, k + 1, cap, rfl, by rw [HDN.out.2 HP.out]; exact HB3.out.nw' (ok_append.2 ⟨HT.out.2.1, fun y hy => by rw [List.mem_singleton.1 hy]; exact HC32.out⟩) (by rw [List.length_append, HLN.out]; simp; omega), H.g⟩
end Go.Proofs.Ytlciocebbckdcaa.Rf


/- The contracts of the fourth reference's digit and value. -/
namespace Go.Proofs.Ytlciocebbckdcaa.Rf
open Go.RowKit Go.Shelf Go.Proofs.Ytlciocebbckdcaa.Nm Go.Proofs.Ytlciocebbckdcaa.Ne Go.Proofs.Ytlciocebbckdcaa.Nf Go.Proofs.Ytlciocebbckdcaa.Nk Go.Proofs.Ytlciocebbckdcaa.Nv Go.Proofs.Ytlciocebbckdcaa.Nr2 Go.Proofs.Ytlciocebbckdcaa.Kr Go.Proofs.Ytlciocebbckdcaa.Fb Go.Proofs.Ytlciocebbckdcaa.Ff Go.Proofs.Ytlciocebbckdcaa.Mo

theorem run_sub64 {w : World} {x y z : Nat} (hy : y ≤ x) (hx : x < 18446744073709551616) (hz : x - y = z) : (binOp .sub 42 (.int .u64 (x : Int)) (.int .u64 (y : Int))).run Try.prog w = .ok (.int .u64 (z : Int)) w := by
  have h : IntKind.u64.wrap ((x : Int) - (y : Int)) = (z : Int) := by rw [IntKind.wrap_u64]; omega
  clear hz
  go_simp
set_option linter.unusedSimpArgs false in
set_option maxRecDepth 100000 in
set_option maxHeartbeats 16000000 in
theorem digit4_lo {d : Nat} {w : World} (hd : d < 16) (h : d < 10) :
    Calls Try.prog 103 #[.int .u64 (d : Int)] w fun e w' => e = .returned (.string (str [sm d])) ∧ Gr w w' := by
  have HSM : Hid (sm d < 256) := Lib.hid (sm_lt hd)
  have e1 : 48 + d = sm d := by unfold sm; rw [if_pos h]
  have h10 : (d : Int) < 10 := by omega
  have HE1 := Lib.hid e1
  obtain ⟨q, hq⟩ : ∃ q, sm d = q := ⟨_, rfl⟩
  rw [hq] at HSM HE1 ⊢
  clear e1 hq
  have HB : Hid (d < 16) := Lib.hid hd
  have H := Sta.start w
  go_enter Try.func103, Try.ntmps103
  go_upto_region 0 with fail
  refine Kr.seqStartW ?_
  (refine Kr.seqQ (v := ?_) (a' := ?_) (by rfl) ?_ ?_ ?_; rotate_left 2; (focus (go_simp; first | done | rfl)); (focus ((try simp only [Act.put, List.getElem_toArray, List.getElem_cons_zero, List.getElem_cons_succ, List.setIfInBounds_toArray, List.set_cons_zero, List.set_cons_succ]); first | done | rfl)))
  refine Kr.seqDoneW ?_
  go_upto_region 1 with fail
  refine Kr.seqStartW ?_
  iterate 2 (refine Kr.seqQ (v := ?_) (a' := ?_) (by rfl) ?_ ?_ ?_; rotate_left 2; (focus (go_simp; first | done | rfl)); (focus ((try simp only [Act.put, List.getElem_toArray, List.getElem_cons_zero, List.getElem_cons_succ, List.setIfInBounds_toArray, List.set_cons_zero, List.set_cons_succ]); first | done | rfl)))
  refine Kr.seqDoneW ?_
  clear h10
  go_upto_region 2 with fail
  refine Kr.seqStartW ?_
  (refine Kr.seqQ (v := ?_) (a' := ?_) (by rfl) ?_ ?_ ?_; rotate_left 2; (focus (go_simp; first | done | rfl)); (focus ((try simp only [Act.put, List.getElem_toArray, List.getElem_cons_zero, List.getElem_cons_succ, List.setIfInBounds_toArray, List.set_cons_zero, List.set_cons_succ]); first | done | rfl)))
  (refine Kr.seqQ (v := .int .u64 (q : Int)) (a' := ?_) (by rfl) ?_ ?_ ?_; rotate_left 1; (focus (exact val_of rfl (run_add64 (x := 48) (by have h := HB.out; omega) HE1.out))); (focus ((try simp only [Act.put, List.getElem_toArray, List.getElem_cons_zero, List.getElem_cons_succ, List.setIfInBounds_toArray, List.set_cons_zero, List.set_cons_succ]); first | done | rfl)))
  (refine Kr.seqQ (v := .int .u8 (q : Int)) (a' := ?_) (by rfl) ?_ ?_ ?_; rotate_left 1; (focus (exact val_of rfl (run_64_8 HSM.out))); (focus ((try simp only [Act.put, List.getElem_toArray, List.getElem_cons_zero, List.getElem_cons_succ, List.setIfInBounds_toArray, List.set_cons_zero, List.set_cons_succ]); first | done | rfl)))
  refine Kr.seqR (by rfl) (fun K hK => ?_)
  go_simp
  obtain ⟨y1, hy⟩ : ∃ y, w.alloc (.cells #[.int .u8 (q : Int)] 5) = y := ⟨_, rfl⟩
  obtain ⟨bone, hbn⟩ : ∃ b, w.heap.size = b := ⟨_, rfl⟩
  rw [hy, hbn]
  have hg : Gr w y1 := hy ▸ (Gr.refl _).alloc _
  have HROW : Hid (Rw bone [q] y1) := Lib.hid (hbn ▸ hy ▸ rw_one w q)
  replace H := H.grow hg
  clear hg hy hbn
  (refine Kr.outS hK (a' := ?_) ?_ ?_; rotate_left; (focus ((try simp only [Act.put, List.getElem_toArray, List.getElem_cons_zero, List.getElem_cons_succ, List.setIfInBounds_toArray, List.set_cons_zero, List.set_cons_succ]); first | done | rfl))); clear hK K
  (refine Kr.seqQ (v := .string (str [q])) (a' := ?_) (by rfl) ?_ ?_ ?_; rotate_left 1; (focus (exact val_of rfl (run_string HROW.out rfl (fun c hc => by rw [List.mem_singleton.1 hc]; exact HSM.out)))); (focus ((try simp only [Act.put, List.getElem_toArray, List.getElem_cons_zero, List.getElem_cons_succ, List.setIfInBounds_toArray, List.set_cons_zero, List.set_cons_succ]); first | done | rfl)))
  (refine Kr.seqQ (v := ?_) (a' := ?_) (by rfl) ?_ ?_ ?_; rotate_left 2; (focus (go_simp; first | done | rfl)); (focus ((try simp only [Act.put, List.getElem_toArray, List.getElem_cons_zero, List.getElem_cons_succ, List.setIfInBounds_toArray, List.set_cons_zero, List.set_cons_succ]); first | done | rfl)))
  refine Kr.seqDoneW ?_
  have hk : True := trivial
  go_wp2
  refine bodyPost_ret (v := .string (str [q])) (by simp [results, Try.results103, go_sem, hk]) rfl ⟨rfl, H.g⟩
set_option linter.unusedSimpArgs false in
set_option maxRecDepth 100000 in
set_option maxHeartbeats 16000000 in
theorem digit4_hi {d : Nat} {w : World} (hd : d < 16) (h : ¬ d < 10) :
    Calls Try.prog 103 #[.int .u64 (d : Int)] w fun e w' => e = .returned (.string (str [sm d])) ∧ Gr w w' := by
  have HSM : Hid (sm d < 256) := Lib.hid (sm_lt hd)
  have e0 : 97 + d = 97 + d := rfl
  have e1 : 97 + d - 10 = sm d := by unfold sm; rw [if_neg h]; omega
  have h10 : ¬ (d : Int) < 10 := by omega
  have HE1 := Lib.hid e1
  obtain ⟨q, hq⟩ : ∃ q, sm d = q := ⟨_, rfl⟩
  rw [hq] at HSM HE1 ⊢
  clear e1 hq e0
  have HB : Hid (d < 16) := Lib.hid hd
  have H := Sta.start w
  go_enter Try.func103, Try.ntmps103
  go_upto_region 0 with fail
  refine Kr.seqStartW ?_
  (refine Kr.seqQ (v := ?_) (a' := ?_) (by rfl) ?_ ?_ ?_; rotate_left 2; (focus (go_simp; first | done | rfl)); (focus ((try simp only [Act.put, List.getElem_toArray, List.getElem_cons_zero, List.getElem_cons_succ, List.setIfInBounds_toArray, List.set_cons_zero, List.set_cons_succ]); first | done | rfl)))
  refine Kr.seqDoneW ?_
  go_upto_region 1 with fail
  refine Kr.seqStartW ?_
  iterate 2 (refine Kr.seqQ (v := ?_) (a' := ?_) (by rfl) ?_ ?_ ?_; rotate_left 2; (focus (go_simp; first | done | rfl)); (focus ((try simp only [Act.put, List.getElem_toArray, List.getElem_cons_zero, List.getElem_cons_succ, List.setIfInBounds_toArray, List.set_cons_zero, List.set_cons_succ]); first | done | rfl)))
  refine Kr.seqDoneW ?_
  clear h10
  go_upto_region 3 with fail
  refine Kr.seqStartW ?_
  (refine Kr.seqQ (v := ?_) (a' := ?_) (by rfl) ?_ ?_ ?_; rotate_left 2; (focus (go_simp; first | done | rfl)); (focus ((try simp only [Act.put, List.getElem_toArray, List.getElem_cons_zero, List.getElem_cons_succ, List.setIfInBounds_toArray, List.set_cons_zero, List.set_cons_succ]); first | done | rfl)))
  (refine Kr.seqQ (v := .int .u64 ((97 + d : Nat) : Int)) (a' := ?_) (by rfl) ?_ ?_ ?_; rotate_left 1; (focus (exact val_of rfl (run_add64 (x := 97) (by have h := HB.out; omega) rfl))); (focus ((try simp only [Act.put, List.getElem_toArray, List.getElem_cons_zero, List.getElem_cons_succ, List.setIfInBounds_toArray, List.set_cons_zero, List.set_cons_succ]); first | done | rfl)))
  (refine Kr.seqQ (v := .int .u64 (q : Int)) (a' := ?_) (by rfl) ?_ ?_ ?_; rotate_left 1; (focus (exact val_of rfl (run_sub64 (y := 10) (by omega) (by have h := HB.out; omega) HE1.out))); (focus ((try simp only [Act.put, List.getElem_toArray, List.getElem_cons_zero, List.getElem_cons_succ, List.setIfInBounds_toArray, List.set_cons_zero, List.set_cons_succ]); first | done | rfl)))
  (refine Kr.seqQ (v := .int .u8 (q : Int)) (a' := ?_) (by rfl) ?_ ?_ ?_; rotate_left 1; (focus (exact val_of rfl (run_64_8 HSM.out))); (focus ((try simp only [Act.put, List.getElem_toArray, List.getElem_cons_zero, List.getElem_cons_succ, List.setIfInBounds_toArray, List.set_cons_zero, List.set_cons_succ]); first | done | rfl)))
  refine Kr.seqR (by rfl) (fun K hK => ?_)
  go_simp
  obtain ⟨y1, hy⟩ : ∃ y, w.alloc (.cells #[.int .u8 (q : Int)] 5) = y := ⟨_, rfl⟩
  obtain ⟨bone, hbn⟩ : ∃ b, w.heap.size = b := ⟨_, rfl⟩
  rw [hy, hbn]
  have hg : Gr w y1 := hy ▸ (Gr.refl _).alloc _
  have HROW : Hid (Rw bone [q] y1) := Lib.hid (hbn ▸ hy ▸ rw_one w q)
  replace H := H.grow hg
  clear hg hy hbn
  (refine Kr.outS hK (a' := ?_) ?_ ?_; rotate_left; (focus ((try simp only [Act.put, List.getElem_toArray, List.getElem_cons_zero, List.getElem_cons_succ, List.setIfInBounds_toArray, List.set_cons_zero, List.set_cons_succ]); first | done | rfl))); clear hK K
  (refine Kr.seqQ (v := .string (str [q])) (a' := ?_) (by rfl) ?_ ?_ ?_; rotate_left 1; (focus (exact val_of rfl (run_string HROW.out rfl (fun c hc => by rw [List.mem_singleton.1 hc]; exact HSM.out)))); (focus ((try simp only [Act.put, List.getElem_toArray, List.getElem_cons_zero, List.getElem_cons_succ, List.setIfInBounds_toArray, List.set_cons_zero, List.set_cons_succ]); first | done | rfl)))
  (refine Kr.seqQ (v := ?_) (a' := ?_) (by rfl) ?_ ?_ ?_; rotate_left 2; (focus (go_simp; first | done | rfl)); (focus ((try simp only [Act.put, List.getElem_toArray, List.getElem_cons_zero, List.getElem_cons_succ, List.setIfInBounds_toArray, List.set_cons_zero, List.set_cons_succ]); first | done | rfl)))
  refine Kr.seqDoneW ?_
  have hk : True := trivial
  go_wp2
  refine bodyPost_ret (v := .string (str [q])) (by simp [results, Try.results103, go_sem, hk]) rfl ⟨rfl, H.g⟩
theorem digit4_v {d : Nat} {w : World} (hd : d < 16) :
    Calls Try.prog 103 #[.int .u64 (d : Int)] w fun e w' => e = .returned (.string (str [sm d])) ∧ Gr w w' := by
  by_cases h : d < 10
  · exact digit4_lo hd h
  · exact digit4_hi hd h
theorem run_sub8 {w : World} {x y z : Nat} (hy : y ≤ x) (hx : x < 256) (hz : x - y = z) : (binOp .sub 5 (.int .u8 (x : Int)) (.int .u8 (y : Int))).run Try.prog w = .ok (.int .u8 (z : Int)) w := by
  have h : IntKind.u8.wrap ((x : Int) - (y : Int)) = (z : Int) := by rw [IntWalk.u8_in _ (by omega)]; omega
  clear hz
  go_simp
/-- What value says of a character: its worth if that is a digit. -/
def vok (g c v : Nat) (b : Bool) : Prop := match b with | true => v = wv c ∧ wv c < g | false => g ≤ wv c
def ValR (g c : Nat) (w : World) (e : Ending) (w' : World) : Prop := ∃ (v : Nat) (b : Bool), e = .returned (.tuple #[.int .u64 (v : Int), .bool b]) ∧ vok g c v b ∧ Gr w w'
set_option linter.unusedSimpArgs false in
set_option maxRecDepth 100000 in
set_option maxHeartbeats 16000000 in
theorem value4_dec {c g : Nat} {w : World} (hc : c < 256) (hg : g = 10 ∨ g = 16) (h : 48 ≤ c ∧ c ≤ 57) :
    Calls Try.prog 105 #[.int .u8 (c : Int), .int .u64 (g : Int)] w (ValR g c w) := by
  have f0 : (48 : Int) ≤ (c : Int) := by omega
  have f1 : (c : Int) ≤ 57 := by omega
  have fw : IntKind.u8.wrap ((c : Int) - 48) = ((c - 48 : Nat) : Int) := by rw [IntWalk.u8_in _ (by omega)]; omega
  have HV : Hid (c - 48 < 256) := Lib.hid (by omega)
  have H := Sta.start w
  go_enter Try.func105, Try.ntmps105
  go_upto_region 0 with fail
  refine Kr.seqStartW ?_
  iterate 2 (refine Kr.seqQ (v := ?_) (a' := ?_) (by rfl) ?_ ?_ ?_; rotate_left 2; (focus (go_simp; first | done | rfl)); (focus ((try simp only [Act.put, List.getElem_toArray, List.getElem_cons_zero, List.getElem_cons_succ, List.setIfInBounds_toArray, List.set_cons_zero, List.set_cons_succ]); first | done | rfl)))
  refine Kr.seqDoneW ?_
  go_upto_region 1 with fail
  refine Kr.seqStartW ?_
  iterate 6 (refine Kr.seqQ (v := ?_) (a' := ?_) (by rfl) ?_ ?_ ?_; rotate_left 2; (focus (go_simp; first | done | rfl)); (focus ((try simp only [Act.put, List.getElem_toArray, List.getElem_cons_zero, List.getElem_cons_succ, List.setIfInBounds_toArray, List.set_cons_zero, List.set_cons_succ]); first | done | rfl)))
  refine Kr.seqDoneW ?_
  go_upto_region 2 with fail
  refine Kr.seqStartW ?_
  (refine Kr.seqQ (v := ?_) (a' := ?_) (by rfl) ?_ ?_ ?_; rotate_left 2; (focus (go_simp; first | done | rfl)); (focus ((try simp only [Act.put, List.getElem_toArray, List.getElem_cons_zero, List.getElem_cons_succ, List.setIfInBounds_toArray, List.set_cons_zero, List.set_cons_succ]); first | done | rfl)))
  (refine Kr.seqQ (v := .int .u8 ((c - 48 : Nat) : Int)) (a' := ?_) (by rfl) ?_ ?_ ?_; rotate_left 1; (focus (exact val_of rfl (run_sub8 (y := 48) (by omega) (by omega) rfl))); (focus ((try simp only [Act.put, List.getElem_toArray, List.getElem_cons_zero, List.getElem_cons_succ, List.setIfInBounds_toArray, List.set_cons_zero, List.set_cons_succ]); first | done | rfl)))
  (refine Kr.seqQ (v := .int .u64 ((c - 48 : Nat) : Int)) (a' := ?_) (by rfl) ?_ ?_ ?_; rotate_left 1; (focus (exact val_of rfl (run_8_64 HV.out))); (focus ((try simp only [Act.put, List.getElem_toArray, List.getElem_cons_zero, List.getElem_cons_succ, List.setIfInBounds_toArray, List.set_cons_zero, List.set_cons_succ]); first | done | rfl)))
  iterate 2 (refine Kr.seqQ (v := ?_) (a' := ?_) (by rfl) ?_ ?_ ?_; rotate_left 2; (focus (go_simp; first | done | rfl)); (focus ((try simp only [Act.put, List.getElem_toArray, List.getElem_cons_zero, List.getElem_cons_succ, List.setIfInBounds_toArray, List.set_cons_zero, List.set_cons_succ]); first | done | rfl)))
  refine Kr.seqDoneW ?_
  have hk : True := trivial
  go_wp2
  refine bodyPost_ret (v := .tuple #[.int .u64 ((c - 48 : Nat) : Int), .bool true]) (by simp [results, Try.results105, go_sem, hk]) rfl ⟨_, true, rfl, by simp only [vok, wv]; rw [if_pos h]; exact ⟨rfl, by omega⟩, H.g⟩
set_option linter.unusedSimpArgs false in
set_option maxRecDepth 100000 in
set_option maxHeartbeats 16000000 in
theorem value4_lo {c g : Nat} {w : World} (hc : c < 256) (hg : g = 10 ∨ g = 16) (h : c < 48 ∧ g ≠ 16) :
    Calls Try.prog 105 #[.int .u8 (c : Int), .int .u64 (g : Int)] w (ValR g c w) := by
  have f0 : ¬ (48 : Int) ≤ (c : Int) := by omega
  have f1 : ((g : Int) == 16) = false := by simp; omega
  have f2 : ¬ (g : Int) = 16 := by omega
  have H := Sta.start w
  go_enter Try.func105, Try.ntmps105
  go_upto_region 0 with fail
  refine Kr.seqStartW ?_
  iterate 2 (refine Kr.seqQ (v := ?_) (a' := ?_) (by rfl) ?_ ?_ ?_; rotate_left 2; (focus (go_simp; first | done | rfl)); (focus ((try simp only [Act.put, List.getElem_toArray, List.getElem_cons_zero, List.getElem_cons_succ, List.setIfInBounds_toArray, List.set_cons_zero, List.set_cons_succ]); first | done | rfl)))
  refine Kr.seqDoneW ?_
  go_upto_region 1 with fail
  refine Kr.seqStartW ?_
  iterate 3 (refine Kr.seqQ (v := ?_) (a' := ?_) (by rfl) ?_ ?_ ?_; rotate_left 2; (focus (go_simp; first | done | rfl)); (focus ((try simp only [Act.put, List.getElem_toArray, List.getElem_cons_zero, List.getElem_cons_succ, List.setIfInBounds_toArray, List.set_cons_zero, List.set_cons_succ]); first | done | rfl)))
  (refine Kr.seqSkipQ (a' := ?_) (by rfl) ?_ ?_; rotate_left; (focus ((try simp only [Act.put, List.getElem_toArray, List.getElem_cons_zero, List.getElem_cons_succ, List.setIfInBounds_toArray, List.set_cons_zero, List.set_cons_succ]); first | done | rfl)))
  (refine Kr.seqSkipQ (a' := ?_) (by rfl) ?_ ?_; rotate_left; (focus ((try simp only [Act.put, List.getElem_toArray, List.getElem_cons_zero, List.getElem_cons_succ, List.setIfInBounds_toArray, List.set_cons_zero, List.set_cons_succ]); first | done | rfl)))
  (refine Kr.seqQ (v := ?_) (a' := ?_) (by rfl) ?_ ?_ ?_; rotate_left 2; (focus (go_simp; first | done | rfl)); (focus ((try simp only [Act.put, List.getElem_toArray, List.getElem_cons_zero, List.getElem_cons_succ, List.setIfInBounds_toArray, List.set_cons_zero, List.set_cons_succ]); first | done | rfl)))
  refine Kr.seqDoneW ?_
  go_upto_region 3 with fail
  refine Kr.seqStartW ?_
  iterate 3 (refine Kr.seqQ (v := ?_) (a' := ?_) (by rfl) ?_ ?_ ?_; rotate_left 2; (focus (go_simp; first | done | rfl)); (focus ((try simp only [Act.put, List.getElem_toArray, List.getElem_cons_zero, List.getElem_cons_succ, List.setIfInBounds_toArray, List.set_cons_zero, List.set_cons_succ]); first | done | rfl)))
  (refine Kr.seqSkipQ (a' := ?_) (by rfl) ?_ ?_; rotate_left; (focus ((try simp only [Act.put, List.getElem_toArray, List.getElem_cons_zero, List.getElem_cons_succ, List.setIfInBounds_toArray, List.set_cons_zero, List.set_cons_succ]); first | done | rfl)))
  (refine Kr.seqSkipQ (a' := ?_) (by rfl) ?_ ?_; rotate_left; (focus ((try simp only [Act.put, List.getElem_toArray, List.getElem_cons_zero, List.getElem_cons_succ, List.setIfInBounds_toArray, List.set_cons_zero, List.set_cons_succ]); first | done | rfl)))
  iterate 2 (refine Kr.seqQ (v := ?_) (a' := ?_) (by rfl) ?_ ?_ ?_; rotate_left 2; (focus (go_simp; first | done | rfl)); (focus ((try simp only [Act.put, List.getElem_toArray, List.getElem_cons_zero, List.getElem_cons_succ, List.setIfInBounds_toArray, List.set_cons_zero, List.set_cons_succ]); first | done | rfl)))
  (refine Kr.seqSkipQ (a' := ?_) (by rfl) ?_ ?_; rotate_left; (focus ((try simp only [Act.put, List.getElem_toArray, List.getElem_cons_zero, List.getElem_cons_succ, List.setIfInBounds_toArray, List.set_cons_zero, List.set_cons_succ]); first | done | rfl)))
  (refine Kr.seqSkipQ (a' := ?_) (by rfl) ?_ ?_; rotate_left; (focus ((try simp only [Act.put, List.getElem_toArray, List.getElem_cons_zero, List.getElem_cons_succ, List.setIfInBounds_toArray, List.set_cons_zero, List.set_cons_succ]); first | done | rfl)))
  (refine Kr.seqQ (v := ?_) (a' := ?_) (by rfl) ?_ ?_ ?_; rotate_left 2; (focus (go_simp; first | done | rfl)); (focus ((try simp only [Act.put, List.getElem_toArray, List.getElem_cons_zero, List.getElem_cons_succ, List.setIfInBounds_toArray, List.set_cons_zero, List.set_cons_succ]); first | done | rfl)))
  refine Kr.seqDoneW ?_
  go_upto_region 5 with fail
  refine Kr.seqStartW ?_
  iterate 2 (refine Kr.seqQ (v := ?_) (a' := ?_) (by rfl) ?_ ?_ ?_; rotate_left 2; (focus (go_simp; first | done | rfl)); (focus ((try simp only [Act.put, List.getElem_toArray, List.getElem_cons_zero, List.getElem_cons_succ, List.setIfInBounds_toArray, List.set_cons_zero, List.set_cons_succ]); first | done | rfl)))
  refine Kr.seqDoneW ?_
  have hk : True := trivial
  go_wp2
  refine bodyPost_ret (v := .tuple #[.int .u64 0, .bool false]) (by simp [results, Try.results105, go_sem, hk]) rfl ⟨0, false, rfl, by simp only [vok, wv]; split <;> (try split) <;> omega, H.g⟩
set_option linter.unusedSimpArgs false in
set_option maxRecDepth 100000 in
set_option maxHeartbeats 16000000 in
theorem value4_lo16 {c g : Nat} {w : World} (hc : c < 256) (hg : g = 10 ∨ g = 16) (h : c < 48 ∧ g = 16) :
    Calls Try.prog 105 #[.int .u8 (c : Int), .int .u64 (g : Int)] w (ValR g c w) := by
  obtain ⟨h, rfl⟩ := h
  have f0 : ¬ (48 : Int) ≤ (c : Int) := by omega
  have f1 : ¬ (97 : Int) ≤ (c : Int) := by omega
  have H := Sta.start w
  go_enter Try.func105, Try.ntmps105
  go_upto_region 0 with fail
  refine Kr.seqStartW ?_
  iterate 2 (refine Kr.seqQ (v := ?_) (a' := ?_) (by rfl) ?_ ?_ ?_; rotate_left 2; (focus (go_simp; first | done | rfl)); (focus ((try simp only [Act.put, List.getElem_toArray, List.getElem_cons_zero, List.getElem_cons_succ, List.setIfInBounds_toArray, List.set_cons_zero, List.set_cons_succ]); first | done | rfl)))
  refine Kr.seqDoneW ?_
  go_upto_region 1 with fail
  refine Kr.seqStartW ?_
  iterate 3 (refine Kr.seqQ (v := ?_) (a' := ?_) (by rfl) ?_ ?_ ?_; rotate_left 2; (focus (go_simp; first | done | rfl)); (focus ((try simp only [Act.put, List.getElem_toArray, List.getElem_cons_zero, List.getElem_cons_succ, List.setIfInBounds_toArray, List.set_cons_zero, List.set_cons_succ]); first | done | rfl)))
  (refine Kr.seqSkipQ (a' := ?_) (by rfl) ?_ ?_; rotate_left; (focus ((try simp only [Act.put, List.getElem_toArray, List.getElem_cons_zero, List.getElem_cons_succ, List.setIfInBounds_toArray, List.set_cons_zero, List.set_cons_succ]); first | done | rfl)))
  (refine Kr.seqSkipQ (a' := ?_) (by rfl) ?_ ?_; rotate_left; (focus ((try simp only [Act.put, List.getElem_toArray, List.getElem_cons_zero, List.getElem_cons_succ, List.setIfInBounds_toArray, List.set_cons_zero, List.set_cons_succ]); first | done | rfl)))
  (refine Kr.seqQ (v := ?_) (a' := ?_) (by rfl) ?_ ?_ ?_; rotate_left 2; (focus (go_simp; first | done | rfl)); (focus ((try simp only [Act.put, List.getElem_toArray, List.getElem_cons_zero, List.getElem_cons_succ, List.setIfInBounds_toArray, List.set_cons_zero, List.set_cons_succ]); first | done | rfl)))
  refine Kr.seqDoneW ?_
  go_upto_region 3 with fail
  refine Kr.seqStartW ?_
  iterate 7 (refine Kr.seqQ (v := ?_) (a' := ?_) (by rfl) ?_ ?_ ?_; rotate_left 2; (focus (go_simp; first | done | rfl)); (focus ((try simp only [Act.put, List.getElem_toArray, List.getElem_cons_zero, List.getElem_cons_succ, List.setIfInBounds_toArray, List.set_cons_zero, List.set_cons_succ]); first | done | rfl)))
  (refine Kr.seqSkipQ (a' := ?_) (by rfl) ?_ ?_; rotate_left; (focus ((try simp only [Act.put, List.getElem_toArray, List.getElem_cons_zero, List.getElem_cons_succ, List.setIfInBounds_toArray, List.set_cons_zero, List.set_cons_succ]); first | done | rfl)))
  (refine Kr.seqSkipQ (a' := ?_) (by rfl) ?_ ?_; rotate_left; (focus ((try simp only [Act.put, List.getElem_toArray, List.getElem_cons_zero, List.getElem_cons_succ, List.setIfInBounds_toArray, List.set_cons_zero, List.set_cons_succ]); first | done | rfl)))
  (refine Kr.seqQ (v := ?_) (a' := ?_) (by rfl) ?_ ?_ ?_; rotate_left 2; (focus (go_simp; first | done | rfl)); (focus ((try simp only [Act.put, List.getElem_toArray, List.getElem_cons_zero, List.getElem_cons_succ, List.setIfInBounds_toArray, List.set_cons_zero, List.set_cons_succ]); first | done | rfl)))
  refine Kr.seqDoneW ?_
  go_upto_region 5 with fail
  refine Kr.seqStartW ?_
  iterate 2 (refine Kr.seqQ (v := ?_) (a' := ?_) (by rfl) ?_ ?_ ?_; rotate_left 2; (focus (go_simp; first | done | rfl)); (focus ((try simp only [Act.put, List.getElem_toArray, List.getElem_cons_zero, List.getElem_cons_succ, List.setIfInBounds_toArray, List.set_cons_zero, List.set_cons_succ]); first | done | rfl)))
  refine Kr.seqDoneW ?_
  have hk : True := trivial
  go_wp2
  refine bodyPost_ret (v := .tuple #[.int .u64 0, .bool false]) (by simp [results, Try.results105, go_sem, hk]) rfl ⟨0, false, rfl, by simp only [vok, wv]; split <;> (try split) <;> omega, H.g⟩
set_option linter.unusedSimpArgs false in
set_option maxRecDepth 100000 in
set_option maxHeartbeats 16000000 in
theorem value4_mid {c g : Nat} {w : World} (hc : c < 256) (hg : g = 10 ∨ g = 16) (h : 57 < c ∧ g ≠ 16) :
    Calls Try.prog 105 #[.int .u8 (c : Int), .int .u64 (g : Int)] w (ValR g c w) := by
  have f0 : (48 : Int) ≤ (c : Int) := by omega
  have f1 : ¬ (c : Int) ≤ 57 := by omega
  have f2 : ((g : Int) == 16) = false := by simp; omega
  have f3 : ¬ (g : Int) = 16 := by omega
  have H := Sta.start w
  go_enter Try.func105, Try.ntmps105
  go_upto_region 0 with fail
  refine Kr.seqStartW ?_
  iterate 2 (refine Kr.seqQ (v := ?_) (a' := ?_) (by rfl) ?_ ?_ ?_; rotate_left 2; (focus (go_simp; first | done | rfl)); (focus ((try simp only [Act.put, List.getElem_toArray, List.getElem_cons_zero, List.getElem_cons_succ, List.setIfInBounds_toArray, List.set_cons_zero, List.set_cons_succ]); first | done | rfl)))
  refine Kr.seqDoneW ?_
  go_upto_region 1 with fail
  refine Kr.seqStartW ?_
  iterate 6 (refine Kr.seqQ (v := ?_) (a' := ?_) (by rfl) ?_ ?_ ?_; rotate_left 2; (focus (go_simp; first | done | rfl)); (focus ((try simp only [Act.put, List.getElem_toArray, List.getElem_cons_zero, List.getElem_cons_succ, List.setIfInBounds_toArray, List.set_cons_zero, List.set_cons_succ]); first | done | rfl)))
  refine Kr.seqDoneW ?_
  go_upto_region 3 with fail
  refine Kr.seqStartW ?_
  iterate 3 (refine Kr.seqQ (v := ?_) (a' := ?_) (by rfl) ?_ ?_ ?_; rotate_left 2; (focus (go_simp; first | done | rfl)); (focus ((try simp only [Act.put, List.getElem_toArray, List.getElem_cons_zero, List.getElem_cons_succ, List.setIfInBounds_toArray, List.set_cons_zero, List.set_cons_succ]); first | done | rfl)))
  (refine Kr.seqSkipQ (a' := ?_) (by rfl) ?_ ?_; rotate_left; (focus ((try simp only [Act.put, List.getElem_toArray, List.getElem_cons_zero, List.getElem_cons_succ, List.setIfInBounds_toArray, List.set_cons_zero, List.set_cons_succ]); first | done | rfl)))
  (refine Kr.seqSkipQ (a' := ?_) (by rfl) ?_ ?_; rotate_left; (focus ((try simp only [Act.put, List.getElem_toArray, List.getElem_cons_zero, List.getElem_cons_succ, List.setIfInBounds_toArray, List.set_cons_zero, List.set_cons_succ]); first | done | rfl)))
  iterate 2 (refine Kr.seqQ (v := ?_) (a' := ?_) (by rfl) ?_ ?_ ?_; rotate_left 2; (focus (go_simp; first | done | rfl)); (focus ((try simp only [Act.put, List.getElem_toArray, List.getElem_cons_zero, List.getElem_cons_succ, List.setIfInBounds_toArray, List.set_cons_zero, List.set_cons_succ]); first | done | rfl)))
  (refine Kr.seqSkipQ (a' := ?_) (by rfl) ?_ ?_; rotate_left; (focus ((try simp only [Act.put, List.getElem_toArray, List.getElem_cons_zero, List.getElem_cons_succ, List.setIfInBounds_toArray, List.set_cons_zero, List.set_cons_succ]); first | done | rfl)))
  (refine Kr.seqSkipQ (a' := ?_) (by rfl) ?_ ?_; rotate_left; (focus ((try simp only [Act.put, List.getElem_toArray, List.getElem_cons_zero, List.getElem_cons_succ, List.setIfInBounds_toArray, List.set_cons_zero, List.set_cons_succ]); first | done | rfl)))
  (refine Kr.seqQ (v := ?_) (a' := ?_) (by rfl) ?_ ?_ ?_; rotate_left 2; (focus (go_simp; first | done | rfl)); (focus ((try simp only [Act.put, List.getElem_toArray, List.getElem_cons_zero, List.getElem_cons_succ, List.setIfInBounds_toArray, List.set_cons_zero, List.set_cons_succ]); first | done | rfl)))
  refine Kr.seqDoneW ?_
  go_upto_region 5 with fail
  refine Kr.seqStartW ?_
  iterate 2 (refine Kr.seqQ (v := ?_) (a' := ?_) (by rfl) ?_ ?_ ?_; rotate_left 2; (focus (go_simp; first | done | rfl)); (focus ((try simp only [Act.put, List.getElem_toArray, List.getElem_cons_zero, List.getElem_cons_succ, List.setIfInBounds_toArray, List.set_cons_zero, List.set_cons_succ]); first | done | rfl)))
  refine Kr.seqDoneW ?_
  have hk : True := trivial
  go_wp2
  refine bodyPost_ret (v := .tuple #[.int .u64 0, .bool false]) (by simp [results, Try.results105, go_sem, hk]) rfl ⟨0, false, rfl, by simp only [vok, wv]; split <;> (try split) <;> omega, H.g⟩
set_option linter.unusedSimpArgs false in
set_option maxRecDepth 100000 in
set_option maxHeartbeats 16000000 in
theorem value4_mid16 {c g : Nat} {w : World} (hc : c < 256) (hg : g = 10 ∨ g = 16) (h : (57 < c ∧ c < 97) ∧ g = 16) :
    Calls Try.prog 105 #[.int .u8 (c : Int), .int .u64 (g : Int)] w (ValR g c w) := by
  obtain ⟨h, rfl⟩ := h
  have f0 : (48 : Int) ≤ (c : Int) := by omega
  have f1 : ¬ (c : Int) ≤ 57 := by omega
  have f2 : ¬ (97 : Int) ≤ (c : Int) := by omega
  have H := Sta.start w
  go_enter Try.func105, Try.ntmps105
  go_upto_region 0 with fail
  refine Kr.seqStartW ?_
  iterate 2 (refine Kr.seqQ (v := ?_) (a' := ?_) (by rfl) ?_ ?_ ?_; rotate_left 2; (focus (go_simp; first | done | rfl)); (focus ((try simp only [Act.put, List.getElem_toArray, List.getElem_cons_zero, List.getElem_cons_succ, List.setIfInBounds_toArray, List.set_cons_zero, List.set_cons_succ]); first | done | rfl)))
  refine Kr.seqDoneW ?_
  go_upto_region 1 with fail
  refine Kr.seqStartW ?_
  iterate 6 (refine Kr.seqQ (v := ?_) (a' := ?_) (by rfl) ?_ ?_ ?_; rotate_left 2; (focus (go_simp; first | done | rfl)); (focus ((try simp only [Act.put, List.getElem_toArray, List.getElem_cons_zero, List.getElem_cons_succ, List.setIfInBounds_toArray, List.set_cons_zero, List.set_cons_succ]); first | done | rfl)))
  refine Kr.seqDoneW ?_
  go_upto_region 3 with fail
  refine Kr.seqStartW ?_
  iterate 7 (refine Kr.seqQ (v := ?_) (a' := ?_) (by rfl) ?_ ?_ ?_; rotate_left 2; (focus (go_simp; first | done | rfl)); (focus ((try simp only [Act.put, List.getElem_toArray, List.getElem_cons_zero, List.getElem_cons_succ, List.setIfInBounds_toArray, List.set_cons_zero, List.set_cons_succ]); first | done | rfl)))
  (refine Kr.seqSkipQ (a' := ?_) (by rfl) ?_ ?_; rotate_left; (focus ((try simp only [Act.put, List.getElem_toArray, List.getElem_cons_zero, List.getElem_cons_succ, List.setIfInBounds_toArray, List.set_cons_zero, List.set_cons_succ]); first | done | rfl)))
  (refine Kr.seqSkipQ (a' := ?_) (by rfl) ?_ ?_; rotate_left; (focus ((try simp only [Act.put, List.getElem_toArray, List.getElem_cons_zero, List.getElem_cons_succ, List.setIfInBounds_toArray, List.set_cons_zero, List.set_cons_succ]); first | done | rfl)))
  (refine Kr.seqQ (v := ?_) (a' := ?_) (by rfl) ?_ ?_ ?_; rotate_left 2; (focus (go_simp; first | done | rfl)); (focus ((try simp only [Act.put, List.getElem_toArray, List.getElem_cons_zero, List.getElem_cons_succ, List.setIfInBounds_toArray, List.set_cons_zero, List.set_cons_succ]); first | done | rfl)))
  refine Kr.seqDoneW ?_
  go_upto_region 5 with fail
  refine Kr.seqStartW ?_
  iterate 2 (refine Kr.seqQ (v := ?_) (a' := ?_) (by rfl) ?_ ?_ ?_; rotate_left 2; (focus (go_simp; first | done | rfl)); (focus ((try simp only [Act.put, List.getElem_toArray, List.getElem_cons_zero, List.getElem_cons_succ, List.setIfInBounds_toArray, List.set_cons_zero, List.set_cons_succ]); first | done | rfl)))
  refine Kr.seqDoneW ?_
  have hk : True := trivial
  go_wp2
  refine bodyPost_ret (v := .tuple #[.int .u64 0, .bool false]) (by simp [results, Try.results105, go_sem, hk]) rfl ⟨0, false, rfl, by simp only [vok, wv]; split <;> (try split) <;> omega, H.g⟩
set_option linter.unusedSimpArgs false in
set_option maxRecDepth 100000 in
set_option maxHeartbeats 16000000 in
theorem value4_hex {c g : Nat} {w : World} (hc : c < 256) (hg : g = 10 ∨ g = 16) (h : (97 ≤ c ∧ c ≤ 102) ∧ g = 16) :
    Calls Try.prog 105 #[.int .u8 (c : Int), .int .u64 (g : Int)] w (ValR g c w) := by
  obtain ⟨h, rfl⟩ := h
  have f0 : (48 : Int) ≤ (c : Int) := by omega
  have f1 : ¬ (c : Int) ≤ 57 := by omega
  have f2 : (97 : Int) ≤ (c : Int) := by omega
  have f3 : (c : Int) ≤ 102 := by omega
  have fw : IntKind.u8.wrap ((c : Int) - 97) = ((c - 97 : Nat) : Int) := by rw [IntWalk.u8_in _ (by omega)]; omega
  have HV : Hid (c - 97 < 256) := Lib.hid (by omega)
  have HV2 : Hid (c - 97 + 10 = c - 87) := Lib.hid (by omega)
  have H := Sta.start w
  go_enter Try.func105, Try.ntmps105
  go_upto_region 0 with fail
  refine Kr.seqStartW ?_
  iterate 2 (refine Kr.seqQ (v := ?_) (a' := ?_) (by rfl) ?_ ?_ ?_; rotate_left 2; (focus (go_simp; first | done | rfl)); (focus ((try simp only [Act.put, List.getElem_toArray, List.getElem_cons_zero, List.getElem_cons_succ, List.setIfInBounds_toArray, List.set_cons_zero, List.set_cons_succ]); first | done | rfl)))
  refine Kr.seqDoneW ?_
  go_upto_region 1 with fail
  refine Kr.seqStartW ?_
  iterate 6 (refine Kr.seqQ (v := ?_) (a' := ?_) (by rfl) ?_ ?_ ?_; rotate_left 2; (focus (go_simp; first | done | rfl)); (focus ((try simp only [Act.put, List.getElem_toArray, List.getElem_cons_zero, List.getElem_cons_succ, List.setIfInBounds_toArray, List.set_cons_zero, List.set_cons_succ]); first | done | rfl)))
  refine Kr.seqDoneW ?_
  go_upto_region 3 with fail
  refine Kr.seqStartW ?_
  iterate 10 (refine Kr.seqQ (v := ?_) (a' := ?_) (by rfl) ?_ ?_ ?_; rotate_left 2; (focus (go_simp; first | done | rfl)); (focus ((try simp only [Act.put, List.getElem_toArray, List.getElem_cons_zero, List.getElem_cons_succ, List.setIfInBounds_toArray, List.set_cons_zero, List.set_cons_succ]); first | done | rfl)))
  refine Kr.seqDoneW ?_
  go_upto_region 4 with fail
  refine Kr.seqStartW ?_
  (refine Kr.seqQ (v := ?_) (a' := ?_) (by rfl) ?_ ?_ ?_; rotate_left 2; (focus (go_simp; first | done | rfl)); (focus ((try simp only [Act.put, List.getElem_toArray, List.getElem_cons_zero, List.getElem_cons_succ, List.setIfInBounds_toArray, List.set_cons_zero, List.set_cons_succ]); first | done | rfl)))
  (refine Kr.seqQ (v := .int .u8 ((c - 97 : Nat) : Int)) (a' := ?_) (by rfl) ?_ ?_ ?_; rotate_left 1; (focus (exact val_of rfl (run_sub8 (y := 97) (by omega) (by omega) rfl))); (focus ((try simp only [Act.put, List.getElem_toArray, List.getElem_cons_zero, List.getElem_cons_succ, List.setIfInBounds_toArray, List.set_cons_zero, List.set_cons_succ]); first | done | rfl)))
  (refine Kr.seqQ (v := .int .u64 ((c - 97 : Nat) : Int)) (a' := ?_) (by rfl) ?_ ?_ ?_; rotate_left 1; (focus (exact val_of rfl (run_8_64 HV.out))); (focus ((try simp only [Act.put, List.getElem_toArray, List.getElem_cons_zero, List.getElem_cons_succ, List.setIfInBounds_toArray, List.set_cons_zero, List.set_cons_succ]); first | done | rfl)))
  (refine Kr.seqQ (v := .int .u64 ((c - 87 : Nat) : Int)) (a' := ?_) (by rfl) ?_ ?_ ?_; rotate_left 1; (focus (exact val_of rfl (run_add64 (y := 10) (by omega) HV2.out))); (focus ((try simp only [Act.put, List.getElem_toArray, List.getElem_cons_zero, List.getElem_cons_succ, List.setIfInBounds_toArray, List.set_cons_zero, List.set_cons_succ]); first | done | rfl)))
  iterate 2 (refine Kr.seqQ (v := ?_) (a' := ?_) (by rfl) ?_ ?_ ?_; rotate_left 2; (focus (go_simp; first | done | rfl)); (focus ((try simp only [Act.put, List.getElem_toArray, List.getElem_cons_zero, List.getElem_cons_succ, List.setIfInBounds_toArray, List.set_cons_zero, List.set_cons_succ]); first | done | rfl)))
  refine Kr.seqDoneW ?_
  have hk : True := trivial
  go_wp2
  refine bodyPost_ret (v := .tuple #[.int .u64 ((c - 87 : Nat) : Int), .bool true]) (by simp [results, Try.results105, go_sem, hk]) rfl ⟨_, true, rfl, by simp only [vok, wv]; rw [if_neg (by omega), if_pos h]; exact ⟨rfl, by omega⟩, H.g⟩
set_option linter.unusedSimpArgs false in
set_option maxRecDepth 100000 in
set_option maxHeartbeats 16000000 in
theorem value4_hi16 {c g : Nat} {w : World} (hc : c < 256) (hg : g = 10 ∨ g = 16) (h : 102 < c ∧ g = 16) :
    Calls Try.prog 105 #[.int .u8 (c : Int), .int .u64 (g : Int)] w (ValR g c w) := by
  obtain ⟨h, rfl⟩ := h
  have f0 : (48 : Int) ≤ (c : Int) := by omega
  have f1 : ¬ (c : Int) ≤ 57 := by omega
  have f2 : (97 : Int) ≤ (c : Int) := by omega
  have f3 : ¬ (c : Int) ≤ 102 := by omega
  have H := Sta.start w
  go_enter Try.func105, Try.ntmps105
  go_upto_region 0 with fail
  refine Kr.seqStartW ?_
  iterate 2 (refine Kr.seqQ (v := ?_) (a' := ?_) (by rfl) ?_ ?_ ?_; rotate_left 2; (focus (go_simp; first | done | rfl)); (focus ((try simp only [Act.put, List.getElem_toArray, List.getElem_cons_zero, List.getElem_cons_succ, List.setIfInBounds_toArray, List.set_cons_zero, List.set_cons_succ]); first | done | rfl)))
  refine Kr.seqDoneW ?_
  go_upto_region 1 with fail
  refine Kr.seqStartW ?_
  iterate 6 (refine Kr.seqQ (v := ?_) (a' := ?_) (by rfl) ?_ ?_ ?_; rotate_left 2; (focus (go_simp; first | done | rfl)); (focus ((try simp only [Act.put, List.getElem_toArray, List.getElem_cons_zero, List.getElem_cons_succ, List.setIfInBounds_toArray, List.set_cons_zero, List.set_cons_succ]); first | done | rfl)))
  refine Kr.seqDoneW ?_
  go_upto_region 3 with fail
  refine Kr.seqStartW ?_
  iterate 10 (refine Kr.seqQ (v := ?_) (a' := ?_) (by rfl) ?_ ?_ ?_; rotate_left 2; (focus (go_simp; first | done | rfl)); (focus ((try simp only [Act.put, List.getElem_toArray, List.getElem_cons_zero, List.getElem_cons_succ, List.setIfInBounds_toArray, List.set_cons_zero, List.set_cons_succ]); first | done | rfl)))
  refine Kr.seqDoneW ?_
  go_upto_region 5 with fail
  refine Kr.seqStartW ?_
  iterate 2 (refine Kr.seqQ (v := ?_) (a' := ?_) (by rfl) ?_ ?_ ?_; rotate_left 2; (focus (go_simp; first | done | rfl)); (focus ((try simp only [Act.put, List.getElem_toArray, List.getElem_cons_zero, List.getElem_cons_succ, List.setIfInBounds_toArray, List.set_cons_zero, List.set_cons_succ]); first | done | rfl)))
  refine Kr.seqDoneW ?_
  have hk : True := trivial
  go_wp2
  refine bodyPost_ret (v := .tuple #[.int .u64 0, .bool false]) (by simp [results, Try.results105, go_sem, hk]) rfl ⟨0, false, rfl, by simp only [vok, wv]; split <;> (try split) <;> omega, H.g⟩
theorem value4_v {c g : Nat} {w : World} (hc : c < 256) (hg : g = 10 ∨ g = 16) :
    Calls Try.prog 105 #[.int .u8 (c : Int), .int .u64 (g : Int)] w (ValR g c w) := by
  by_cases h1 : 48 ≤ c ∧ c ≤ 57
  · exact value4_dec hc hg h1
  by_cases h2 : g = 16
  · by_cases h3 : c < 48
    · exact value4_lo16 hc hg ⟨h3, h2⟩
    by_cases h4 : c < 97
    · exact value4_mid16 hc hg ⟨⟨by omega, h4⟩, h2⟩
    by_cases h5 : c ≤ 102
    · exact value4_hex hc hg ⟨⟨by omega, h5⟩, h2⟩
    · exact value4_hi16 hc hg ⟨by omega, h2⟩
  · by_cases h3 : c < 48
    · exact value4_lo hc hg ⟨h3, h2⟩
    · exact value4_mid hc hg ⟨by omega, h2⟩
end Go.Proofs.Ytlciocebbckdcaa.Rf


/- Words copied; strings joined; digits by places. -/
namespace Go.Proofs.Ytlciocebbckdcaa.Rf
open Go Go.RowKit Go.Proofs.Ytlciocebbckdcaa.Nm Go.Proofs.Ytlciocebbckdcaa.Ne Go.Proofs.Ytlciocebbckdcaa.Nf Go.Proofs.Ytlciocebbckdcaa.Nk Go.Proofs.Ytlciocebbckdcaa.Nr2 Go.Proofs.Ytlciocebbckdcaa.Kr Go.Proofs.Ytlciocebbckdcaa.Fb Go.Proofs.Ytlciocebbckdcaa.Ff

set_option maxRecDepth 20000 in
/-- append([]uint32{}, l...). -/
theorem wp_copy32 {o : Oper} {a : Act} {W0 y1 : World} {K : Act → World → Prop} {Q : Exit → Act → World → Prop} (s1 s2 : Operand) (ho : o.op = .call { callee := .builtin .append, args := #[s1, s2], argTypes := #[22, 22] })
    {b : Nat} (hy : W0.alloc (.cells #[] 50) = y1) (hb : W0.heap.size = b) (hs1 : a.eval s1 = .slice (some ⟨b, 0, none⟩) 0 0) {p : Option Addr} {n c : Nat} {l : List Nat} (hs2 : a.eval s2 = .slice p n c) (hl : Nw W0 p n c l)
    (h : ∀ q cap y, Nw y q n cap l → Gr W0 y → K (a.put o.dst (.slice q n cap)) y) : o.wp Try.prog a y1 K Q := by
  obtain ⟨i0, hi, hz0, hz1, hz2⟩ := info_parts infoW
  have hown : y1.ownsRow b 50 1 (.slice (some ⟨b, 0, none⟩) 0 0) 0 [] := by
    rw [← hy, ← hb]
    exact World.ownsRow_made (base := W0.heap.size) (e := 50) (size := 1) W0 #[] 0 (Nat.le_refl _) (by decide) rfl
  have hg : Gr W0 y1 := hy ▸ (Gr.refl _).alloc _
  have hl1 := hl.grow hg
  cases p with
  | none =>
    obtain ⟨h1, h2⟩ := hl.nil rfl
    subst h1; subst h2
    have hrun := run_append_owned_none (P := Try.prog) (w := y1) b 22 o.type 50 i0 1 Try.underlying22 hi _ 0 [] hown
    have hl0 : l = [] := List.eq_nil_of_length_eq_zero hl.len
    subst hl0
    have hk := h (some ⟨b, 0, none⟩) 0 y1 ⟨rfl, Nat.le_refl _, (fun e => by cases e), .inl rfl, ok_nil, by decide⟩ hg
    unfold Oper.wp
    simp [execOp, ho, resolve, invoke, builtin, hs1, hs2, hrun, Result.andThen]
    exact hk
  | some ad =>
    obtain ⟨v', w', hrun, ho2, hgr, _, _⟩ := run_append_own_at (P := Try.prog) y1 b 22 o.type 50 i0 (.int .u32 0) 1 4 Try.underlying22 hi hz0 hz1 hz2 rfl (by decide) _ 0 [] hown ad n c (cw l) (by rw [cw_length, hl.len, Nat.mul_one])
      (fun j u hu => by
        have hj : j < l.length := by have := (List.getElem?_eq_some_iff.1 hu).1; rwa [cw_length] at this
        obtain ⟨b2, off, e, hc⟩ := hl1.rd.at (by omega)
        cases e
        rw [addr_add, hc j hj, ← hu, cw_get hj]) (cw_one _) (by have := hl.small; unfold maxLen; omega) (by have := hl.small; omega) (hb ▸ hg.le)
    rw [Nat.zero_add, List.nil_append] at ho2
    obtain ⟨q, cap, rfl, hcap, hpn, hq⟩ := own_row hl.len.symm ho2
    rw [hl.len] at hcap hrun
    have hk := h q cap w' ⟨hl.len, hcap, (fun e => by have h3 := hpn e; rw [h3.1] at hl; exact ⟨hl.len.symm, h3.2⟩), hq.rd, hl.ok, hl.small⟩
      ⟨hgr.os.trans hg.os, hgr.tape.trans hg.tape, hgr.output.trans hg.output, Nat.le_trans hg.le hgr.size, fun k hk2 => by
        rw [← hg.block k hk2]
        exact hgr.block k (Nat.lt_of_lt_of_le hk2 hg.le) (fun e => by have e2 : k = b := Option.some.inj e; omega)⟩
    unfold Oper.wp
    simp [execOp, ho, resolve, invoke, builtin, hs1, hs2, hrun, Result.andThen]
    exact hk
theorem run_cat {P : Program} {w : World} (t : TypeId) {l m : List Nat} (h : l.length + m.length ≤ 9223372036854775807) : (binOp .add t (.string (str l)) (.string (str m))).run P w = .ok (.string (str (l ++ m))) w := by
  rw [binOp_string_add, run_string_add_sum w _ _ (by rw [str_size, str_size]; exact h), str_append]
theorem dval_pw {g : Nat} {l : List Nat} (hg : g ≤ 256) (hl : ∀ d ∈ l, d < g) : dval g l < pw l.length := by
  refine Nat.lt_of_lt_of_le (dval_lt l hl) ?_
  rw [pw_eq, Nat.pow_mul]
  exact Nat.pow_le_pow_left (by omega) _
/-- The lowest k digits in base 256, the highest first. -/
def bl : Nat → Nat → List Nat
  | 0, _ => []
  | k + 1, x => x / 256 ^ k % 256 :: bl k x
theorem bl_len (k x : Nat) : (bl k x).length = k := by
  induction k with
  | zero => rfl
  | succ k ih => simp [bl, ih]
theorem bl_lt (k x : Nat) : ∀ d ∈ bl k x, d < 256 := by
  induction k with
  | zero => intro d hd; cases hd
  | succ k ih =>
    intro d hd
    rcases List.mem_cons.1 hd with h | h
    · rw [h]; exact Nat.mod_lt _ (by decide)
    · exact ih d h
theorem bl_val (k x : Nat) : dval 256 (bl k x) = x % 256 ^ k := by
  induction k with
  | zero => simp [bl, dval]; omega
  | succ k ih =>
    rw [bl, dval_cons, ih, bl_len, Nat.pow_succ, Nat.mod_mul, Nat.mul_comm (x / 256 ^ k % 256), Nat.add_comm]
/-- The row when j places are still to come. -/
def brow (N x j : Nat) : List Nat := List.replicate j 0 ++ bl (N - j) x
theorem brow_len {N x j : Nat} (h : j ≤ N) : (brow N x j).length = N := by simp [brow, bl_len]; omega
theorem brow_start (N x : Nat) : brow N x N = List.replicate N 0 := by simp [brow, bl]
theorem brow_done (N x : Nat) : brow N x 0 = bl N x := by simp [brow]
theorem brow_set {N x j : Nat} (h : j < N) : (brow N x (j + 1)).set j (x / 256 ^ (N - (j + 1)) % 256) = brow N x j := by
  simp only [brow]
  rw [List.replicate_succ', List.append_assoc, List.set_append_right _ _ (by simp), show N - j = N - (j + 1) + 1 by omega]
  simp [bl]
theorem bl_pad {N x : Nat} (h : x < 256 ^ N) : bl N x = pad N (low 256 x).reverse := by
  have hlen : (low 256 x).reverse.length ≤ N := by rw [List.length_reverse]; exact low_len (by decide) N x h
  refine dval_inj (g := 256) ?_ (bl_lt N x) (pad_lt fun d hd => low_lt (by decide) x d (List.mem_reverse.1 hd)) ?_
  · rw [bl_len, pad_len hlen]
  · rw [bl_val, dval_pad, dval_low (by decide), Nat.mod_eq_of_lt h]
theorem low_fits {N x : Nat} : (low 256 x).reverse.length ≤ N ↔ x < 256 ^ N := by
  constructor
  · intro h
    have h1 := dval_lt (g := 256) (low 256 x).reverse fun d hd => low_lt (by decide) x d (List.mem_reverse.1 hd)
    rw [dval_low (by decide)] at h1
    exact Nat.lt_of_lt_of_le h1 (Nat.pow_le_pow_right (by decide) h)
  · intro h
    rw [List.length_reverse]
    exact low_len (by decide) N x h
theorem div_step (x k : Nat) : x / 256 ^ k / 256 = x / 256 ^ (k + 1) := by rw [Nat.div_div_eq_div_mul, Nat.pow_succ]
/-- A byte is stored beside a number. -/
theorem sta_byte2 {w W y : World} {cs : List (Nat × Nat × Value)} {b i x : Nat} {l : List Nat} {p : Option Addr} {n c z : Nat} (H : Sta w W cs [N p n c z, Rw b l]) (hb : w.heap.size ≤ b) (hi : i < l.length) (hy : W.setCell ⟨b, i, none⟩ (.int .u8 (x : Int)) = y) : Sta w y cs [N p n c z, Rw b (l.set i x)] := by
  subst hy
  have hr : Rw b l W := H.fact 1 rfl
  refine sta_put8 H hb (hr i hi).1 (fun F hF => ?_) (fun F hF => ?_)
  · rcases List.mem_cons.1 hF with rfl | hF
    · exact keepN _ _ _ _
    · rw [List.mem_singleton.1 hF]; exact keepRw _ _
  · rcases List.mem_cons.1 hF with rfl | hF
    · exact nw_put8 (hr i hi).1 (H.nw 0 rfl)
    · rw [List.mem_singleton.1 hF]; exact hr.put hi
end Go.Proofs.Ytlciocebbckdcaa.Rf


/- The contract of the fourth reference's Text. -/
namespace Go.Proofs.Ytlciocebbckdcaa.Rf
open Go.RowKit Go.Shelf Go.Proofs.Ytlciocebbckdcaa.Nm Go.Proofs.Ytlciocebbckdcaa.Ne Go.Proofs.Ytlciocebbckdcaa.Nf Go.Proofs.Ytlciocebbckdcaa.Nk Go.Proofs.Ytlciocebbckdcaa.Nv Go.Proofs.Ytlciocebbckdcaa.Nr2 Go.Proofs.Ytlciocebbckdcaa.Kr Go.Proofs.Ytlciocebbckdcaa.Fb Go.Proofs.Ytlciocebbckdcaa.Ff Go.Proofs.Ytlciocebbckdcaa.Mo

set_option linter.unusedSimpArgs false in
set_option maxRecDepth 100000 in
set_option maxHeartbeats 16000000 in
theorem text4_zero {pn : Option Addr} {nn cn g : Nat} {w : World} (hn : Nw w pn nn cn (digs 0)) :
    Calls Try.prog 58 #[.agg #[.slice pn nn cn], .int .u64 (g : Int)] w fun e w' => e = .returned (.string ⟨#[48]⟩) ∧ Gr w w' := by
  obtain rfl : nn = 0 := (len_zero hn).2 rfl
  have H := Sta.start w
  replace H := H.num hn
  go_enter Try.func58, Try.ntmps58
  go_upto_region 0 with fail
  refine Kr.seqStartW ?_
  refine Kr.seqR (by rfl) (fun K hK => ?_)
  go_simp
  obtain ⟨y1, hy⟩ : ∃ y, w.alloc (.cells #[.slice pn 0 cn] 24) = y := ⟨_, rfl⟩
  obtain ⟨bn, hb⟩ : ∃ b, w.heap.size = b := ⟨_, rfl⟩
  rw [hy, hb]
  replace H := H.alloc hy hb rfl
  clear hy hb
  (refine Kr.outS hK (a' := ?_) ?_ ?_; rotate_left; (focus ((try simp only [Act.put, List.getElem_toArray, List.getElem_cons_zero, List.getElem_cons_succ, List.setIfInBounds_toArray, List.set_cons_zero, List.set_cons_succ]); first | done | rfl))); clear hK K
  (refine Kr.seqQ (v := ?_) (a' := ?_) (by rfl) ?_ ?_ ?_; rotate_left 2; (focus (go_simp; first | done | rfl)); (focus ((try simp only [Act.put, List.getElem_toArray, List.getElem_cons_zero, List.getElem_cons_succ, List.setIfInBounds_toArray, List.set_cons_zero, List.set_cons_succ]); first | done | rfl)))
  refine Kr.seqDoneW ?_
  go_upto_region 1 with fail
  refine Kr.seqStartW ?_
  refine Kr.seqR (by rfl) (fun K hK => ?_)
  go_simp
  obtain ⟨y2, hyw⟩ : ∃ y, y1.alloc (.cells #[] 50) = y := ⟨_, rfl⟩
  obtain ⟨bw, hbw⟩ : ∃ b, y1.heap.size = b := ⟨_, rfl⟩
  rw [hyw, hbw]
  have HW0 := Lib.hid H; have HYW := Lib.hid hyw; have HBW := Lib.hid hbw
  have hg : Gr y1 y2 := hyw ▸ (Gr.refl _).alloc _
  replace H := H.grow hg
  clear hg hyw hbw
  (refine Kr.outS hK (a' := ?_) ?_ ?_; rotate_left; (focus ((try simp only [Act.put, List.getElem_toArray, List.getElem_cons_zero, List.getElem_cons_succ, List.setIfInBounds_toArray, List.set_cons_zero, List.set_cons_succ]); first | done | rfl))); clear hK K
  (refine Kr.seqQ (v := ?_) (a' := ?_) (by rfl) ?_ ?_ ?_; rotate_left 2; (focus (go_simp; first | done | rfl)); (focus ((try simp only [Act.put, List.getElem_toArray, List.getElem_cons_zero, List.getElem_cons_succ, List.setIfInBounds_toArray, List.set_cons_zero, List.set_cons_succ]); first | done | rfl)))
  have hk := H.c
  simp only [Kr.Cells] at hk
  (refine Kr.seqQ (v := ?_) (a' := ?_) (by rfl) ?_ ?_ ?_; rotate_left 2; (focus (go_simp; first | done | rfl)); (focus ((try simp only [Act.put, List.getElem_toArray, List.getElem_cons_zero, List.getElem_cons_succ, List.setIfInBounds_toArray, List.set_cons_zero, List.set_cons_succ]); first | done | rfl)))
  clear hk
  refine Kr.seqR (by rfl) (fun K hK => ?_)
  refine wp_copy32 (.tmp 9) (.tmp 11) rfl HYW.out HBW.out rfl rfl (HW0.out.nw 0 rfl) ?_
  intro pu cu yu hr hg
  replace H := HW0.out.grow hg
  replace H := H.num hr
  clear hr hg HYW HBW HW0
  (refine Kr.outS hK (a' := ?_) ?_ ?_; rotate_left; (focus ((try simp only [Act.put, List.getElem_toArray, List.getElem_cons_zero, List.getElem_cons_succ, List.setIfInBounds_toArray, List.set_cons_zero, List.set_cons_succ]); first | done | rfl))); clear hK K
  (refine Kr.seqQ (v := ?_) (a' := ?_) (by rfl) ?_ ?_ ?_; rotate_left 2; (focus (go_simp; first | done | rfl)); (focus ((try simp only [Act.put, List.getElem_toArray, List.getElem_cons_zero, List.getElem_cons_succ, List.setIfInBounds_toArray, List.set_cons_zero, List.set_cons_succ]); first | done | rfl)))
  refine Kr.seqDoneW ?_
  go_upto_region 2 with fail
  refine Kr.seqStartW ?_
  iterate 3 (refine Kr.seqQ (v := ?_) (a' := ?_) (by rfl) ?_ ?_ ?_; rotate_left 2; (focus (go_simp; first | done | rfl)); (focus ((try simp only [Act.put, List.getElem_toArray, List.getElem_cons_zero, List.getElem_cons_succ, List.setIfInBounds_toArray, List.set_cons_zero, List.set_cons_succ]); first | done | rfl)))
  refine Kr.seqDoneW ?_
  go_upto_region 3 with fail
  refine Kr.seqStartW ?_
  (refine Kr.seqQ (v := ?_) (a' := ?_) (by rfl) ?_ ?_ ?_; rotate_left 2; (focus (go_simp; first | done | rfl)); (focus ((try simp only [Act.put, List.getElem_toArray, List.getElem_cons_zero, List.getElem_cons_succ, List.setIfInBounds_toArray, List.set_cons_zero, List.set_cons_succ]); first | done | rfl)))
  refine Kr.seqDoneW ?_
  have hk := H.c
  simp only [Kr.Cells] at hk
  go_wp2
  refine bodyPost_ret (v := .string ⟨#[48]⟩) (by simp [results, Try.results58, go_sem, hk]) rfl ⟨rfl, H.g⟩
set_option linter.unusedSimpArgs false in
set_option maxRecDepth 100000 in
set_option maxHeartbeats 16000000 in
theorem text4_pos {pn : Option Addr} {nn cn x g : Nat} {w : World} (hn : Nw w pn nn cn (digs x)) (hx : x < pw 64) (hg : 2 ≤ g ∧ g ≤ 16) (h0 : x ≠ 0) :
    Calls Try.prog 58 #[.agg #[.slice pn nn cn], .int .u64 (g : Int)] w fun e w' => e = .returned (.string (str (txt g x))) ∧ Gr w w' := by
  have HG := Lib.hid hg; have HG0 : Hid (0 < g) := Lib.hid (by omega); have HGB : Hid (g ≤ 65536) := Lib.hid (by omega); have H0 := Lib.hid h0; have HSZ := Lib.hid (low_small hg.1 hx)
  have hnz : ¬ (nn : Int) = 0 := by have h := mt (len_zero hn).1 h0; omega
  have hnb : ((nn : Int) == 0) = false := by simpa using hnz
  clear h0 hx
  have H := Sta.start w
  replace H := H.num hn
  go_enter Try.func58, Try.ntmps58
  go_upto_region 0 with fail
  refine Kr.seqStartW ?_
  refine Kr.seqR (by rfl) (fun K hK => ?_)
  go_simp
  obtain ⟨y1, hy⟩ : ∃ y, w.alloc (.cells #[.slice pn nn cn] 24) = y := ⟨_, rfl⟩
  obtain ⟨bn, hb⟩ : ∃ b, w.heap.size = b := ⟨_, rfl⟩
  rw [hy, hb]
  replace H := H.alloc hy hb rfl
  clear hy hb
  (refine Kr.outS hK (a' := ?_) ?_ ?_; rotate_left; (focus ((try simp only [Act.put, List.getElem_toArray, List.getElem_cons_zero, List.getElem_cons_succ, List.setIfInBounds_toArray, List.set_cons_zero, List.set_cons_succ]); first | done | rfl))); clear hK K
  (refine Kr.seqQ (v := ?_) (a' := ?_) (by rfl) ?_ ?_ ?_; rotate_left 2; (focus (go_simp; first | done | rfl)); (focus ((try simp only [Act.put, List.getElem_toArray, List.getElem_cons_zero, List.getElem_cons_succ, List.setIfInBounds_toArray, List.set_cons_zero, List.set_cons_succ]); first | done | rfl)))
  refine Kr.seqDoneW ?_
  go_upto_region 1 with fail
  refine Kr.seqStartW ?_
  refine Kr.seqR (by rfl) (fun K hK => ?_)
  go_simp
  obtain ⟨y2, hyw⟩ : ∃ y, y1.alloc (.cells #[] 50) = y := ⟨_, rfl⟩
  obtain ⟨bw, hbw⟩ : ∃ b, y1.heap.size = b := ⟨_, rfl⟩
  rw [hyw, hbw]
  have HW0 := Lib.hid H; have HYW := Lib.hid hyw; have HBW := Lib.hid hbw
  have hg : Gr y1 y2 := hyw ▸ (Gr.refl _).alloc _
  replace H := H.grow hg
  clear hg hyw hbw
  (refine Kr.outS hK (a' := ?_) ?_ ?_; rotate_left; (focus ((try simp only [Act.put, List.getElem_toArray, List.getElem_cons_zero, List.getElem_cons_succ, List.setIfInBounds_toArray, List.set_cons_zero, List.set_cons_succ]); first | done | rfl))); clear hK K
  (refine Kr.seqQ (v := ?_) (a' := ?_) (by rfl) ?_ ?_ ?_; rotate_left 2; (focus (go_simp; first | done | rfl)); (focus ((try simp only [Act.put, List.getElem_toArray, List.getElem_cons_zero, List.getElem_cons_succ, List.setIfInBounds_toArray, List.set_cons_zero, List.set_cons_succ]); first | done | rfl)))
  have hk := H.c
  simp only [Kr.Cells] at hk
  (refine Kr.seqQ (v := ?_) (a' := ?_) (by rfl) ?_ ?_ ?_; rotate_left 2; (focus (go_simp; first | done | rfl)); (focus ((try simp only [Act.put, List.getElem_toArray, List.getElem_cons_zero, List.getElem_cons_succ, List.setIfInBounds_toArray, List.set_cons_zero, List.set_cons_succ]); first | done | rfl)))
  clear hk
  refine Kr.seqR (by rfl) (fun K hK => ?_)
  refine wp_copy32 (.tmp 9) (.tmp 11) rfl HYW.out HBW.out rfl rfl (HW0.out.nw 0 rfl) ?_
  intro pu cu yu hr hg
  replace H := HW0.out.grow hg
  replace H := H.num hr
  clear hr hg HYW HBW HW0
  (refine Kr.outS hK (a' := ?_) ?_ ?_; rotate_left; (focus ((try simp only [Act.put, List.getElem_toArray, List.getElem_cons_zero, List.getElem_cons_succ, List.setIfInBounds_toArray, List.set_cons_zero, List.set_cons_succ]); first | done | rfl))); clear hK K
  (refine Kr.seqQ (v := ?_) (a' := ?_) (by rfl) ?_ ?_ ?_; rotate_left 2; (focus (go_simp; first | done | rfl)); (focus ((try simp only [Act.put, List.getElem_toArray, List.getElem_cons_zero, List.getElem_cons_succ, List.setIfInBounds_toArray, List.set_cons_zero, List.set_cons_succ]); first | done | rfl)))
  refine Kr.seqDoneW ?_
  go_upto_region 2 with fail
  refine Kr.seqStartW ?_
  iterate 3 (refine Kr.seqQ (v := ?_) (a' := ?_) (by rfl) ?_ ?_ ?_; rotate_left 2; (focus (go_simp; first | done | rfl)); (focus ((try simp only [Act.put, List.getElem_toArray, List.getElem_cons_zero, List.getElem_cons_succ, List.setIfInBounds_toArray, List.set_cons_zero, List.set_cons_succ]); first | done | rfl)))
  refine Kr.seqDoneW ?_
  clear hnz hnb
  go_upto_region 4 with fail
  refine Kr.seqStartW ?_
  (refine Kr.seqQ (v := ?_) (a' := ?_) (by rfl) ?_ ?_ ?_; rotate_left 2; (focus (go_simp; first | done | rfl)); (focus ((try simp only [Act.put, List.getElem_toArray, List.getElem_cons_zero, List.getElem_cons_succ, List.setIfInBounds_toArray, List.set_cons_zero, List.set_cons_succ]); first | done | rfl)))
  refine Kr.seqDoneW ?_
  have H2 : Hid (Sta w yu [(bn, 0, .slice pn nn cn)] [N pu nn cu (x)]) := Lib.hid (H.pick [0] rfl)
  go_wp2
  go_loopg [5, 6, 7, 8] x (fun k v sv _ _ wr => ∃ (z : Nat) (r : List Nat) (pz : Option Addr) (nz cz : Nat), z ≤ k ∧ v = .slice pz nz cz ∧ sv = .string (str (r.map sm)) ∧ Hid ((low g z).reverse ++ r = (low g x).reverse) ∧ Hid (Sta w wr [(bn, 0, .slice pn nn cn)] [N pz nz cz z]))
  case atStart => exact ⟨x, [], _, _, _, Nat.le_refl _, rfl, rfl, Lib.hid (by simp), H2⟩
  case round =>
    clear H H2
    obtain ⟨z, r, pz, nz, cz, hk, rfl, rfl, HL, HH⟩ := hrel
    have H := HH.out
    clear HH
    have HNZ := Lib.hid (len_zero (H.nw 0 rfl))
    by_cases hz : z = 0
    · subst hz
      obtain rfl : nz = 0 := HNZ.out.2 rfl
      clear HNZ
      have HR : Hid (r = (low g x).reverse) := Lib.hid (by have h := HL.out; rwa [low_zero, List.reverse_nil, List.nil_append] at h)
      go_upto_region 5 with fail
      refine Kr.seqStartW ?_
      iterate 3 (refine Kr.seqQ (v := ?_) (a' := ?_) (by rfl) ?_ ?_ ?_; rotate_left 2; (focus (go_simp; first | done | rfl)); (focus ((try simp only [Act.put, List.getElem_toArray, List.getElem_cons_zero, List.getElem_cons_succ, List.setIfInBounds_toArray, List.set_cons_zero, List.set_cons_succ]); first | done | rfl)))
      refine Kr.seqDoneW ?_
      go_upto_region 9 with fail
      refine Kr.seqStartW ?_
      iterate 2 (refine Kr.seqQ (v := ?_) (a' := ?_) (by rfl) ?_ ?_ ?_; rotate_left 2; (focus (go_simp; first | done | rfl)); (focus ((try simp only [Act.put, List.getElem_toArray, List.getElem_cons_zero, List.getElem_cons_succ, List.setIfInBounds_toArray, List.set_cons_zero, List.set_cons_succ]); first | done | rfl)))
      refine Kr.seqDoneW ?_
      have hk := H.c
      simp only [Kr.Cells] at hk
      go_wp2
      refine bodyPost_ret (v := .string (str (r.map sm))) (by simp [results, Try.results58, go_sem, hk]) rfl ⟨by rw [txt, if_neg H0.out, HR.out], H.g⟩
    · have hnz : 0 < nz := Nat.pos_of_ne_zero (mt HNZ.out.1 hz)
      have hnz2 : (0 : Int) < (nz : Int) := by omega
      have HZ0 := Lib.hid hz
      clear HNZ hz
      go_upto_region 5 with fail
      refine Kr.seqStartW ?_
      iterate 3 (refine Kr.seqQ (v := ?_) (a' := ?_) (by rfl) ?_ ?_ ?_; rotate_left 2; (focus (go_simp; first | done | rfl)); (focus ((try simp only [Act.put, List.getElem_toArray, List.getElem_cons_zero, List.getElem_cons_succ, List.setIfInBounds_toArray, List.set_cons_zero, List.set_cons_succ]); first | done | rfl)))
      refine Kr.seqDoneW ?_
      clear hnz hnz2
      obtain ⟨d, hd⟩ : ∃ d, z % g = d := ⟨_, rfl⟩
      have HDL : Hid (d < 16) := Lib.hid (by rw [← hd]; exact Nat.lt_of_lt_of_le (Nat.mod_lt _ HG0.out) HG.out.2)
      have HD := Lib.hid hd
      clear hd
      have HRL : Hid (r.length ≤ 2048) := Lib.hid (by have h := congrArg List.length HL.out; have h2 := HSZ.out; rw [List.length_append, List.length_reverse, List.length_reverse] at h; omega)
      go_upto_region 6 with fail
      refine Kr.seqStartW ?_
      iterate 2 (refine Kr.seqQ (v := ?_) (a' := ?_) (by rfl) ?_ ?_ ?_; rotate_left 2; (focus (go_simp; first | done | rfl)); (focus ((try simp only [Act.put, List.getElem_toArray, List.getElem_cons_zero, List.getElem_cons_succ, List.setIfInBounds_toArray, List.set_cons_zero, List.set_cons_succ]); first | done | rfl)))
      refine Kr.seqR (by rfl) (fun K hK => ?_)
      go_simp
      go_at_call 102
      refine (divide4_v (d := g) (H.nw 0 rfl) ⟨HG0.out, HGB.out⟩).mono ?_
      rintro e y3 ⟨pq, nq, cq, rfl, hr, hg⟩
      rw [val_digs] at hr ⊢
      replace H := H.grow hg
      replace H := H.num hr
      clear hr hg
      rw [HD.out]
      (refine Kr.outS hK (a' := ?_) ?_ ?_; rotate_left; (focus ((try simp only [Act.put, List.getElem_toArray, List.getElem_cons_zero, List.getElem_cons_succ, List.setIfInBounds_toArray, List.set_cons_zero, List.set_cons_succ]); first | done | rfl))); clear hK K
      iterate 5 (refine Kr.seqQ (v := ?_) (a' := ?_) (by rfl) ?_ ?_ ?_; rotate_left 2; (focus (go_simp; first | done | rfl)); (focus ((try simp only [Act.put, List.getElem_toArray, List.getElem_cons_zero, List.getElem_cons_succ, List.setIfInBounds_toArray, List.set_cons_zero, List.set_cons_succ]); first | done | rfl)))
      refine Kr.seqDoneW ?_
      go_upto_region 7 with fail
      refine Kr.seqStartW ?_
      (refine Kr.seqQ (v := ?_) (a' := ?_) (by rfl) ?_ ?_ ?_; rotate_left 2; (focus (go_simp; first | done | rfl)); (focus ((try simp only [Act.put, List.getElem_toArray, List.getElem_cons_zero, List.getElem_cons_succ, List.setIfInBounds_toArray, List.set_cons_zero, List.set_cons_succ]); first | done | rfl)))
      refine Kr.seqR (by rfl) (fun K hK => ?_)
      go_simp
      go_at_call 103
      refine (digit4_v HDL.out).mono ?_
      rintro e y4 ⟨rfl, hg⟩
      replace H := H.grow hg
      clear hg
      (refine Kr.outS hK (a' := ?_) ?_ ?_; rotate_left; (focus ((try simp only [Act.put, List.getElem_toArray, List.getElem_cons_zero, List.getElem_cons_succ, List.setIfInBounds_toArray, List.set_cons_zero, List.set_cons_succ]); first | done | rfl))); clear hK K
      (refine Kr.seqQ (v := ?_) (a' := ?_) (by rfl) ?_ ?_ ?_; rotate_left 2; (focus (go_simp; first | done | rfl)); (focus ((try simp only [Act.put, List.getElem_toArray, List.getElem_cons_zero, List.getElem_cons_succ, List.setIfInBounds_toArray, List.set_cons_zero, List.set_cons_succ]); first | done | rfl)))
      (refine Kr.seqQ (v := .string (str ((d :: r).map sm))) (a' := ?_) (by rfl) ?_ ?_ ?_; rotate_left 1; (focus (exact val_of rfl (run_cat 9 (l := [sm d]) (m := r.map sm) (by rw [List.length_map]; have h := HRL.out; simp; omega)))); (focus ((try simp only [Act.put, List.getElem_toArray, List.getElem_cons_zero, List.getElem_cons_succ, List.setIfInBounds_toArray, List.set_cons_zero, List.set_cons_succ]); first | done | rfl)))
      (refine Kr.seqQ (v := ?_) (a' := ?_) (by rfl) ?_ ?_ ?_; rotate_left 2; (focus (go_simp; first | done | rfl)); (focus ((try simp only [Act.put, List.getElem_toArray, List.getElem_cons_zero, List.getElem_cons_succ, List.setIfInBounds_toArray, List.set_cons_zero, List.set_cons_succ]); first | done | rfl)))
      refine Kr.seqDoneW ?_
      go_upto_region 8 with fail
      refine Kr.seqStartW ?_
      iterate 2 (refine Kr.seqQ (v := ?_) (a' := ?_) (by rfl) ?_ ?_ ?_; rotate_left 2; (focus (go_simp; first | done | rfl)); (focus ((try simp only [Act.put, List.getElem_toArray, List.getElem_cons_zero, List.getElem_cons_succ, List.setIfInBounds_toArray, List.set_cons_zero, List.set_cons_succ]); first | done | rfl)))
      refine Kr.seqDoneW ?_
      go_wp2
      go_roundg (z / g)
      case measure => exact Nat.lt_of_lt_of_le (Nat.div_lt_self (Nat.pos_of_ne_zero HZ0.out) HG.out.1) hk
      case rel => exact ⟨z / g, d :: r, _, _, _, Nat.le_refl _, rfl, rfl, Lib.hid (by rw [← HL.out, low_step HG.out.1 HZ0.out, HD.out, List.reverse_cons, List.append_assoc]; rfl), Lib.hid (H.pick [0] rfl)⟩
theorem text4_v {pn : Option Addr} {nn cn x g : Nat} {w : World} (hn : Nw w pn nn cn (digs x)) (hx : x < pw 64) (hg : 2 ≤ g ∧ g ≤ 16) :
    Calls Try.prog 58 #[.agg #[.slice pn nn cn], .int .u64 (g : Int)] w fun e w' => e = .returned (.string (str (txt g x))) ∧ Gr w w' := by
  by_cases h0 : x = 0
  · subst h0
    have h := text4_zero (g := g) hn
    rwa [show (⟨#[48]⟩ : ByteArray) = str (txt g 0) by rw [txt, if_pos rfl]; rfl] at h
  · exact text4_pos hn hx hg h0
end Go.Proofs.Ytlciocebbckdcaa.Rf


/- The contract of the fourth reference's Bytes. -/
namespace Go.Proofs.Ytlciocebbckdcaa.Rf
open Go.RowKit Go.Shelf Go.Proofs.Ytlciocebbckdcaa.Nm Go.Proofs.Ytlciocebbckdcaa.Ne Go.Proofs.Ytlciocebbckdcaa.Nf Go.Proofs.Ytlciocebbckdcaa.Nk Go.Proofs.Ytlciocebbckdcaa.Nv Go.Proofs.Ytlciocebbckdcaa.Nr2 Go.Proofs.Ytlciocebbckdcaa.Kr Go.Proofs.Ytlciocebbckdcaa.Fb Go.Proofs.Ytlciocebbckdcaa.Ff Go.Proofs.Ytlciocebbckdcaa.Mo

set_option linter.unusedSimpArgs false in
set_option maxRecDepth 100000 in
set_option maxHeartbeats 16000000 in
theorem bytes4_bad {pn : Option Addr} {nn cn : Nat} {t : Int} {l : List Nat} {w : World} (hn : Nw w pn nn cn l) (hv : ¬ valid l) :
    Calls Try.prog 64 #[.agg #[.slice pn nn cn], .int .i64 t] w (BtE [] 1 w) := by
  have HV := Lib.hid (decide_eq_false hv)
  have H := Sta.start w
  replace H := H.add (keepWs _ _ _ _) hn
  go_enter Try.func64, Try.ntmps64
  go_upto_region 0 with fail
  refine Kr.seqStartW ?_
  refine Kr.seqR (by rfl) (fun K hK => ?_)
  go_simp
  obtain ⟨y1, hy⟩ : ∃ y, w.alloc (.cells #[.slice pn nn cn] 24) = y := ⟨_, rfl⟩
  obtain ⟨bn, hb⟩ : ∃ b, w.heap.size = b := ⟨_, rfl⟩
  rw [hy, hb]
  replace H := H.alloc hy hb rfl
  clear hy hb
  (refine Kr.outS hK (a' := ?_) ?_ ?_; rotate_left; (focus ((try simp only [Act.put, List.getElem_toArray, List.getElem_cons_zero, List.getElem_cons_succ, List.setIfInBounds_toArray, List.set_cons_zero, List.set_cons_succ]); first | done | rfl))); clear hK K
  iterate 2 (refine Kr.seqQ (v := ?_) (a' := ?_) (by rfl) ?_ ?_ ?_; rotate_left 2; (focus (go_simp; first | done | rfl)); (focus ((try simp only [Act.put, List.getElem_toArray, List.getElem_cons_zero, List.getElem_cons_succ, List.setIfInBounds_toArray, List.set_cons_zero, List.set_cons_succ]); first | done | rfl)))
  refine Kr.seqDoneW ?_
  go_upto_region 1 with fail
  refine Kr.seqStartW ?_
  have hk := H.c
  simp only [Kr.Cells] at hk
  (refine Kr.seqQ (v := ?_) (a' := ?_) (by rfl) ?_ ?_ ?_; rotate_left 2; (focus (go_simp; first | done | rfl)); (focus ((try simp only [Act.put, List.getElem_toArray, List.getElem_cons_zero, List.getElem_cons_succ, List.setIfInBounds_toArray, List.set_cons_zero, List.set_cons_succ]); first | done | rfl)))
  refine Kr.seqR (by rfl) (fun K hK => ?_)
  go_simp
  go_at_call 55
  refine (valid4_any pn nn cn l _ (H.ws 0 rfl)).mono ?_
  rintro e y2 ⟨rfl, hg⟩
  rw [HV.out]
  clear hk
  replace H := H.grow hg
  clear hg
  (refine Kr.outS hK (a' := ?_) ?_ ?_; rotate_left; (focus ((try simp only [Act.put, List.getElem_toArray, List.getElem_cons_zero, List.getElem_cons_succ, List.setIfInBounds_toArray, List.set_cons_zero, List.set_cons_succ]); first | done | rfl))); clear hK K
  (refine Kr.seqQ (v := ?_) (a' := ?_) (by rfl) ?_ ?_ ?_; rotate_left 2; (focus (go_simp; first | done | rfl)); (focus ((try simp only [Act.put, List.getElem_toArray, List.getElem_cons_zero, List.getElem_cons_succ, List.setIfInBounds_toArray, List.set_cons_zero, List.set_cons_succ]); first | done | rfl)))
  refine Kr.seqDoneW ?_
  go_upto_region 2 with fail
  refine Kr.seqStartW ?_
  iterate 2 (refine Kr.seqQ (v := ?_) (a' := ?_) (by rfl) ?_ ?_ ?_; rotate_left 2; (focus (go_simp; first | done | rfl)); (focus ((try simp only [Act.put, List.getElem_toArray, List.getElem_cons_zero, List.getElem_cons_succ, List.setIfInBounds_toArray, List.set_cons_zero, List.set_cons_succ]); first | done | rfl)))
  refine Kr.seqDoneW ?_
  have hk := H.c
  simp only [Kr.Cells] at hk
  go_wp2
  refine bodyPost_ret (v := .tuple #[.slice none 0 0, .int .i64 1]) (by simp [results, Try.results64, go_sem, hk]) rfl ⟨none, 0, 0, rfl, bt_none _, H.g⟩
set_option linter.unusedSimpArgs false in
set_option maxRecDepth 100000 in
set_option maxHeartbeats 16000000 in
theorem bytes4_range0 {pn : Option Addr} {nn cn x : Nat} {t : Int} {w : World} (hn : Nw w pn nn cn (digs x)) (hx : x < pw 64) (ht : t < 0) :
    Calls Try.prog 64 #[.agg #[.slice pn nn cn], .int .i64 t] w (BtE [] 2 w) := by
  have HX := Lib.hid hx
  have H := Sta.start w
  replace H := H.num hn
  go_enter Try.func64, Try.ntmps64
  go_upto_region 0 with fail
  refine Kr.seqStartW ?_
  refine Kr.seqR (by rfl) (fun K hK => ?_)
  go_simp
  obtain ⟨y1, hy⟩ : ∃ y, w.alloc (.cells #[.slice pn nn cn] 24) = y := ⟨_, rfl⟩
  obtain ⟨bn, hb⟩ : ∃ b, w.heap.size = b := ⟨_, rfl⟩
  rw [hy, hb]
  replace H := H.alloc hy hb rfl
  clear hy hb
  (refine Kr.outS hK (a' := ?_) ?_ ?_; rotate_left; (focus ((try simp only [Act.put, List.getElem_toArray, List.getElem_cons_zero, List.getElem_cons_succ, List.setIfInBounds_toArray, List.set_cons_zero, List.set_cons_succ]); first | done | rfl))); clear hK K
  iterate 2 (refine Kr.seqQ (v := ?_) (a' := ?_) (by rfl) ?_ ?_ ?_; rotate_left 2; (focus (go_simp; first | done | rfl)); (focus ((try simp only [Act.put, List.getElem_toArray, List.getElem_cons_zero, List.getElem_cons_succ, List.setIfInBounds_toArray, List.set_cons_zero, List.set_cons_succ]); first | done | rfl)))
  refine Kr.seqDoneW ?_
  go_upto_region 1 with fail
  refine Kr.seqStartW ?_
  have hk := H.c
  simp only [Kr.Cells] at hk
  (refine Kr.seqQ (v := ?_) (a' := ?_) (by rfl) ?_ ?_ ?_; rotate_left 2; (focus (go_simp; first | done | rfl)); (focus ((try simp only [Act.put, List.getElem_toArray, List.getElem_cons_zero, List.getElem_cons_succ, List.setIfInBounds_toArray, List.set_cons_zero, List.set_cons_succ]); first | done | rfl)))
  refine Kr.seqR (by rfl) (fun K hK => ?_)
  go_simp
  go_at_call 55
  refine (valid4_any _ _ _ _ _ (H.nw 0 rfl)).mono ?_
  rintro e y2 ⟨rfl, hg⟩
  rw [dv HX.out]
  clear hk
  replace H := H.grow hg
  clear hg
  (refine Kr.outS hK (a' := ?_) ?_ ?_; rotate_left; (focus ((try simp only [Act.put, List.getElem_toArray, List.getElem_cons_zero, List.getElem_cons_succ, List.setIfInBounds_toArray, List.set_cons_zero, List.set_cons_succ]); first | done | rfl))); clear hK K
  (refine Kr.seqQ (v := ?_) (a' := ?_) (by rfl) ?_ ?_ ?_; rotate_left 2; (focus (go_simp; first | done | rfl)); (focus ((try simp only [Act.put, List.getElem_toArray, List.getElem_cons_zero, List.getElem_cons_succ, List.setIfInBounds_toArray, List.set_cons_zero, List.set_cons_succ]); first | done | rfl)))
  refine Kr.seqDoneW ?_
  go_upto_region 3 with fail
  refine Kr.seqStartW ?_
  iterate 3 (refine Kr.seqQ (v := ?_) (a' := ?_) (by rfl) ?_ ?_ ?_; rotate_left 2; (focus (go_simp; first | done | rfl)); (focus ((try simp only [Act.put, List.getElem_toArray, List.getElem_cons_zero, List.getElem_cons_succ, List.setIfInBounds_toArray, List.set_cons_zero, List.set_cons_succ]); first | done | rfl)))
  (refine Kr.seqSkipQ (a' := ?_) (by rfl) ?_ ?_; rotate_left; (focus ((try simp only [Act.put, List.getElem_toArray, List.getElem_cons_zero, List.getElem_cons_succ, List.setIfInBounds_toArray, List.set_cons_zero, List.set_cons_succ]); first | done | rfl)))
  (refine Kr.seqSkipQ (a' := ?_) (by rfl) ?_ ?_; rotate_left; (focus ((try simp only [Act.put, List.getElem_toArray, List.getElem_cons_zero, List.getElem_cons_succ, List.setIfInBounds_toArray, List.set_cons_zero, List.set_cons_succ]); first | done | rfl)))
  (refine Kr.seqQ (v := ?_) (a' := ?_) (by rfl) ?_ ?_ ?_; rotate_left 2; (focus (go_simp; first | done | rfl)); (focus ((try simp only [Act.put, List.getElem_toArray, List.getElem_cons_zero, List.getElem_cons_succ, List.setIfInBounds_toArray, List.set_cons_zero, List.set_cons_succ]); first | done | rfl)))
  refine Kr.seqDoneW ?_
  go_upto_region 4 with fail
  refine Kr.seqStartW ?_
  iterate 2 (refine Kr.seqQ (v := ?_) (a' := ?_) (by rfl) ?_ ?_ ?_; rotate_left 2; (focus (go_simp; first | done | rfl)); (focus ((try simp only [Act.put, List.getElem_toArray, List.getElem_cons_zero, List.getElem_cons_succ, List.setIfInBounds_toArray, List.set_cons_zero, List.set_cons_succ]); first | done | rfl)))
  refine Kr.seqDoneW ?_
  have hk := H.c
  simp only [Kr.Cells] at hk
  go_wp2
  refine bodyPost_ret (v := .tuple #[.slice none 0 0, .int .i64 2]) (by simp [results, Try.results64, go_sem, hk]) rfl ⟨none, 0, 0, rfl, bt_none _, H.g⟩
set_option linter.unusedSimpArgs false in
set_option maxRecDepth 100000 in
set_option maxHeartbeats 16000000 in
theorem bytes4_range1 {pn : Option Addr} {nn cn x : Nat} {t : Int} {w : World} (hn : Nw w pn nn cn (digs x)) (hx : x < pw 64) (ht : 1000 < t) :
    Calls Try.prog 64 #[.agg #[.slice pn nn cn], .int .i64 t] w (BtE [] 2 w) := by
  have HX := Lib.hid hx
  have h2 : ¬ t < 0 := by omega
  have H := Sta.start w
  replace H := H.num hn
  go_enter Try.func64, Try.ntmps64
  go_upto_region 0 with fail
  refine Kr.seqStartW ?_
  refine Kr.seqR (by rfl) (fun K hK => ?_)
  go_simp
  obtain ⟨y1, hy⟩ : ∃ y, w.alloc (.cells #[.slice pn nn cn] 24) = y := ⟨_, rfl⟩
  obtain ⟨bn, hb⟩ : ∃ b, w.heap.size = b := ⟨_, rfl⟩
  rw [hy, hb]
  replace H := H.alloc hy hb rfl
  clear hy hb
  (refine Kr.outS hK (a' := ?_) ?_ ?_; rotate_left; (focus ((try simp only [Act.put, List.getElem_toArray, List.getElem_cons_zero, List.getElem_cons_succ, List.setIfInBounds_toArray, List.set_cons_zero, List.set_cons_succ]); first | done | rfl))); clear hK K
  iterate 2 (refine Kr.seqQ (v := ?_) (a' := ?_) (by rfl) ?_ ?_ ?_; rotate_left 2; (focus (go_simp; first | done | rfl)); (focus ((try simp only [Act.put, List.getElem_toArray, List.getElem_cons_zero, List.getElem_cons_succ, List.setIfInBounds_toArray, List.set_cons_zero, List.set_cons_succ]); first | done | rfl)))
  refine Kr.seqDoneW ?_
  go_upto_region 1 with fail
  refine Kr.seqStartW ?_
  have hk := H.c
  simp only [Kr.Cells] at hk
  (refine Kr.seqQ (v := ?_) (a' := ?_) (by rfl) ?_ ?_ ?_; rotate_left 2; (focus (go_simp; first | done | rfl)); (focus ((try simp only [Act.put, List.getElem_toArray, List.getElem_cons_zero, List.getElem_cons_succ, List.setIfInBounds_toArray, List.set_cons_zero, List.set_cons_succ]); first | done | rfl)))
  refine Kr.seqR (by rfl) (fun K hK => ?_)
  go_simp
  go_at_call 55
  refine (valid4_any _ _ _ _ _ (H.nw 0 rfl)).mono ?_
  rintro e y2 ⟨rfl, hg⟩
  rw [dv HX.out]
  clear hk
  replace H := H.grow hg
  clear hg
  (refine Kr.outS hK (a' := ?_) ?_ ?_; rotate_left; (focus ((try simp only [Act.put, List.getElem_toArray, List.getElem_cons_zero, List.getElem_cons_succ, List.setIfInBounds_toArray, List.set_cons_zero, List.set_cons_succ]); first | done | rfl))); clear hK K
  (refine Kr.seqQ (v := ?_) (a' := ?_) (by rfl) ?_ ?_ ?_; rotate_left 2; (focus (go_simp; first | done | rfl)); (focus ((try simp only [Act.put, List.getElem_toArray, List.getElem_cons_zero, List.getElem_cons_succ, List.setIfInBounds_toArray, List.set_cons_zero, List.set_cons_succ]); first | done | rfl)))
  refine Kr.seqDoneW ?_
  go_upto_region 3 with fail
  refine Kr.seqStartW ?_
  iterate 6 (refine Kr.seqQ (v := ?_) (a' := ?_) (by rfl) ?_ ?_ ?_; rotate_left 2; (focus (go_simp; first | done | rfl)); (focus ((try simp only [Act.put, List.getElem_toArray, List.getElem_cons_zero, List.getElem_cons_succ, List.setIfInBounds_toArray, List.set_cons_zero, List.set_cons_succ]); first | done | rfl)))
  refine Kr.seqDoneW ?_
  go_upto_region 4 with fail
  refine Kr.seqStartW ?_
  iterate 2 (refine Kr.seqQ (v := ?_) (a' := ?_) (by rfl) ?_ ?_ ?_; rotate_left 2; (focus (go_simp; first | done | rfl)); (focus ((try simp only [Act.put, List.getElem_toArray, List.getElem_cons_zero, List.getElem_cons_succ, List.setIfInBounds_toArray, List.set_cons_zero, List.set_cons_succ]); first | done | rfl)))
  refine Kr.seqDoneW ?_
  have hk := H.c
  simp only [Kr.Cells] at hk
  go_wp2
  refine bodyPost_ret (v := .tuple #[.slice none 0 0, .int .i64 2]) (by simp [results, Try.results64, go_sem, hk]) rfl ⟨none, 0, 0, rfl, bt_none _, H.g⟩
/-- What Bytes hands back for a valid number and a size that is permitted. -/
def BytesR (M x : Nat) (w : World) (e : Ending) (w' : World) : Prop := (low 256 x).reverse.length ≤ M ∧ BtE (pad M (low 256 x).reverse) 0 w e w' ∨ ¬ (low 256 x).reverse.length ≤ M ∧ BtE [] 9 w e w'
set_option linter.unusedSimpArgs false in
set_option maxRecDepth 100000 in
set_option maxHeartbeats 16000000 in
theorem bytes4_v {pn : Option Addr} {nn cn x M : Nat} {w : World} (hn : Nw w pn nn cn (digs x)) (hx : x < pw 64) (hN : M ≤ 1000) :
    Calls Try.prog 64 #[.agg #[.slice pn nn cn], .int .i64 (M : Int)] w (BytesR M x w) := by
  have HX := Lib.hid hx
  have h1 : ¬ (M : Int) < 0 := by omega
  have h2 : ¬ (1000 : Int) < (M : Int) := by omega
  have HNL := Lib.hid hN; have HG0 : Hid (0 < 256) := Lib.hid (by decide); have HGB : Hid (256 ≤ 65536) := Lib.hid (by decide)
  have H := Sta.start w
  replace H := H.num hn
  go_enter Try.func64, Try.ntmps64
  go_upto_region 0 with fail
  refine Kr.seqStartW ?_
  refine Kr.seqR (by rfl) (fun K hK => ?_)
  go_simp
  obtain ⟨y1, hy⟩ : ∃ y, w.alloc (.cells #[.slice pn nn cn] 24) = y := ⟨_, rfl⟩
  obtain ⟨bn, hb⟩ : ∃ b, w.heap.size = b := ⟨_, rfl⟩
  rw [hy, hb]
  replace H := H.alloc hy hb rfl
  clear hy hb
  (refine Kr.outS hK (a' := ?_) ?_ ?_; rotate_left; (focus ((try simp only [Act.put, List.getElem_toArray, List.getElem_cons_zero, List.getElem_cons_succ, List.setIfInBounds_toArray, List.set_cons_zero, List.set_cons_succ]); first | done | rfl))); clear hK K
  iterate 2 (refine Kr.seqQ (v := ?_) (a' := ?_) (by rfl) ?_ ?_ ?_; rotate_left 2; (focus (go_simp; first | done | rfl)); (focus ((try simp only [Act.put, List.getElem_toArray, List.getElem_cons_zero, List.getElem_cons_succ, List.setIfInBounds_toArray, List.set_cons_zero, List.set_cons_succ]); first | done | rfl)))
  refine Kr.seqDoneW ?_
  go_upto_region 1 with fail
  refine Kr.seqStartW ?_
  have hk := H.c
  simp only [Kr.Cells] at hk
  (refine Kr.seqQ (v := ?_) (a' := ?_) (by rfl) ?_ ?_ ?_; rotate_left 2; (focus (go_simp; first | done | rfl)); (focus ((try simp only [Act.put, List.getElem_toArray, List.getElem_cons_zero, List.getElem_cons_succ, List.setIfInBounds_toArray, List.set_cons_zero, List.set_cons_succ]); first | done | rfl)))
  refine Kr.seqR (by rfl) (fun K hK => ?_)
  go_simp
  go_at_call 55
  refine (valid4_any _ _ _ _ _ (H.nw 0 rfl)).mono ?_
  rintro e y2 ⟨rfl, hg⟩
  rw [dv HX.out]
  clear hk
  replace H := H.grow hg
  clear hg
  (refine Kr.outS hK (a' := ?_) ?_ ?_; rotate_left; (focus ((try simp only [Act.put, List.getElem_toArray, List.getElem_cons_zero, List.getElem_cons_succ, List.setIfInBounds_toArray, List.set_cons_zero, List.set_cons_succ]); first | done | rfl))); clear hK K
  (refine Kr.seqQ (v := ?_) (a' := ?_) (by rfl) ?_ ?_ ?_; rotate_left 2; (focus (go_simp; first | done | rfl)); (focus ((try simp only [Act.put, List.getElem_toArray, List.getElem_cons_zero, List.getElem_cons_succ, List.setIfInBounds_toArray, List.set_cons_zero, List.set_cons_succ]); first | done | rfl)))
  refine Kr.seqDoneW ?_
  go_upto_region 3 with fail
  refine Kr.seqStartW ?_
  iterate 6 (refine Kr.seqQ (v := ?_) (a' := ?_) (by rfl) ?_ ?_ ?_; rotate_left 2; (focus (go_simp; first | done | rfl)); (focus ((try simp only [Act.put, List.getElem_toArray, List.getElem_cons_zero, List.getElem_cons_succ, List.setIfInBounds_toArray, List.set_cons_zero, List.set_cons_succ]); first | done | rfl)))
  refine Kr.seqDoneW ?_
  clear h1 h2
  go_upto_region 5 with fail
  refine Kr.seqStartW ?_
  refine Kr.seqR (by rfl) (fun K hK => ?_)
  go_simp
  obtain ⟨y3, hyw⟩ : ∃ y, y2.alloc (.cells #[] 50) = y := ⟨_, rfl⟩
  obtain ⟨bw, hbw⟩ : ∃ b, y2.heap.size = b := ⟨_, rfl⟩
  rw [hyw, hbw]
  have HW0 := Lib.hid H; have HYW := Lib.hid hyw; have HBW := Lib.hid hbw
  have hg : Gr y2 y3 := hyw ▸ (Gr.refl _).alloc _
  replace H := H.grow hg
  clear hg hyw hbw
  (refine Kr.outS hK (a' := ?_) ?_ ?_; rotate_left; (focus ((try simp only [Act.put, List.getElem_toArray, List.getElem_cons_zero, List.getElem_cons_succ, List.setIfInBounds_toArray, List.set_cons_zero, List.set_cons_succ]); first | done | rfl))); clear hK K
  (refine Kr.seqQ (v := ?_) (a' := ?_) (by rfl) ?_ ?_ ?_; rotate_left 2; (focus (go_simp; first | done | rfl)); (focus ((try simp only [Act.put, List.getElem_toArray, List.getElem_cons_zero, List.getElem_cons_succ, List.setIfInBounds_toArray, List.set_cons_zero, List.set_cons_succ]); first | done | rfl)))
  have hk := H.c
  simp only [Kr.Cells] at hk
  (refine Kr.seqQ (v := ?_) (a' := ?_) (by rfl) ?_ ?_ ?_; rotate_left 2; (focus (go_simp; first | done | rfl)); (focus ((try simp only [Act.put, List.getElem_toArray, List.getElem_cons_zero, List.getElem_cons_succ, List.setIfInBounds_toArray, List.set_cons_zero, List.set_cons_succ]); first | done | rfl)))
  clear hk
  refine Kr.seqR (by rfl) (fun K hK => ?_)
  refine wp_copy32 (.tmp 20) (.tmp 22) rfl HYW.out HBW.out rfl rfl (HW0.out.nw 0 rfl) ?_
  intro pu cu yu hr hg
  replace H := HW0.out.grow hg
  replace H := H.num hr
  clear hr hg HYW HBW HW0
  (refine Kr.outS hK (a' := ?_) ?_ ?_; rotate_left; (focus ((try simp only [Act.put, List.getElem_toArray, List.getElem_cons_zero, List.getElem_cons_succ, List.setIfInBounds_toArray, List.set_cons_zero, List.set_cons_succ]); first | done | rfl))); clear hK K
  (refine Kr.seqQ (v := ?_) (a' := ?_) (by rfl) ?_ ?_ ?_; rotate_left 2; (focus (go_simp; first | done | rfl)); (focus ((try simp only [Act.put, List.getElem_toArray, List.getElem_cons_zero, List.getElem_cons_succ, List.setIfInBounds_toArray, List.set_cons_zero, List.set_cons_succ]); first | done | rfl)))
  refine Kr.seqDoneW ?_
  go_upto_region 6 with fail
  refine Kr.seqStartW ?_
  (refine Kr.seqQ (v := ?_) (a' := ?_) (by rfl) ?_ ?_ ?_; rotate_left 2; (focus (go_simp; first | done | rfl)); (focus ((try simp only [Act.put, List.getElem_toArray, List.getElem_cons_zero, List.getElem_cons_succ, List.setIfInBounds_toArray, List.set_cons_zero, List.set_cons_succ]); first | done | rfl)))
  refine Kr.seqR (by rfl) (fun K hK => ?_)
  refine wp_make8 M (.tmp 24) (.tmp 24) rfl rfl rfl (by have h := HNL.out; omega) ?_
  intro b yb hblk hg hb
  have HB : Hid (w.heap.size ≤ b) := Lib.hid (hb ▸ H.g.le)
  replace H := H.grow hg
  replace H := H.add (keepRw _ _) (show Rw b (brow M x M) yb by rw [brow_start]; exact rw_block hblk)
  clear hg hb hblk
  (refine Kr.outS hK (a' := ?_) ?_ ?_; rotate_left; (focus ((try simp only [Act.put, List.getElem_toArray, List.getElem_cons_zero, List.getElem_cons_succ, List.setIfInBounds_toArray, List.set_cons_zero, List.set_cons_succ]); first | done | rfl))); clear hK K
  (refine Kr.seqQ (v := ?_) (a' := ?_) (by rfl) ?_ ?_ ?_; rotate_left 2; (focus (go_simp; first | done | rfl)); (focus ((try simp only [Act.put, List.getElem_toArray, List.getElem_cons_zero, List.getElem_cons_succ, List.setIfInBounds_toArray, List.set_cons_zero, List.set_cons_succ]); first | done | rfl)))
  refine Kr.seqDoneW ?_
  have nw : IntKind.i64.wrap ((M : Int) - 1) = (M : Int) - 1 := IntWalk.i64_in _ (by omega)
  go_upto_region 7 with fail
  refine Kr.seqStartW ?_
  iterate 3 (refine Kr.seqQ (v := ?_) (a' := ?_) (by rfl) ?_ ?_ ?_; rotate_left 2; (focus (go_simp; first | done | rfl)); (focus ((try simp only [Act.put, List.getElem_toArray, List.getElem_cons_zero, List.getElem_cons_succ, List.setIfInBounds_toArray, List.set_cons_zero, List.set_cons_succ]); first | done | rfl)))
  refine Kr.seqDoneW ?_
  clear nw
  have H2 : Hid (Sta w yb [(bn, 0, .slice pn nn cn)] [Kr.N pu nn cu (x / 256 ^ (M - M)), Rw b (brow M x M)]) := Lib.hid (by rw [Nat.sub_self, Nat.pow_zero, Nat.div_one]; exact H.pick [1, 0] rfl)
  go_wp2
  go_loopg [6, 8, 9, 10] M (fun k v i _ _ wr => ∃ (j : Nat) (z : Int) (pz : Option Addr) (nz cz : Nat), j ≤ k ∧ j ≤ M ∧ z = (j : Int) - 1 ∧ i = .int .i64 z ∧ v = .slice pz nz cz ∧ Hid (Sta w wr [(bn, 0, .slice pn nn cn)] [Kr.N pz nz cz (x / 256 ^ (M - j)), Rw b (brow M x j)]))
  case atStart => exact ⟨M, _, _, _, _, Nat.le_refl _, Nat.le_refl _, rfl, rfl, rfl, H2⟩
  case round =>
    clear H H2
    obtain ⟨j, z, pz, nz, cz, hjk, hjn, hz, rfl, rfl, HH⟩ := hrel
    have H := HH.out
    clear HH
    rcases j with _ | j
    · obtain rfl : z = -1 := by omega
      clear hz hjk hjn
      rw [brow_done, Nat.sub_zero] at H
      go_upto_region 8 with fail
      refine Kr.seqStartW ?_
      iterate 2 (refine Kr.seqQ (v := ?_) (a' := ?_) (by rfl) ?_ ?_ ?_; rotate_left 2; (focus (go_simp; first | done | rfl)); (focus ((try simp only [Act.put, List.getElem_toArray, List.getElem_cons_zero, List.getElem_cons_succ, List.setIfInBounds_toArray, List.set_cons_zero, List.set_cons_succ]); first | done | rfl)))
      refine Kr.seqDoneW ?_
      have HNZ := Lib.hid (len_zero (H.nw 0 rfl))
      have HDZ : Hid (x / 256 ^ M = 0 ↔ x < 256 ^ M) := Lib.hid (Nat.div_eq_zero_iff.trans ⟨fun h => h.resolve_left (Nat.ne_of_gt (Nat.pow_pos (by decide))), .inr⟩)
      by_cases hfit : x < 256 ^ M
      · have HFT := Lib.hid hfit
        clear hfit
        obtain rfl : nz = 0 := HNZ.out.2 (HDZ.out.2 HFT.out)
        clear HNZ
        go_upto_region 13 with fail
        refine Kr.seqStartW ?_
        iterate 3 (refine Kr.seqQ (v := ?_) (a' := ?_) (by rfl) ?_ ?_ ?_; rotate_left 2; (focus (go_simp; first | done | rfl)); (focus ((try simp only [Act.put, List.getElem_toArray, List.getElem_cons_zero, List.getElem_cons_succ, List.setIfInBounds_toArray, List.set_cons_zero, List.set_cons_succ]); first | done | rfl)))
        refine Kr.seqDoneW ?_
        go_upto_region 15 with fail
        refine Kr.seqStartW ?_
        iterate 3 (refine Kr.seqQ (v := ?_) (a' := ?_) (by rfl) ?_ ?_ ?_; rotate_left 2; (focus (go_simp; first | done | rfl)); (focus ((try simp only [Act.put, List.getElem_toArray, List.getElem_cons_zero, List.getElem_cons_succ, List.setIfInBounds_toArray, List.set_cons_zero, List.set_cons_succ]); first | done | rfl)))
        refine Kr.seqDoneW ?_
        have hk := H.c
        simp only [Kr.Cells] at hk
        go_wp2
        refine bodyPost_ret (v := .tuple #[.slice (some ⟨b, 0, none⟩) M M, .int .i64 0]) (by simp [results, Try.results64, go_sem, hk]) rfl (.inl ⟨low_fits.2 HFT.out, some ⟨b, 0, none⟩, M, M, rfl, by rw [← bl_pad HFT.out]; exact (H.fact 1 rfl : Rw b (bl M x) _).bt (bl_len M x) (Nat.le_refl _) (bl_lt M x) (by have h := HNL.out; omega), H.g⟩)
      · have HFT := Lib.hid hfit
        clear hfit
        have hnz : 0 < nz := Nat.pos_of_ne_zero (mt HNZ.out.1 (mt HDZ.out.1 HFT.out))
        have hnz2 : (0 : Int) < (nz : Int) := by omega
        clear HNZ
        go_upto_region 13 with fail
        refine Kr.seqStartW ?_
        iterate 3 (refine Kr.seqQ (v := ?_) (a' := ?_) (by rfl) ?_ ?_ ?_; rotate_left 2; (focus (go_simp; first | done | rfl)); (focus ((try simp only [Act.put, List.getElem_toArray, List.getElem_cons_zero, List.getElem_cons_succ, List.setIfInBounds_toArray, List.set_cons_zero, List.set_cons_succ]); first | done | rfl)))
        refine Kr.seqDoneW ?_
        clear hnz hnz2
        go_upto_region 14 with fail
        refine Kr.seqStartW ?_
        iterate 2 (refine Kr.seqQ (v := ?_) (a' := ?_) (by rfl) ?_ ?_ ?_; rotate_left 2; (focus (go_simp; first | done | rfl)); (focus ((try simp only [Act.put, List.getElem_toArray, List.getElem_cons_zero, List.getElem_cons_succ, List.setIfInBounds_toArray, List.set_cons_zero, List.set_cons_succ]); first | done | rfl)))
        refine Kr.seqDoneW ?_
        have hk := H.c
        simp only [Kr.Cells] at hk
        go_wp2
        refine bodyPost_ret (v := .tuple #[.slice none 0 0, .int .i64 9]) (by simp [results, Try.results64, go_sem, hk]) rfl (.inr ⟨fun h => HFT.out (low_fits.1 h), none, 0, 0, rfl, bt_none _, H.g⟩)
    · obtain rfl : z = (j : Int) := by omega
      clear hz
      have hlen : j < (brow M x (j + 1)).length := by rw [brow_len hjn]; exact hjn
      have HXL := Lib.hid hlen
      clear hlen
      have hset := Lib.hid (brow_set (x := x) (show j < M from hjn)); have hds := Lib.hid (div_step x (M - (j + 1)))
      have HJE : Hid (M - (j + 1) + 1 = M - j) := Lib.hid (by omega)
      obtain ⟨v, hv⟩ : ∃ v, x / 256 ^ (M - (j + 1)) = v := ⟨_, rfl⟩
      rw [hv] at H hset hds
      clear hv
      obtain ⟨q, hq⟩ : ∃ q, v % 256 = q := ⟨_, rfl⟩
      rw [hq] at hset
      have HQ := Lib.hid hq; have HQL : Hid (q < 256) := Lib.hid (by rw [← hq]; exact Nat.mod_lt _ (by decide))
      clear hq
      have j0 : (0 : Int) ≤ (j : Int) := by omega
      have j1 : (j : Int) < (M : Int) := by omega
      have jt : ((j : Int)).toNat = j := by omega
      have jw : IntKind.i64.wrap ((j : Int) - 1) = (j : Int) - 1 := IntWalk.i64_in _ (by omega)
      go_upto_region 8 with fail
      refine Kr.seqStartW ?_
      iterate 2 (refine Kr.seqQ (v := ?_) (a' := ?_) (by rfl) ?_ ?_ ?_; rotate_left 2; (focus (go_simp; first | done | rfl)); (focus ((try simp only [Act.put, List.getElem_toArray, List.getElem_cons_zero, List.getElem_cons_succ, List.setIfInBounds_toArray, List.set_cons_zero, List.set_cons_succ]); first | done | rfl)))
      refine Kr.seqDoneW ?_
      go_upto_region 10 with fail
      refine Kr.seqStartW ?_
      (refine Kr.seqQ (v := ?_) (a' := ?_) (by rfl) ?_ ?_ ?_; rotate_left 2; (focus (go_simp; first | done | rfl)); (focus ((try simp only [Act.put, List.getElem_toArray, List.getElem_cons_zero, List.getElem_cons_succ, List.setIfInBounds_toArray, List.set_cons_zero, List.set_cons_succ]); first | done | rfl)))
      refine Kr.seqR (by rfl) (fun K hK => ?_)
      go_simp
      go_at_call 102
      refine (divide4_v (d := 256) (H.nw 0 rfl) ⟨HG0.out, HGB.out⟩).mono ?_
      rintro e y4 ⟨pq, nq, cq, rfl, hr, hg⟩
      rw [val_digs] at hr ⊢
      replace H := H.grow hg
      replace H := H.num hr
      clear hr hg
      rw [HQ.out]
      (refine Kr.outS hK (a' := ?_) ?_ ?_; rotate_left; (focus ((try simp only [Act.put, List.getElem_toArray, List.getElem_cons_zero, List.getElem_cons_succ, List.setIfInBounds_toArray, List.set_cons_zero, List.set_cons_succ]); first | done | rfl))); clear hK K
      iterate 5 (refine Kr.seqQ (v := ?_) (a' := ?_) (by rfl) ?_ ?_ ?_; rotate_left 2; (focus (go_simp; first | done | rfl)); (focus ((try simp only [Act.put, List.getElem_toArray, List.getElem_cons_zero, List.getElem_cons_succ, List.setIfInBounds_toArray, List.set_cons_zero, List.set_cons_succ]); first | done | rfl)))
      refine Kr.seqDoneW ?_
      replace H := H.pick [0, 2] rfl
      go_upto_region 11 with fail
      refine Kr.seqStartW ?_
      iterate 3 (refine Kr.seqQ (v := ?_) (a' := ?_) (by rfl) ?_ ?_ ?_; rotate_left 2; (focus (go_simp; first | done | rfl)); (focus ((try simp only [Act.put, List.getElem_toArray, List.getElem_cons_zero, List.getElem_cons_succ, List.setIfInBounds_toArray, List.set_cons_zero, List.set_cons_succ]); first | done | rfl)))
      (refine Kr.seqQ (v := .int .u8 (q : Int)) (a' := ?_) (by rfl) ?_ ?_ ?_; rotate_left 1; (focus (exact val_of rfl (run_64_8 HQL.out))); (focus ((try simp only [Act.put, List.getElem_toArray, List.getElem_cons_zero, List.getElem_cons_succ, List.setIfInBounds_toArray, List.set_cons_zero, List.set_cons_succ]); first | done | rfl)))
      (refine Kr.seqQ (v := ?_) (a' := ?_) (by rfl) ?_ ?_ ?_; rotate_left 2; (focus (go_simp; first | done | rfl)); (focus ((try simp only [Act.put, List.getElem_toArray, List.getElem_cons_zero, List.getElem_cons_succ, List.setIfInBounds_toArray, List.set_cons_zero, List.set_cons_succ]); first | done | rfl)))
      obtain ⟨hc, hf⟩ := (H.fact 1 rfl : Rw b (brow M x (j + 1)) y4) j HXL.out
      refine Kr.seqR (by rfl) (fun K hK => ?_)
      go_simp
      obtain ⟨ys, hy⟩ : ∃ y, y4.setCell ⟨b, j, none⟩ (.int .u8 (q : Int)) = y := ⟨_, rfl⟩
      rw [hy]
      replace H := sta_byte2 H HB.out HXL.out hy
      rw [hset.out] at H
      clear hy hc hf
      (refine Kr.outS hK (a' := ?_) ?_ ?_; rotate_left; (focus ((try simp only [Act.put, List.getElem_toArray, List.getElem_cons_zero, List.getElem_cons_succ, List.setIfInBounds_toArray, List.set_cons_zero, List.set_cons_succ]); first | done | rfl))); clear hK K
      refine Kr.seqDoneW ?_
      go_upto_region 12 with fail
      refine Kr.seqStartW ?_
      iterate 2 (refine Kr.seqQ (v := ?_) (a' := ?_) (by rfl) ?_ ?_ ?_; rotate_left 2; (focus (go_simp; first | done | rfl)); (focus ((try simp only [Act.put, List.getElem_toArray, List.getElem_cons_zero, List.getElem_cons_succ, List.setIfInBounds_toArray, List.set_cons_zero, List.set_cons_succ]); first | done | rfl)))
      refine Kr.seqDoneW ?_
      go_upto_region 9 with fail
      refine Kr.seqStartW ?_
      iterate 3 (refine Kr.seqQ (v := ?_) (a' := ?_) (by rfl) ?_ ?_ ?_; rotate_left 2; (focus (go_simp; first | done | rfl)); (focus ((try simp only [Act.put, List.getElem_toArray, List.getElem_cons_zero, List.getElem_cons_succ, List.setIfInBounds_toArray, List.set_cons_zero, List.set_cons_succ]); first | done | rfl)))
      refine Kr.seqDoneW ?_
      go_wp2
      go_roundg j
      case measure => exact hjk
      case rel => exact ⟨j, _, _, _, _, Nat.le_refl _, by omega, rfl, rfl, rfl, Lib.hid (by rw [hds.out, HJE.out] at H; exact H)⟩
end Go.Proofs.Ytlciocebbckdcaa.Rf


/- The contract of the fourth reference's FromBytes. -/
namespace Go.Proofs.Ytlciocebbckdcaa.Rf
open Go.RowKit Go.Shelf Go.Proofs.Ytlciocebbckdcaa.Nm Go.Proofs.Ytlciocebbckdcaa.Ne Go.Proofs.Ytlciocebbckdcaa.Nf Go.Proofs.Ytlciocebbckdcaa.Nk Go.Proofs.Ytlciocebbckdcaa.Nv Go.Proofs.Ytlciocebbckdcaa.Nr2 Go.Proofs.Ytlciocebbckdcaa.Kr Go.Proofs.Ytlciocebbckdcaa.Fb Go.Proofs.Ytlciocebbckdcaa.Ff Go.Proofs.Ytlciocebbckdcaa.Mo

set_option linter.unusedSimpArgs false in
set_option maxRecDepth 100000 in
set_option maxHeartbeats 16000000 in
theorem frombytes4_big {pl : Option Addr} {nl cl : Nat} {l : List Nat} {w : World} (hl : Bt w pl nl cl l) (hg : 1000 < nl) :
    Calls Try.prog 66 #[.slice pl nl cl] w (HasE 0 5 w) := by
  have h1 : (1000 : Int) < (nl : Int) := by omega
  have H := Sta.start w
  replace H := H.add (keepB _ _ _ _) hl
  go_enter Try.func66, Try.ntmps66
  go_upto_region 0 with fail
  refine Kr.seqStartW ?_
  refine Kr.seqR (by rfl) (fun K hK => ?_)
  go_simp
  obtain ⟨y1, hy⟩ : ∃ y, w.alloc (.cells #[.slice none 0 0] 24) = y := ⟨_, rfl⟩
  obtain ⟨br, hb⟩ : ∃ b, w.heap.size = b := ⟨_, rfl⟩
  rw [hy, hb]
  replace H := H.alloc hy hb rfl
  clear hy hb
  (refine Kr.outS hK (a' := ?_) ?_ ?_; rotate_left; (focus ((try simp only [Act.put, List.getElem_toArray, List.getElem_cons_zero, List.getElem_cons_succ, List.setIfInBounds_toArray, List.set_cons_zero, List.set_cons_succ]); first | done | rfl))); clear hK K
  (refine Kr.seqQ (v := ?_) (a' := ?_) (by rfl) ?_ ?_ ?_; rotate_left 2; (focus (go_simp; first | done | rfl)); (focus ((try simp only [Act.put, List.getElem_toArray, List.getElem_cons_zero, List.getElem_cons_succ, List.setIfInBounds_toArray, List.set_cons_zero, List.set_cons_succ]); first | done | rfl)))
  refine Kr.seqDoneW ?_
  go_upto_region 1 with fail
  refine Kr.seqStartW ?_
  iterate 3 (refine Kr.seqQ (v := ?_) (a' := ?_) (by rfl) ?_ ?_ ?_; rotate_left 2; (focus (go_simp; first | done | rfl)); (focus ((try simp only [Act.put, List.getElem_toArray, List.getElem_cons_zero, List.getElem_cons_succ, List.setIfInBounds_toArray, List.set_cons_zero, List.set_cons_succ]); first | done | rfl)))
  refine Kr.seqDoneW ?_
  go_upto_region 2 with fail
  refine Kr.seqStartW ?_
  (refine Kr.seqQ (v := ?_) (a' := ?_) (by rfl) ?_ ?_ ?_; rotate_left 2; (focus (go_simp; first | done | rfl)); (focus ((try simp only [Act.put, List.getElem_toArray, List.getElem_cons_zero, List.getElem_cons_succ, List.setIfInBounds_toArray, List.set_cons_zero, List.set_cons_succ]); first | done | rfl)))
  have hk := H.c
  simp only [Kr.Cells] at hk
  refine Kr.seqR (by rfl) (fun K hK => ?_)
  go_simp
  clear hk
  obtain ⟨y2, hy⟩ : ∃ y, y1.setCell ⟨br, 0, none⟩ (.slice none 0 0) = y := ⟨_, rfl⟩
  rw [hy]
  replace H := H.store 0 hy rfl rfl
  dsimp only [List.set] at H
  clear hy
  (refine Kr.outS hK (a' := ?_) ?_ ?_; rotate_left; (focus ((try simp only [Act.put, List.getElem_toArray, List.getElem_cons_zero, List.getElem_cons_succ, List.setIfInBounds_toArray, List.set_cons_zero, List.set_cons_succ]); first | done | rfl))); clear hK K
  (refine Kr.seqQ (v := ?_) (a' := ?_) (by rfl) ?_ ?_ ?_; rotate_left 2; (focus (go_simp; first | done | rfl)); (focus ((try simp only [Act.put, List.getElem_toArray, List.getElem_cons_zero, List.getElem_cons_succ, List.setIfInBounds_toArray, List.set_cons_zero, List.set_cons_succ]); first | done | rfl)))
  refine Kr.seqDoneW ?_
  have hk := H.c
  simp only [Kr.Cells] at hk
  go_wp2
  refine bodyPost_ret (v := .tuple #[.agg #[.slice none 0 0], .int .i64 5]) (by simp [results, Try.results66, go_sem, hk]) rfl ⟨none, 0, 0, rfl, nw_none _, H.g⟩
set_option linter.unusedSimpArgs false in
set_option maxRecDepth 100000 in
set_option maxHeartbeats 16000000 in
theorem frombytes4_v {pl : Option Addr} {nl cl : Nat} {l : List Nat} {w : World} (hl : Bt w pl nl cl l) (hg : nl ≤ 1000) :
    Calls Try.prog 66 #[.slice pl nl cl] w fun e w' => ∃ z k, Fits (dval 256 l) z k ∧ HasE z k w e w' := by
  have h1 : ¬ (1000 : Int) < (nl : Int) := by omega
  have HL := Lib.hid hl; have HEN := Lib.hid hl.len
  clear hl
  have H := Sta.start w
  go_enter Try.func66, Try.ntmps66
  replace H := H.add (keepB _ _ _ _) HL.out
  go_upto_region 0 with fail
  refine Kr.seqStartW ?_
  refine Kr.seqR (by rfl) (fun K hK => ?_)
  go_simp
  obtain ⟨y1, hy⟩ : ∃ y, w.alloc (.cells #[.slice none 0 0] 24) = y := ⟨_, rfl⟩
  obtain ⟨br, hb⟩ : ∃ b, w.heap.size = b := ⟨_, rfl⟩
  rw [hy, hb]
  replace H := H.alloc hy hb rfl
  clear hy hb
  (refine Kr.outS hK (a' := ?_) ?_ ?_; rotate_left; (focus ((try simp only [Act.put, List.getElem_toArray, List.getElem_cons_zero, List.getElem_cons_succ, List.setIfInBounds_toArray, List.set_cons_zero, List.set_cons_succ]); first | done | rfl))); clear hK K
  (refine Kr.seqQ (v := ?_) (a' := ?_) (by rfl) ?_ ?_ ?_; rotate_left 2; (focus (go_simp; first | done | rfl)); (focus ((try simp only [Act.put, List.getElem_toArray, List.getElem_cons_zero, List.getElem_cons_succ, List.setIfInBounds_toArray, List.set_cons_zero, List.set_cons_succ]); first | done | rfl)))
  refine Kr.seqDoneW ?_
  go_upto_region 1 with fail
  refine Kr.seqStartW ?_
  iterate 3 (refine Kr.seqQ (v := ?_) (a' := ?_) (by rfl) ?_ ?_ ?_; rotate_left 2; (focus (go_simp; first | done | rfl)); (focus ((try simp only [Act.put, List.getElem_toArray, List.getElem_cons_zero, List.getElem_cons_succ, List.setIfInBounds_toArray, List.set_cons_zero, List.set_cons_succ]); first | done | rfl)))
  refine Kr.seqDoneW ?_
  go_upto_region 3 with fail
  refine Kr.seqStartW ?_
  (refine Kr.seqQ (v := ?_) (a' := ?_) (by rfl) ?_ ?_ ?_; rotate_left 2; (focus (go_simp; first | done | rfl)); (focus ((try simp only [Act.put, List.getElem_toArray, List.getElem_cons_zero, List.getElem_cons_succ, List.setIfInBounds_toArray, List.set_cons_zero, List.set_cons_succ]); first | done | rfl)))
  refine Kr.seqDoneW ?_
  go_upto_region 4 with fail
  refine Kr.seqStartW ?_
  (refine Kr.seqQ (v := ?_) (a' := ?_) (by rfl) ?_ ?_ ?_; rotate_left 2; (focus (go_simp; first | done | rfl)); (focus ((try simp only [Act.put, List.getElem_toArray, List.getElem_cons_zero, List.getElem_cons_succ, List.setIfInBounds_toArray, List.set_cons_zero, List.set_cons_succ]); first | done | rfl)))
  refine Kr.seqDoneW ?_
  clear h1
  have H2 : Hid (Sta w y1 [(br, 0, .slice none 0 0)] [N none 0 0 (dval 256 (l.take 0)), B pl nl cl l]) := Lib.hid (H.num (nw_none _))
  go_wp2
  go_loopw [4, 5] (fun v i wr => ∃ (k : Nat) (pz : Option Addr) (nz cz : Nat), k ≤ nl ∧ v = .slice pz nz cz ∧ i = .int .i64 (k : Int) ∧ Hid (Sta w wr [(br, 0, .slice none 0 0)] [N pz nz cz (dval 256 (l.take k)), B pl nl cl l])) (fun _ i _ => nl - (intOf i).toNat)
  case atStart => exact ⟨0, none, 0, 0, Nat.zero_le _, rfl, rfl, H2⟩
  case round =>
    clear H H2
    obtain ⟨k, pz, nz, cz, hk, rfl, rfl, HH⟩ := hrel
    have H := HH.out
    clear HH
    have HPW : Hid (dval 256 (l.take k) < pw k) := Lib.hid (by have h := dval_pw (g := 256) (l := l.take k) (Nat.le_refl _) (fun d hd => HL.out.ok d (List.mem_of_mem_take hd)); rwa [List.length_take, HEN.out, Nat.min_eq_left hk] at h)
    by_cases hlt : k < nl
    · obtain ⟨b0, off, ep, hc⟩ := (H.fact 1 rfl : B pl nl cl l wr).at hlt
      obtain ⟨d, hd⟩ : ∃ d, l[k]?.getD 0 = d := ⟨_, rfl⟩
      rw [hd] at hc
      have HDL : Hid (d < 256) := Lib.hid (by rw [← hd, List.getElem?_eq_getElem (by rw [HEN.out]; exact hlt)]; exact HL.out.ok _ (List.getElem_mem _))
      have HS : Hid (dval 256 (l.take (k + 1)) = dval 256 (l.take k) * 256 + d) := Lib.hid (by rw [← hd]; exact dval_take 256 l (by rw [HEN.out]; exact hlt))
      clear hd
      have k0 : (0 : Int) ≤ (k : Int) := by omega
      have k1 : (k : Int) < (nl : Int) := by omega
      have kt : ((k : Int)).toNat = k := by omega
      have kw : IntKind.i64.wrap ((k : Int) + 1) = (k : Int) + 1 := IntWalk.i64_in _ (by omega)
      subst ep
      go_upto_region 5 with fail
      refine Kr.seqStartW ?_
      iterate 4 (refine Kr.seqQ (v := ?_) (a' := ?_) (by rfl) ?_ ?_ ?_; rotate_left 2; (focus (go_simp; first | done | rfl)); (focus ((try simp only [Act.put, List.getElem_toArray, List.getElem_cons_zero, List.getElem_cons_succ, List.setIfInBounds_toArray, List.set_cons_zero, List.set_cons_succ]); first | done | rfl)))
      refine Kr.seqDoneW ?_
      go_upto_region 7 with fail
      refine Kr.seqStartW ?_
      iterate 4 (refine Kr.seqQ (v := ?_) (a' := ?_) (by rfl) ?_ ?_ ?_; rotate_left 2; (focus (go_simp; first | done | rfl)); (focus ((try simp only [Act.put, List.getElem_toArray, List.getElem_cons_zero, List.getElem_cons_succ, List.setIfInBounds_toArray, List.set_cons_zero, List.set_cons_succ]); first | done | rfl)))
      have hk := H.c
      simp only [Kr.Cells] at hk
      (refine Kr.seqQ (v := ?_) (a' := ?_) (by rfl) ?_ ?_ ?_; rotate_left 2; (focus (go_simp; first | done | rfl)); (focus ((try simp only [Act.put, List.getElem_toArray, List.getElem_cons_zero, List.getElem_cons_succ, List.setIfInBounds_toArray, List.set_cons_zero, List.set_cons_succ]); first | done | rfl)))
      (refine Kr.seqQ (v := .int .u64 (d : Int)) (a' := ?_) (by rfl) ?_ ?_ ?_; rotate_left 1; (focus (exact val_of rfl (run_8_64 HDL.out))); (focus ((try simp only [Act.put, List.getElem_toArray, List.getElem_cons_zero, List.getElem_cons_succ, List.setIfInBounds_toArray, List.set_cons_zero, List.set_cons_succ]); first | done | rfl)))
      refine Kr.seqR (by rfl) (fun K hK => ?_)
      go_simp
      go_at_call 106
      have hb9 : nz ≤ 1000000 := by have h := (H.nw 0 rfl).len; have h2 := (digs_length_le _ k).2 HPW.out; omega
      refine (times4_v (d := 256) (plus := d) (H.nw 0 rfl) hb9 ⟨by decide, by decide, by have h := HDL.out; omega⟩).mono ?_
      rintro e y2 ⟨pq, nq, cq, rfl, hr, hg⟩
      clear hb9
      clear hk
      replace H := H.grow hg
      replace H := H.num hr
      clear hr hg
      (refine Kr.outS hK (a' := ?_) ?_ ?_; rotate_left; (focus ((try simp only [Act.put, List.getElem_toArray, List.getElem_cons_zero, List.getElem_cons_succ, List.setIfInBounds_toArray, List.set_cons_zero, List.set_cons_succ]); first | done | rfl))); clear hK K
      (refine Kr.seqQ (v := ?_) (a' := ?_) (by rfl) ?_ ?_ ?_; rotate_left 2; (focus (go_simp; first | done | rfl)); (focus ((try simp only [Act.put, List.getElem_toArray, List.getElem_cons_zero, List.getElem_cons_succ, List.setIfInBounds_toArray, List.set_cons_zero, List.set_cons_succ]); first | done | rfl)))
      refine Kr.seqDoneW ?_
      clear hc
      go_upto_region 6 with fail
      refine Kr.seqStartW ?_
      iterate 3 (refine Kr.seqQ (v := ?_) (a' := ?_) (by rfl) ?_ ?_ ?_; rotate_left 2; (focus (go_simp; first | done | rfl)); (focus ((try simp only [Act.put, List.getElem_toArray, List.getElem_cons_zero, List.getElem_cons_succ, List.setIfInBounds_toArray, List.set_cons_zero, List.set_cons_succ]); first | done | rfl)))
      refine Kr.seqDoneW ?_
      go_wp2
      go_roundw
      case rel => exact ⟨k + 1, _, _, _, by omega, rfl, rfl, Lib.hid (by rw [HS.out]; exact H.pick [0, 2] rfl)⟩
      case measure => (simp [intOf] <;> omega)
    · obtain rfl : k = nl := by omega
      clear hk
      have HLK : Hid (l.take k = l) := Lib.hid (List.take_of_length_le (by rw [HEN.out]; exact Nat.le_refl _))
      rw [HLK.out] at HPW H
      go_upto_region 5 with fail
      refine Kr.seqStartW ?_
      iterate 4 (refine Kr.seqQ (v := ?_) (a' := ?_) (by rfl) ?_ ?_ ?_; rotate_left 2; (focus (go_simp; first | done | rfl)); (focus ((try simp only [Act.put, List.getElem_toArray, List.getElem_cons_zero, List.getElem_cons_succ, List.setIfInBounds_toArray, List.set_cons_zero, List.set_cons_succ]); first | done | rfl)))
      refine Kr.seqDoneW ?_
      have HFT : Hid (nz ≤ 64 ↔ dval 256 l < pw 64) := Lib.hid (by rw [← (H.nw 0 rfl).len]; exact digs_length_le _ 64)
      by_cases hn : nz ≤ 64
      · have HN := Lib.hid hn
        have hn2 : ¬ (64 : Int) < (nz : Int) := by omega
        clear hn
        go_upto_region 8 with fail
        refine Kr.seqStartW ?_
        iterate 3 (refine Kr.seqQ (v := ?_) (a' := ?_) (by rfl) ?_ ?_ ?_; rotate_left 2; (focus (go_simp; first | done | rfl)); (focus ((try simp only [Act.put, List.getElem_toArray, List.getElem_cons_zero, List.getElem_cons_succ, List.setIfInBounds_toArray, List.set_cons_zero, List.set_cons_succ]); first | done | rfl)))
        refine Kr.seqDoneW ?_
        clear hn2
        go_upto_region 10 with fail
        refine Kr.seqStartW ?_
        iterate 2 (refine Kr.seqQ (v := ?_) (a' := ?_) (by rfl) ?_ ?_ ?_; rotate_left 2; (focus (go_simp; first | done | rfl)); (focus ((try simp only [Act.put, List.getElem_toArray, List.getElem_cons_zero, List.getElem_cons_succ, List.setIfInBounds_toArray, List.set_cons_zero, List.set_cons_succ]); first | done | rfl)))
        have hk := H.c
        simp only [Kr.Cells] at hk
        refine Kr.seqR (by rfl) (fun K hK => ?_)
        go_simp
        clear hk
        obtain ⟨y3, hy⟩ : ∃ y, wr.setCell ⟨br, 0, none⟩ (.slice pz nz cz) = y := ⟨_, rfl⟩
        rw [hy]
        replace H := H.store 0 hy rfl rfl
        dsimp only [List.set] at H
        clear hy
        (refine Kr.outS hK (a' := ?_) ?_ ?_; rotate_left; (focus ((try simp only [Act.put, List.getElem_toArray, List.getElem_cons_zero, List.getElem_cons_succ, List.setIfInBounds_toArray, List.set_cons_zero, List.set_cons_succ]); first | done | rfl))); clear hK K
        (refine Kr.seqQ (v := ?_) (a' := ?_) (by rfl) ?_ ?_ ?_; rotate_left 2; (focus (go_simp; first | done | rfl)); (focus ((try simp only [Act.put, List.getElem_toArray, List.getElem_cons_zero, List.getElem_cons_succ, List.setIfInBounds_toArray, List.set_cons_zero, List.set_cons_succ]); first | done | rfl)))
        refine Kr.seqDoneW ?_
        have hk := H.c
        simp only [Kr.Cells] at hk
        go_wp2
        refine bodyPost_ret (v := .tuple #[.agg #[.slice pz nz cz], .int .i64 0]) (by simp [results, Try.results66, go_sem, hk]) rfl ⟨dval 256 l, 0, .inl ⟨HFT.out.1 HN.out, rfl, rfl⟩, pz, nz, cz, rfl, H.nw 0 rfl, H.g⟩
      · have HN := Lib.hid hn
        have hn2 : (64 : Int) < (nz : Int) := by omega
        clear hn
        go_upto_region 8 with fail
        refine Kr.seqStartW ?_
        iterate 3 (refine Kr.seqQ (v := ?_) (a' := ?_) (by rfl) ?_ ?_ ?_; rotate_left 2; (focus (go_simp; first | done | rfl)); (focus ((try simp only [Act.put, List.getElem_toArray, List.getElem_cons_zero, List.getElem_cons_succ, List.setIfInBounds_toArray, List.set_cons_zero, List.set_cons_succ]); first | done | rfl)))
        refine Kr.seqDoneW ?_
        clear hn2
        go_upto_region 9 with fail
        refine Kr.seqStartW ?_
        (refine Kr.seqQ (v := ?_) (a' := ?_) (by rfl) ?_ ?_ ?_; rotate_left 2; (focus (go_simp; first | done | rfl)); (focus ((try simp only [Act.put, List.getElem_toArray, List.getElem_cons_zero, List.getElem_cons_succ, List.setIfInBounds_toArray, List.set_cons_zero, List.set_cons_succ]); first | done | rfl)))
        have hk := H.c
        simp only [Kr.Cells] at hk
        refine Kr.seqR (by rfl) (fun K hK => ?_)
        go_simp
        clear hk
        obtain ⟨y4, hy⟩ : ∃ y, wr.setCell ⟨br, 0, none⟩ (.slice none 0 0) = y := ⟨_, rfl⟩
        rw [hy]
        replace H := H.store 0 hy rfl rfl
        dsimp only [List.set] at H
        clear hy
        (refine Kr.outS hK (a' := ?_) ?_ ?_; rotate_left; (focus ((try simp only [Act.put, List.getElem_toArray, List.getElem_cons_zero, List.getElem_cons_succ, List.setIfInBounds_toArray, List.set_cons_zero, List.set_cons_succ]); first | done | rfl))); clear hK K
        (refine Kr.seqQ (v := ?_) (a' := ?_) (by rfl) ?_ ?_ ?_; rotate_left 2; (focus (go_simp; first | done | rfl)); (focus ((try simp only [Act.put, List.getElem_toArray, List.getElem_cons_zero, List.getElem_cons_succ, List.setIfInBounds_toArray, List.set_cons_zero, List.set_cons_succ]); first | done | rfl)))
        refine Kr.seqDoneW ?_
        have hk := H.c
        simp only [Kr.Cells] at hk
        go_wp2
        refine bodyPost_ret (v := .tuple #[.agg #[.slice none 0 0], .int .i64 9]) (by simp [results, Try.results66, go_sem, hk]) rfl ⟨0, 9, .inr ⟨Nat.le_of_not_lt (fun h => HN.out (HFT.out.2 h)), rfl, rfl⟩, none, 0, 0, rfl, nw_none _, H.g⟩
end Go.Proofs.Ytlciocebbckdcaa.Rf
