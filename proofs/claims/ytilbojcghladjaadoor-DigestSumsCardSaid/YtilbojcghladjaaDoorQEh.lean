/- DigestSums. -/
import Derived.Test.YtilbojcghladjaaDoorQEg
import Derived.Deep.Cut
namespace Go.Proofs.YtilbojcghladjaaDoor.Dg
open Go Go.RowKit Go.Proofs.YtilbojcghladjaaDoor.Ne Go.Proofs.YtilbojcghladjaaDoor.Kr

set_option linter.unusedSimpArgs false in
set_option maxRecDepth 100000 in
set_option maxHeartbeats 16000000 in
theorem sums_ok {p : Option Addr} {n c : Nat} {l : List (BitVec 8)} {w : World} (hS : SrcB p l w) (hl : l.length = n) (hc : n ≤ c) (hp : p = none → c = 0) (hn : n ≤ 1000) (hC : Con w) (hT : Sta0 w) :
    Calls Tryd.prog 3 #[.slice p n c] w fun e w' => e = .returned (.bool true) ∧ Gr w w' := by
  have HCN := Lib.hid hC; have HT0 := Lib.hid hT; clear hC hT
  have H := Ow.start w
  go_enter Tryd.func3, Tryd.ntmps3
  go_upto_region 0 with fail
  refine Kr.seqStartW ?_
  (refine Kr.seqQ (v := ?_) (a' := ?_) (by rfl) ?_ ?_ ?_; rotate_left 2; (focus (go_simp; first | done | rfl)); (focus ((try simp only [Kr.PT]); first | done | rfl)))
  refine Kr.seqDoneW ?_
  go_upto_region 1 with fail
  refine Kr.seqStartW ?_
  refine Kr.seqR (by rfl) (fun K hK => ?_)
  go_simp
  go_at_call 11
  refine (awake_v (HCN.out.grow H.g) (HT0.out.grow H.g)).mono ?_
  rintro e y1 ⟨rfl, hg⟩
  replace H := H.grow hg
  clear hg
  (refine Kr.outS hK (a' := ?_) ?_ ?_; rotate_left; (focus ((try simp only [Kr.PT]); first | done | rfl))); clear hK K
  (refine Kr.seqQ (v := ?_) (a' := ?_) (by rfl) ?_ ?_ ?_; rotate_left 2; (focus (go_simp; first | done | rfl)); (focus ((try simp only [Kr.PT]); first | done | rfl)))
  refine Kr.seqDoneW ?_
  have HS := Lib.hid hS; clear hS
  obtain ⟨A, hA⟩ : ∃ z, sha l = z := ⟨_, rfl⟩
  have hAl : A.length = 32 := by rw [← hA]; exact sha_length _
  have HC : decide ((1000 : Int) < (n : Int)) = false := decide_eq_false (by omega)
  go_upto_region 3 with fail
  refine Kr.seqStartW ?_
  (refine Kr.seqQ (v := ?_) (a' := ?_) (by rfl) ?_ ?_ ?_; rotate_left 2; (focus (go_simp; first | done | rfl)); (focus ((try simp only [Kr.PT]); first | done | rfl)))
  (refine Kr.seqQ (v := .int .i64 (n : Int)) (a' := ?_) (by rfl) ?_ ?_ ?_; rotate_left 1; (focus (exact Kr.valOf rfl ((by go_simp)))); (focus ((try simp only [Kr.PT]); first | done | rfl)))
  (refine Kr.seqQ (v := .bool false) (a' := ?_) (by rfl) ?_ ?_ ?_; rotate_left 1; (focus (exact Kr.valOf rfl (gtrI HC))); (focus ((try simp only [Kr.PT]); first | done | rfl)))
  (refine Kr.seqQ (v := ?_) (a' := ?_) (by rfl) ?_ ?_ ?_; rotate_left 2; (focus (go_simp; first | done | rfl)); (focus ((try simp only [Kr.PT]); first | done | rfl)))
  (refine Kr.seqQ (v := ?_) (a' := ?_) (by rfl) ?_ ?_ ?_; rotate_left 2; (focus (go_simp; first | done | rfl)); (focus ((try simp only [Kr.PT]); first | done | rfl)))
  refine Kr.seqR (by rfl) (fun K hK => ?_)
  go_simp
  go_at_call 12
  have hP := Sum_v (HS.out.grow H.g) hl hc (by omega) (HCN.out.grow H.g) (HT0.out.grow H.g); rw [hA] at hP
  refine (hP).mono ?_
  rintro e y2 ⟨rfl, hg⟩
  replace H := H.grow hg
  clear hg
  clear hP
  (refine Kr.outS hK (a' := ?_) ?_ ?_; rotate_left; (focus ((try simp only [Kr.PT]); first | done | rfl))); clear hK K
  (refine Kr.seqQ (v := ?_) (a' := ?_) (by rfl) ?_ ?_ ?_; rotate_left 2; (focus (go_simp; first | done | rfl)); (focus ((try simp only [Kr.PT]); first | done | rfl)))
  refine Kr.seqR (by rfl) (fun K hK => ?_)
  go_simp
  go_at_call 13
  have hP := rSum_v (c := c) (HS.out.grow H.g) hl hp (by omega); rw [hA] at hP
  refine (hP).mono ?_
  rintro e y3 ⟨rfl, hg⟩
  replace H := H.grow hg
  clear hg
  clear hP
  (refine Kr.outS hK (a' := ?_) ?_ ?_; rotate_left; (focus ((try simp only [Kr.PT]); first | done | rfl))); clear hK K
  (refine Kr.seqQ (v := .bool true) (a' := ?_) (by rfl) ?_ ?_ ?_; rotate_left 1; (focus (exact Kr.valOf rfl (eqH hAl hAl (decide_eq_true rfl)))); (focus ((try simp only [Kr.PT]); first | done | rfl)))
  (refine Kr.seqQ (v := ?_) (a' := ?_) (by rfl) ?_ ?_ ?_; rotate_left 2; (focus (go_simp; first | done | rfl)); (focus ((try simp only [Kr.PT]); first | done | rfl)))
  (refine Kr.seqQ (v := ?_) (a' := ?_) (by rfl) ?_ ?_ ?_; rotate_left 2; (focus (go_simp; first | done | rfl)); (focus ((try simp only [Kr.PT]); first | done | rfl)))
  refine Kr.seqDoneW ?_
  have hk := trivial
  go_wp2
  refine bodyPost_ret (v := .bool true) (by simp [results, Tryd.results3, go_sem, hk]) rfl ⟨rfl, H.g⟩
set_option linter.unusedSimpArgs false in
set_option maxRecDepth 100000 in
set_option maxHeartbeats 16000000 in
theorem sums_big {p : Option Addr} {n c : Nat}  {w : World} (hn : 1000 < n) (hC : Con w) (hT : Sta0 w) :
    Calls Tryd.prog 3 #[.slice p n c] w fun e w' => e = .returned (.bool true) ∧ Gr w w' := by
  have HCN := Lib.hid hC; have HT0 := Lib.hid hT; clear hC hT
  have H := Ow.start w
  go_enter Tryd.func3, Tryd.ntmps3
  go_upto_region 0 with fail
  refine Kr.seqStartW ?_
  (refine Kr.seqQ (v := ?_) (a' := ?_) (by rfl) ?_ ?_ ?_; rotate_left 2; (focus (go_simp; first | done | rfl)); (focus ((try simp only [Kr.PT]); first | done | rfl)))
  refine Kr.seqDoneW ?_
  go_upto_region 1 with fail
  refine Kr.seqStartW ?_
  refine Kr.seqR (by rfl) (fun K hK => ?_)
  go_simp
  go_at_call 11
  refine (awake_v (HCN.out.grow H.g) (HT0.out.grow H.g)).mono ?_
  rintro e y1 ⟨rfl, hg⟩
  replace H := H.grow hg
  clear hg
  (refine Kr.outS hK (a' := ?_) ?_ ?_; rotate_left; (focus ((try simp only [Kr.PT]); first | done | rfl))); clear hK K
  (refine Kr.seqQ (v := ?_) (a' := ?_) (by rfl) ?_ ?_ ?_; rotate_left 2; (focus (go_simp; first | done | rfl)); (focus ((try simp only [Kr.PT]); first | done | rfl)))
  refine Kr.seqDoneW ?_
  have HC : decide ((1000 : Int) < (n : Int)) = true := decide_eq_true (by omega)
  go_upto_region 3 with fail
  refine Kr.seqStartW ?_
  (refine Kr.seqQ (v := ?_) (a' := ?_) (by rfl) ?_ ?_ ?_; rotate_left 2; (focus (go_simp; first | done | rfl)); (focus ((try simp only [Kr.PT]); first | done | rfl)))
  (refine Kr.seqQ (v := .int .i64 (n : Int)) (a' := ?_) (by rfl) ?_ ?_ ?_; rotate_left 1; (focus (exact Kr.valOf rfl ((by go_simp)))); (focus ((try simp only [Kr.PT]); first | done | rfl)))
  (refine Kr.seqQ (v := .bool true) (a' := ?_) (by rfl) ?_ ?_ ?_; rotate_left 1; (focus (exact Kr.valOf rfl (gtrI HC))); (focus ((try simp only [Kr.PT]); first | done | rfl)))
  (refine Kr.seqQ (v := ?_) (a' := ?_) (by rfl) ?_ ?_ ?_; rotate_left 2; (focus (go_simp; first | done | rfl)); (focus ((try simp only [Kr.PT]); first | done | rfl)))
  (refine Kr.seqSkipQ (a' := ?_) (by rfl) ?_ ?_; rotate_left; (focus ((try simp only [Kr.PT]); first | done | rfl)))
  (refine Kr.seqSkipQ (a' := ?_) (by rfl) ?_ ?_; rotate_left; (focus ((try simp only [Kr.PT]); first | done | rfl)))
  (refine Kr.seqSkipQ (a' := ?_) (by rfl) ?_ ?_; rotate_left; (focus ((try simp only [Kr.PT]); first | done | rfl)))
  (refine Kr.seqSkipQ (a' := ?_) (by rfl) ?_ ?_; rotate_left; (focus ((try simp only [Kr.PT]); first | done | rfl)))
  (refine Kr.seqSkipQ (a' := ?_) (by rfl) ?_ ?_; rotate_left; (focus ((try simp only [Kr.PT]); first | done | rfl)))
  (refine Kr.seqQ (v := ?_) (a' := ?_) (by rfl) ?_ ?_ ?_; rotate_left 2; (focus (go_simp; first | done | rfl)); (focus ((try simp only [Kr.PT]); first | done | rfl)))
  (refine Kr.seqQ (v := ?_) (a' := ?_) (by rfl) ?_ ?_ ?_; rotate_left 2; (focus (go_simp; first | done | rfl)); (focus ((try simp only [Kr.PT]); first | done | rfl)))
  refine Kr.seqDoneW ?_
  have hk := trivial
  go_wp2
  refine bodyPost_ret (v := .bool true) (by simp [results, Tryd.results3, go_sem, hk]) rfl ⟨rfl, H.g⟩
end Go.Proofs.YtilbojcghladjaaDoor.Dg
