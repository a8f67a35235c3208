/- The walk of NatmodRemainders. -/
import Derived.Test.YtlciocebbckdcaaQMy
import Derived.Test.YtlciocebbckdcaaQKr2
import Derived.Deep.Cut
namespace Go.Proofs.Ytlciocebbckdcaa.Ml
open Go.RowKit Go.Shelf Go.Proofs.Ytlciocebbckdcaa.Nm Go.Proofs.Ytlciocebbckdcaa.Ne Go.Proofs.Ytlciocebbckdcaa.Nf Go.Proofs.Ytlciocebbckdcaa.Nk Go.Proofs.Ytlciocebbckdcaa.Nv Go.Proofs.Ytlciocebbckdcaa.Nr2 Go.Proofs.Ytlciocebbckdcaa.Mo Go.Proofs.Ytlciocebbckdcaa.Mr Go.Proofs.Ytlciocebbckdcaa.Kr Go.Proofs.Ytlciocebbckdcaa.Nl

set_option linter.unusedSimpArgs false in
set_option maxRecDepth 100000 in
set_option maxHeartbeats 16000000 in
theorem rem_g {pn : Option Addr} {nn cn : Nat} {pp : Option Addr} {np cp : Nat} {pq : Option Addr} {nq cq : Nat} {w : World} (hg : ∃ x ∈ [(pn, nn, cn), (pp, np, cp), (pq, nq, cq)], 14 < x.2.1) :
    Calls Try.prog 10 #[.agg #[.slice pn nn cn], .agg #[.slice pp np cp], .agg #[.slice pq nq cq]] w fun e w' => e = .returned (.bool true) ∧ Gr w w' := by
  have HG := Lib.hid hg
  clear hg
  have H := Sta.start w
  go_enter Try.func10, Try.ntmps10
  go_upto_region 0 with fail
  refine Kr.seqStartW ?_
  refine Kr.seqR (by rfl) (fun K hK => ?_)
  go_simp
  obtain ⟨y1, hy⟩ : ∃ y, w.alloc (.cells #[.slice pn nn cn] 24) = y := ⟨_, rfl⟩
  obtain ⟨bn, hb⟩ : ∃ b, w.heap.size = b := ⟨_, rfl⟩
  rw [hy, hb]
  replace H := H.alloc hy hb rfl
  clear hy hb
  (refine Kr.outS hK (a' := ?_) ?_ ?_; rotate_left; (focus ((try simp only [Act.put, List.setIfInBounds_toArray, List.set_cons_zero, List.set_cons_succ]); first | done | rfl))); clear hK K
  refine Kr.seqR (by rfl) (fun K hK => ?_)
  go_simp
  obtain ⟨y2, hy⟩ : ∃ y, y1.alloc (.cells #[.slice pp np cp] 24) = y := ⟨_, rfl⟩
  obtain ⟨bp, hb⟩ : ∃ b, y1.heap.size = b := ⟨_, rfl⟩
  rw [hy, hb]
  replace H := H.alloc hy hb rfl
  clear hy hb
  (refine Kr.outS hK (a' := ?_) ?_ ?_; rotate_left; (focus ((try simp only [Act.put, List.setIfInBounds_toArray, List.set_cons_zero, List.set_cons_succ]); first | done | rfl))); clear hK K
  refine Kr.seqR (by rfl) (fun K hK => ?_)
  go_simp
  obtain ⟨y3, hy⟩ : ∃ y, y2.alloc (.cells #[.slice pq nq cq] 24) = y := ⟨_, rfl⟩
  obtain ⟨bq, hb⟩ : ∃ b, y2.heap.size = b := ⟨_, rfl⟩
  rw [hy, hb]
  replace H := H.alloc hy hb rfl
  clear hy hb
  (refine Kr.outS hK (a' := ?_) ?_ ?_; rotate_left; (focus ((try simp only [Act.put, List.setIfInBounds_toArray, List.set_cons_zero, List.set_cons_succ]); first | done | rfl))); clear hK K
  (refine Kr.seqQ (v := ?_) (a' := ?_) (by rfl) ?_ ?_ ?_; rotate_left 2; (focus (go_simp; first | done | rfl)); (focus ((try simp only [Act.put, List.setIfInBounds_toArray, List.set_cons_zero, List.set_cons_succ]); first | done | rfl)))
  refine Kr.seqDoneW ?_
  go_upto_region 1 with fail
  refine Kr.seqStartW ?_
  refine Kr.seqR (by rfl) (fun K hK => ?_)
  go_simp
  go_at_call 18
  refine (awake3 _).mono ?_
  rintro e y4 ⟨rfl, hg⟩
  replace H := H.grow hg
  clear hg
  (refine Kr.outS hK (a' := ?_) ?_ ?_; rotate_left; (focus ((try simp only [Act.put, List.setIfInBounds_toArray, List.set_cons_zero, List.set_cons_succ]); first | done | rfl))); clear hK K
  iterate 2 (refine Kr.seqQ (v := ?_) (a' := ?_) (by rfl) ?_ ?_ ?_; rotate_left 2; (focus (go_simp; first | done | rfl)); (focus ((try simp only [Act.put, List.setIfInBounds_toArray, List.set_cons_zero, List.set_cons_succ]); first | done | rfl)))
  have hk := H.c
  simp only [Kr.Cells] at hk
  iterate 3 (refine Kr.seqQ (v := ?_) (a' := ?_) (by rfl) ?_ ?_ ?_; rotate_left 2; (focus (go_simp; first | done | rfl)); (focus ((try simp only [Act.put, List.setIfInBounds_toArray, List.set_cons_zero, List.set_cons_succ]); first | done | rfl)))
  refine Kr.seqR (by rfl) (fun K hK => ?_)
  go_simp
  clear hk
  obtain ⟨y5, hy⟩ : ∃ y, y4.alloc (.cells #[.slice pn nn cn, .slice pp np cp, .slice pq nq cq] 24) = y := ⟨_, rfl⟩
  obtain ⟨by5, hb⟩ : ∃ b, y4.heap.size = b := ⟨_, rfl⟩
  rw [hy, hb]
  have HN : Nats y5 by5 0 [(pn, nn, cn), (pp, np, cp), (pq, nq, cq)] := nats_mk hy hb
  have hg : Gr y4 y5 := hy ▸ (Gr.refl _).alloc _
  replace H := H.grow hg
  clear hg hy hb
  (refine Kr.outS hK (a' := ?_) ?_ ?_; rotate_left; (focus ((try simp only [Act.put, List.setIfInBounds_toArray, List.set_cons_zero, List.set_cons_succ]); first | done | rfl))); clear hK K
  refine Kr.seqR (by rfl) (fun K hK => ?_)
  go_simp
  go_at_call 19
  refine (few_no HN (by simp) HG.out).mono ?_
  rintro e y6 ⟨rfl, hg⟩
  replace H := H.grow hg
  clear hg
  clear HN
  (refine Kr.outS hK (a' := ?_) ?_ ?_; rotate_left; (focus ((try simp only [Act.put, List.setIfInBounds_toArray, List.set_cons_zero, List.set_cons_succ]); first | done | rfl))); clear hK K
  iterate 3 (refine Kr.seqQ (v := ?_) (a' := ?_) (by rfl) ?_ ?_ ?_; rotate_left 2; (focus (go_simp; first | done | rfl)); (focus ((try simp only [Act.put, List.setIfInBounds_toArray, List.set_cons_zero, List.set_cons_succ]); first | done | rfl)))
  (refine Kr.seqSkipQ (a' := ?_) (by rfl) ?_ ?_; rotate_left; (focus ((try simp only [Act.put, List.setIfInBounds_toArray, List.set_cons_zero, List.set_cons_succ]); first | done | rfl)))
  (refine Kr.seqSkipQ (a' := ?_) (by rfl) ?_ ?_; rotate_left; (focus ((try simp only [Act.put, List.setIfInBounds_toArray, List.set_cons_zero, List.set_cons_succ]); first | done | rfl)))
  (refine Kr.seqSkipQ (a' := ?_) (by rfl) ?_ ?_; rotate_left; (focus ((try simp only [Act.put, List.setIfInBounds_toArray, List.set_cons_zero, List.set_cons_succ]); first | done | rfl)))
  iterate 2 (refine Kr.seqQ (v := ?_) (a' := ?_) (by rfl) ?_ ?_ ?_; rotate_left 2; (focus (go_simp; first | done | rfl)); (focus ((try simp only [Act.put, List.setIfInBounds_toArray, List.set_cons_zero, List.set_cons_succ]); first | done | rfl)))
  (refine Kr.seqSkipQ (a' := ?_) (by rfl) ?_ ?_; rotate_left; (focus ((try simp only [Act.put, List.setIfInBounds_toArray, List.set_cons_zero, List.set_cons_succ]); first | done | rfl)))
  (refine Kr.seqSkipQ (a' := ?_) (by rfl) ?_ ?_; rotate_left; (focus ((try simp only [Act.put, List.setIfInBounds_toArray, List.set_cons_zero, List.set_cons_succ]); first | done | rfl)))
  (refine Kr.seqSkipQ (a' := ?_) (by rfl) ?_ ?_; rotate_left; (focus ((try simp only [Act.put, List.setIfInBounds_toArray, List.set_cons_zero, List.set_cons_succ]); first | done | rfl)))
  iterate 2 (refine Kr.seqQ (v := ?_) (a' := ?_) (by rfl) ?_ ?_ ?_; rotate_left 2; (focus (go_simp; first | done | rfl)); (focus ((try simp only [Act.put, List.setIfInBounds_toArray, List.set_cons_zero, List.set_cons_succ]); first | done | rfl)))
  (refine Kr.seqSkipQ (a' := ?_) (by rfl) ?_ ?_; rotate_left; (focus ((try simp only [Act.put, List.setIfInBounds_toArray, List.set_cons_zero, List.set_cons_succ]); first | done | rfl)))
  (refine Kr.seqSkipQ (a' := ?_) (by rfl) ?_ ?_; rotate_left; (focus ((try simp only [Act.put, List.setIfInBounds_toArray, List.set_cons_zero, List.set_cons_succ]); first | done | rfl)))
  (refine Kr.seqSkipQ (a' := ?_) (by rfl) ?_ ?_; rotate_left; (focus ((try simp only [Act.put, List.setIfInBounds_toArray, List.set_cons_zero, List.set_cons_succ]); first | done | rfl)))
  (refine Kr.seqQ (v := ?_) (a' := ?_) (by rfl) ?_ ?_ ?_; rotate_left 2; (focus (go_simp; first | done | rfl)); (focus ((try simp only [Act.put, List.setIfInBounds_toArray, List.set_cons_zero, List.set_cons_succ]); first | done | rfl)))
  refine Kr.seqDoneW ?_
  go_upto_region 2 with fail
  refine Kr.seqStartW ?_
  refine Kr.seqR (by rfl) (fun K hK => ?_)
  go_simp
  go_at_call 18
  refine (awake3 _).mono ?_
  rintro e y7 ⟨rfl, hg⟩
  replace H := H.grow hg
  clear hg
  (refine Kr.outS hK (a' := ?_) ?_ ?_; rotate_left; (focus ((try simp only [Act.put, List.setIfInBounds_toArray, List.set_cons_zero, List.set_cons_succ]); first | done | rfl))); clear hK K
  (refine Kr.seqQ (v := ?_) (a' := ?_) (by rfl) ?_ ?_ ?_; rotate_left 2; (focus (go_simp; first | done | rfl)); (focus ((try simp only [Act.put, List.setIfInBounds_toArray, List.set_cons_zero, List.set_cons_succ]); first | done | rfl)))
  refine Kr.seqDoneW ?_
  go_wp2
  go_ret
  exact ⟨rfl, H.g⟩
set_option linter.unusedSimpArgs false in
set_option maxRecDepth 100000 in
set_option maxHeartbeats 16000000 in
theorem rem_bad_n {pn : Option Addr} {nn cn : Nat} {pp : Option Addr} {np cp : Nat} {pq : Option Addr} {nq cq : Nat} {ln lp lq : List Nat} {w : World} (hs : ∀ x ∈ [(pn, nn, cn), (pp, np, cp), (pq, nq, cq)], x.2.1 ≤ 14) (hn : Nw w pn nn cn ln) (hp : Nw w pp np cp lp) (hq : Nw w pq nq cq lq) (tn : decide (valid ln) = false) :
    Calls Try.prog 10 #[.agg #[.slice pn nn cn], .agg #[.slice pp np cp], .agg #[.slice pq nq cq]] w fun e w' => e = .returned (.bool true) ∧ Gr w w' := by
  have HS := Lib.hid hs
  clear hs
  have Tn := Lib.hid tn
  clear tn
  have H := Sta.start w
  replace H := H.add (keepWs _ _ _ _) hn
  replace H := H.add (keepWs _ _ _ _) hp
  replace H := H.add (keepWs _ _ _ _) hq
  go_enter Try.func10, Try.ntmps10
  go_upto_region 0 with fail
  refine Kr.seqStartW ?_
  refine Kr.seqR (by rfl) (fun K hK => ?_)
  go_simp
  obtain ⟨y1, hy⟩ : ∃ y, w.alloc (.cells #[.slice pn nn cn] 24) = y := ⟨_, rfl⟩
  obtain ⟨bn, hb⟩ : ∃ b, w.heap.size = b := ⟨_, rfl⟩
  rw [hy, hb]
  replace H := H.alloc hy hb rfl
  clear hy hb
  (refine Kr.outS hK (a' := ?_) ?_ ?_; rotate_left; (focus ((try simp only [Act.put, List.setIfInBounds_toArray, List.set_cons_zero, List.set_cons_succ]); first | done | rfl))); clear hK K
  refine Kr.seqR (by rfl) (fun K hK => ?_)
  go_simp
  obtain ⟨y2, hy⟩ : ∃ y, y1.alloc (.cells #[.slice pp np cp] 24) = y := ⟨_, rfl⟩
  obtain ⟨bp, hb⟩ : ∃ b, y1.heap.size = b := ⟨_, rfl⟩
  rw [hy, hb]
  replace H := H.alloc hy hb rfl
  clear hy hb
  (refine Kr.outS hK (a' := ?_) ?_ ?_; rotate_left; (focus ((try simp only [Act.put, List.setIfInBounds_toArray, List.set_cons_zero, List.set_cons_succ]); first | done | rfl))); clear hK K
  refine Kr.seqR (by rfl) (fun K hK => ?_)
  go_simp
  obtain ⟨y3, hy⟩ : ∃ y, y2.alloc (.cells #[.slice pq nq cq] 24) = y := ⟨_, rfl⟩
  obtain ⟨bq, hb⟩ : ∃ b, y2.heap.size = b := ⟨_, rfl⟩
  rw [hy, hb]
  replace H := H.alloc hy hb rfl
  clear hy hb
  (refine Kr.outS hK (a' := ?_) ?_ ?_; rotate_left; (focus ((try simp only [Act.put, List.setIfInBounds_toArray, List.set_cons_zero, List.set_cons_succ]); first | done | rfl))); clear hK K
  (refine Kr.seqQ (v := ?_) (a' := ?_) (by rfl) ?_ ?_ ?_; rotate_left 2; (focus (go_simp; first | done | rfl)); (focus ((try simp only [Act.put, List.setIfInBounds_toArray, List.set_cons_zero, List.set_cons_succ]); first | done | rfl)))
  refine Kr.seqDoneW ?_
  go_upto_region 1 with fail
  refine Kr.seqStartW ?_
  refine Kr.seqR (by rfl) (fun K hK => ?_)
  go_simp
  go_at_call 18
  refine (awake3 _).mono ?_
  rintro e y4 ⟨rfl, hg⟩
  replace H := H.grow hg
  clear hg
  (refine Kr.outS hK (a' := ?_) ?_ ?_; rotate_left; (focus ((try simp only [Act.put, List.setIfInBounds_toArray, List.set_cons_zero, List.set_cons_succ]); first | done | rfl))); clear hK K
  iterate 2 (refine Kr.seqQ (v := ?_) (a' := ?_) (by rfl) ?_ ?_ ?_; rotate_left 2; (focus (go_simp; first | done | rfl)); (focus ((try simp only [Act.put, List.setIfInBounds_toArray, List.set_cons_zero, List.set_cons_succ]); first | done | rfl)))
  have hk := H.c
  simp only [Kr.Cells] at hk
  iterate 3 (refine Kr.seqQ (v := ?_) (a' := ?_) (by rfl) ?_ ?_ ?_; rotate_left 2; (focus (go_simp; first | done | rfl)); (focus ((try simp only [Act.put, List.setIfInBounds_toArray, List.set_cons_zero, List.set_cons_succ]); first | done | rfl)))
  refine Kr.seqR (by rfl) (fun K hK => ?_)
  go_simp
  clear hk
  obtain ⟨y5, hy⟩ : ∃ y, y4.alloc (.cells #[.slice pn nn cn, .slice pp np cp, .slice pq nq cq] 24) = y := ⟨_, rfl⟩
  obtain ⟨by5, hb⟩ : ∃ b, y4.heap.size = b := ⟨_, rfl⟩
  rw [hy, hb]
  have HN : Nats y5 by5 0 [(pn, nn, cn), (pp, np, cp), (pq, nq, cq)] := nats_mk hy hb
  have hg : Gr y4 y5 := hy ▸ (Gr.refl _).alloc _
  replace H := H.grow hg
  clear hg hy hb
  (refine Kr.outS hK (a' := ?_) ?_ ?_; rotate_left; (focus ((try simp only [Act.put, List.setIfInBounds_toArray, List.set_cons_zero, List.set_cons_succ]); first | done | rfl))); clear hK K
  refine Kr.seqR (by rfl) (fun K hK => ?_)
  go_simp
  go_at_call 19
  refine (few_ok HN (by simp) HS.out).mono ?_
  rintro e y6 ⟨rfl, hg⟩
  replace H := H.grow hg
  clear hg
  clear HN
  (refine Kr.outS hK (a' := ?_) ?_ ?_; rotate_left; (focus ((try simp only [Act.put, List.setIfInBounds_toArray, List.set_cons_zero, List.set_cons_succ]); first | done | rfl))); clear hK K
  iterate 3 (refine Kr.seqQ (v := ?_) (a' := ?_) (by rfl) ?_ ?_ ?_; rotate_left 2; (focus (go_simp; first | done | rfl)); (focus ((try simp only [Act.put, List.setIfInBounds_toArray, List.set_cons_zero, List.set_cons_succ]); first | done | rfl)))
  have hk := H.c
  simp only [Kr.Cells] at hk
  (refine Kr.seqQ (v := ?_) (a' := ?_) (by rfl) ?_ ?_ ?_; rotate_left 2; (focus (go_simp; first | done | rfl)); (focus ((try simp only [Act.put, List.setIfInBounds_toArray, List.set_cons_zero, List.set_cons_succ]); first | done | rfl)))
  refine Kr.seqR (by rfl) (fun K hK => ?_)
  go_simp
  go_at_call 29
  refine (valid3_any _ _ _ _ _ (H.ws 2 rfl)).mono ?_
  rintro e y7 ⟨rfl, hg⟩
  rw [Tn.out]
  clear hk
  replace H := H.grow hg
  clear hg
  (refine Kr.outS hK (a' := ?_) ?_ ?_; rotate_left; (focus ((try simp only [Act.put, List.setIfInBounds_toArray, List.set_cons_zero, List.set_cons_succ]); first | done | rfl))); clear hK K
  iterate 3 (refine Kr.seqQ (v := ?_) (a' := ?_) (by rfl) ?_ ?_ ?_; rotate_left 2; (focus (go_simp; first | done | rfl)); (focus ((try simp only [Act.put, List.setIfInBounds_toArray, List.set_cons_zero, List.set_cons_succ]); first | done | rfl)))
  (refine Kr.seqSkipQ (a' := ?_) (by rfl) ?_ ?_; rotate_left; (focus ((try simp only [Act.put, List.setIfInBounds_toArray, List.set_cons_zero, List.set_cons_succ]); first | done | rfl)))
  (refine Kr.seqSkipQ (a' := ?_) (by rfl) ?_ ?_; rotate_left; (focus ((try simp only [Act.put, List.setIfInBounds_toArray, List.set_cons_zero, List.set_cons_succ]); first | done | rfl)))
  (refine Kr.seqSkipQ (a' := ?_) (by rfl) ?_ ?_; rotate_left; (focus ((try simp only [Act.put, List.setIfInBounds_toArray, List.set_cons_zero, List.set_cons_succ]); first | done | rfl)))
  iterate 2 (refine Kr.seqQ (v := ?_) (a' := ?_) (by rfl) ?_ ?_ ?_; rotate_left 2; (focus (go_simp; first | done | rfl)); (focus ((try simp only [Act.put, List.setIfInBounds_toArray, List.set_cons_zero, List.set_cons_succ]); first | done | rfl)))
  (refine Kr.seqSkipQ (a' := ?_) (by rfl) ?_ ?_; rotate_left; (focus ((try simp only [Act.put, List.setIfInBounds_toArray, List.set_cons_zero, List.set_cons_succ]); first | done | rfl)))
  (refine Kr.seqSkipQ (a' := ?_) (by rfl) ?_ ?_; rotate_left; (focus ((try simp only [Act.put, List.setIfInBounds_toArray, List.set_cons_zero, List.set_cons_succ]); first | done | rfl)))
  (refine Kr.seqSkipQ (a' := ?_) (by rfl) ?_ ?_; rotate_left; (focus ((try simp only [Act.put, List.setIfInBounds_toArray, List.set_cons_zero, List.set_cons_succ]); first | done | rfl)))
  (refine Kr.seqQ (v := ?_) (a' := ?_) (by rfl) ?_ ?_ ?_; rotate_left 2; (focus (go_simp; first | done | rfl)); (focus ((try simp only [Act.put, List.setIfInBounds_toArray, List.set_cons_zero, List.set_cons_succ]); first | done | rfl)))
  refine Kr.seqDoneW ?_
  go_upto_region 2 with fail
  refine Kr.seqStartW ?_
  refine Kr.seqR (by rfl) (fun K hK => ?_)
  go_simp
  go_at_call 18
  refine (awake3 _).mono ?_
  rintro e y8 ⟨rfl, hg⟩
  replace H := H.grow hg
  clear hg
  (refine Kr.outS hK (a' := ?_) ?_ ?_; rotate_left; (focus ((try simp only [Act.put, List.setIfInBounds_toArray, List.set_cons_zero, List.set_cons_succ]); first | done | rfl))); clear hK K
  (refine Kr.seqQ (v := ?_) (a' := ?_) (by rfl) ?_ ?_ ?_; rotate_left 2; (focus (go_simp; first | done | rfl)); (focus ((try simp only [Act.put, List.setIfInBounds_toArray, List.set_cons_zero, List.set_cons_succ]); first | done | rfl)))
  refine Kr.seqDoneW ?_
  go_wp2
  go_ret
  exact ⟨rfl, H.g⟩
set_option linter.unusedSimpArgs false in
set_option maxRecDepth 100000 in
set_option maxHeartbeats 16000000 in
theorem rem_bad_p {pn : Option Addr} {nn cn : Nat} {pp : Option Addr} {np cp : Nat} {pq : Option Addr} {nq cq : Nat} {ln lp lq : List Nat} {w : World} (hs : ∀ x ∈ [(pn, nn, cn), (pp, np, cp), (pq, nq, cq)], x.2.1 ≤ 14) (hn : Nw w pn nn cn ln) (hp : Nw w pp np cp lp) (hq : Nw w pq nq cq lq) (tn : decide (valid ln) = true) (tp : im lp = false) :
    Calls Try.prog 10 #[.agg #[.slice pn nn cn], .agg #[.slice pp np cp], .agg #[.slice pq nq cq]] w fun e w' => e = .returned (.bool true) ∧ Gr w w' := by
  have HS := Lib.hid hs
  clear hs
  have Tn := Lib.hid tn
  clear tn
  have Tp := Lib.hid tp
  clear tp
  have H := Sta.start w
  replace H := H.add (keepWs _ _ _ _) hn
  replace H := H.add (keepWs _ _ _ _) hp
  replace H := H.add (keepWs _ _ _ _) hq
  go_enter Try.func10, Try.ntmps10
  go_upto_region 0 with fail
  refine Kr.seqStartW ?_
  refine Kr.seqR (by rfl) (fun K hK => ?_)
  go_simp
  obtain ⟨y1, hy⟩ : ∃ y, w.alloc (.cells #[.slice pn nn cn] 24) = y := ⟨_, rfl⟩
  obtain ⟨bn, hb⟩ : ∃ b, w.heap.size = b := ⟨_, rfl⟩
  rw [hy, hb]
  replace H := H.alloc hy hb rfl
  clear hy hb
  (refine Kr.outS hK (a' := ?_) ?_ ?_; rotate_left; (focus ((try simp only [Act.put, List.setIfInBounds_toArray, List.set_cons_zero, List.set_cons_succ]); first | done | rfl))); clear hK K
  refine Kr.seqR (by rfl) (fun K hK => ?_)
  go_simp
  obtain ⟨y2, hy⟩ : ∃ y, y1.alloc (.cells #[.slice pp np cp] 24) = y := ⟨_, rfl⟩
  obtain ⟨bp, hb⟩ : ∃ b, y1.heap.size = b := ⟨_, rfl⟩
  rw [hy, hb]
  replace H := H.alloc hy hb rfl
  clear hy hb
  (refine Kr.outS hK (a' := ?_) ?_ ?_; rotate_left; (focus ((try simp only [Act.put, List.setIfInBounds_toArray, List.set_cons_zero, List.set_cons_succ]); first | done | rfl))); clear hK K
  refine Kr.seqR (by rfl) (fun K hK => ?_)
  go_simp
  obtain ⟨y3, hy⟩ : ∃ y, y2.alloc (.cells #[.slice pq nq cq] 24) = y := ⟨_, rfl⟩
  obtain ⟨bq, hb⟩ : ∃ b, y2.heap.size = b := ⟨_, rfl⟩
  rw [hy, hb]
  replace H := H.alloc hy hb rfl
  clear hy hb
  (refine Kr.outS hK (a' := ?_) ?_ ?_; rotate_left; (focus ((try simp only [Act.put, List.setIfInBounds_toArray, List.set_cons_zero, List.set_cons_succ]); first | done | rfl))); clear hK K
  (refine Kr.seqQ (v := ?_) (a' := ?_) (by rfl) ?_ ?_ ?_; rotate_left 2; (focus (go_simp; first | done | rfl)); (focus ((try simp only [Act.put, List.setIfInBounds_toArray, List.set_cons_zero, List.set_cons_succ]); first | done | rfl)))
  refine Kr.seqDoneW ?_
  go_upto_region 1 with fail
  refine Kr.seqStartW ?_
  refine Kr.seqR (by rfl) (fun K hK => ?_)
  go_simp
  go_at_call 18
  refine (awake3 _).mono ?_
  rintro e y4 ⟨rfl, hg⟩
  replace H := H.grow hg
  clear hg
  (refine Kr.outS hK (a' := ?_) ?_ ?_; rotate_left; (focus ((try simp only [Act.put, List.setIfInBounds_toArray, List.set_cons_zero, List.set_cons_succ]); first | done | rfl))); clear hK K
  iterate 2 (refine Kr.seqQ (v := ?_) (a' := ?_) (by rfl) ?_ ?_ ?_; rotate_left 2; (focus (go_simp; first | done | rfl)); (focus ((try simp only [Act.put, List.setIfInBounds_toArray, List.set_cons_zero, List.set_cons_succ]); first | done | rfl)))
  have hk := H.c
  simp only [Kr.Cells] at hk
  iterate 3 (refine Kr.seqQ (v := ?_) (a' := ?_) (by rfl) ?_ ?_ ?_; rotate_left 2; (focus (go_simp; first | done | rfl)); (focus ((try simp only [Act.put, List.setIfInBounds_toArray, List.set_cons_zero, List.set_cons_succ]); first | done | rfl)))
  refine Kr.seqR (by rfl) (fun K hK => ?_)
  go_simp
  clear hk
  obtain ⟨y5, hy⟩ : ∃ y, y4.alloc (.cells #[.slice pn nn cn, .slice pp np cp, .slice pq nq cq] 24) = y := ⟨_, rfl⟩
  obtain ⟨by5, hb⟩ : ∃ b, y4.heap.size = b := ⟨_, rfl⟩
  rw [hy, hb]
  have HN : Nats y5 by5 0 [(pn, nn, cn), (pp, np, cp), (pq, nq, cq)] := nats_mk hy hb
  have hg : Gr y4 y5 := hy ▸ (Gr.refl _).alloc _
  replace H := H.grow hg
  clear hg hy hb
  (refine Kr.outS hK (a' := ?_) ?_ ?_; rotate_left; (focus ((try simp only [Act.put, List.setIfInBounds_toArray, List.set_cons_zero, List.set_cons_succ]); first | done | rfl))); clear hK K
  refine Kr.seqR (by rfl) (fun K hK => ?_)
  go_simp
  go_at_call 19
  refine (few_ok HN (by simp) HS.out).mono ?_
  rintro e y6 ⟨rfl, hg⟩
  replace H := H.grow hg
  clear hg
  clear HN
  (refine Kr.outS hK (a' := ?_) ?_ ?_; rotate_left; (focus ((try simp only [Act.put, List.setIfInBounds_toArray, List.set_cons_zero, List.set_cons_succ]); first | done | rfl))); clear hK K
  iterate 3 (refine Kr.seqQ (v := ?_) (a' := ?_) (by rfl) ?_ ?_ ?_; rotate_left 2; (focus (go_simp; first | done | rfl)); (focus ((try simp only [Act.put, List.setIfInBounds_toArray, List.set_cons_zero, List.set_cons_succ]); first | done | rfl)))
  have hk := H.c
  simp only [Kr.Cells] at hk
  (refine Kr.seqQ (v := ?_) (a' := ?_) (by rfl) ?_ ?_ ?_; rotate_left 2; (focus (go_simp; first | done | rfl)); (focus ((try simp only [Act.put, List.setIfInBounds_toArray, List.set_cons_zero, List.set_cons_succ]); first | done | rfl)))
  refine Kr.seqR (by rfl) (fun K hK => ?_)
  go_simp
  go_at_call 29
  refine (valid3_any _ _ _ _ _ (H.ws 2 rfl)).mono ?_
  rintro e y7 ⟨rfl, hg⟩
  rw [Tn.out]
  clear hk
  replace H := H.grow hg
  clear hg
  (refine Kr.outS hK (a' := ?_) ?_ ?_; rotate_left; (focus ((try simp only [Act.put, List.setIfInBounds_toArray, List.set_cons_zero, List.set_cons_succ]); first | done | rfl))); clear hK K
  iterate 3 (refine Kr.seqQ (v := ?_) (a' := ?_) (by rfl) ?_ ?_ ?_; rotate_left 2; (focus (go_simp; first | done | rfl)); (focus ((try simp only [Act.put, List.setIfInBounds_toArray, List.set_cons_zero, List.set_cons_succ]); first | done | rfl)))
  have hk := H.c
  simp only [Kr.Cells] at hk
  (refine Kr.seqQ (v := ?_) (a' := ?_) (by rfl) ?_ ?_ ?_; rotate_left 2; (focus (go_simp; first | done | rfl)); (focus ((try simp only [Act.put, List.setIfInBounds_toArray, List.set_cons_zero, List.set_cons_succ]); first | done | rfl)))
  refine Kr.seqR (by rfl) (fun K hK => ?_)
  go_simp
  go_at_call 22
  refine (first_nil (H.ws 1 rfl)).mono ?_
  rintro e y8 ⟨rfl, hg⟩
  rw [Tp.out, if_neg (by decide)]
  clear hk
  replace H := H.grow hg
  clear hg
  (refine Kr.outS hK (a' := ?_) ?_ ?_; rotate_left; (focus ((try simp only [Act.put, List.setIfInBounds_toArray, List.set_cons_zero, List.set_cons_succ]); first | done | rfl))); clear hK K
  iterate 3 (refine Kr.seqQ (v := ?_) (a' := ?_) (by rfl) ?_ ?_ ?_; rotate_left 2; (focus (go_simp; first | done | rfl)); (focus ((try simp only [Act.put, List.setIfInBounds_toArray, List.set_cons_zero, List.set_cons_succ]); first | done | rfl)))
  (refine Kr.seqSkipQ (a' := ?_) (by rfl) ?_ ?_; rotate_left; (focus ((try simp only [Act.put, List.setIfInBounds_toArray, List.set_cons_zero, List.set_cons_succ]); first | done | rfl)))
  (refine Kr.seqSkipQ (a' := ?_) (by rfl) ?_ ?_; rotate_left; (focus ((try simp only [Act.put, List.setIfInBounds_toArray, List.set_cons_zero, List.set_cons_succ]); first | done | rfl)))
  (refine Kr.seqSkipQ (a' := ?_) (by rfl) ?_ ?_; rotate_left; (focus ((try simp only [Act.put, List.setIfInBounds_toArray, List.set_cons_zero, List.set_cons_succ]); first | done | rfl)))
  (refine Kr.seqQ (v := ?_) (a' := ?_) (by rfl) ?_ ?_ ?_; rotate_left 2; (focus (go_simp; first | done | rfl)); (focus ((try simp only [Act.put, List.setIfInBounds_toArray, List.set_cons_zero, List.set_cons_succ]); first | done | rfl)))
  refine Kr.seqDoneW ?_
  go_upto_region 2 with fail
  refine Kr.seqStartW ?_
  refine Kr.seqR (by rfl) (fun K hK => ?_)
  go_simp
  go_at_call 18
  refine (awake3 _).mono ?_
  rintro e y9 ⟨rfl, hg⟩
  replace H := H.grow hg
  clear hg
  (refine Kr.outS hK (a' := ?_) ?_ ?_; rotate_left; (focus ((try simp only [Act.put, List.setIfInBounds_toArray, List.set_cons_zero, List.set_cons_succ]); first | done | rfl))); clear hK K
  (refine Kr.seqQ (v := ?_) (a' := ?_) (by rfl) ?_ ?_ ?_; rotate_left 2; (focus (go_simp; first | done | rfl)); (focus ((try simp only [Act.put, List.setIfInBounds_toArray, List.set_cons_zero, List.set_cons_succ]); first | done | rfl)))
  refine Kr.seqDoneW ?_
  go_wp2
  go_ret
  exact ⟨rfl, H.g⟩
set_option linter.unusedSimpArgs false in
set_option maxRecDepth 100000 in
set_option maxHeartbeats 16000000 in
theorem rem_bad_q {pn : Option Addr} {nn cn : Nat} {pp : Option Addr} {np cp : Nat} {pq : Option Addr} {nq cq : Nat} {ln lp lq : List Nat} {w : World} (hs : ∀ x ∈ [(pn, nn, cn), (pp, np, cp), (pq, nq, cq)], x.2.1 ≤ 14) (hn : Nw w pn nn cn ln) (hp : Nw w pp np cp lp) (hq : Nw w pq nq cq lq) (tn : decide (valid ln) = true) (tp : im lp = true) (tq : im lq = false) :
    Calls Try.prog 10 #[.agg #[.slice pn nn cn], .agg #[.slice pp np cp], .agg #[.slice pq nq cq]] w fun e w' => e = .returned (.bool true) ∧ Gr w w' := by
  have HS := Lib.hid hs
  clear hs
  have Tn := Lib.hid tn
  clear tn
  have Tp := Lib.hid tp
  clear tp
  have Tq := Lib.hid tq
  clear tq
  have H := Sta.start w
  replace H := H.add (keepWs _ _ _ _) hn
  replace H := H.add (keepWs _ _ _ _) hp
  replace H := H.add (keepWs _ _ _ _) hq
  go_enter Try.func10, Try.ntmps10
  go_upto_region 0 with fail
  refine Kr.seqStartW ?_
  refine Kr.seqR (by rfl) (fun K hK => ?_)
  go_simp
  obtain ⟨y1, hy⟩ : ∃ y, w.alloc (.cells #[.slice pn nn cn] 24) = y := ⟨_, rfl⟩
  obtain ⟨bn, hb⟩ : ∃ b, w.heap.size = b := ⟨_, rfl⟩
  rw [hy, hb]
  replace H := H.alloc hy hb rfl
  clear hy hb
  (refine Kr.outS hK (a' := ?_) ?_ ?_; rotate_left; (focus ((try simp only [Act.put, List.setIfInBounds_toArray, List.set_cons_zero, List.set_cons_succ]); first | done | rfl))); clear hK K
  refine Kr.seqR (by rfl) (fun K hK => ?_)
  go_simp
  obtain ⟨y2, hy⟩ : ∃ y, y1.alloc (.cells #[.slice pp np cp] 24) = y := ⟨_, rfl⟩
  obtain ⟨bp, hb⟩ : ∃ b, y1.heap.size = b := ⟨_, rfl⟩
  rw [hy, hb]
  replace H := H.alloc hy hb rfl
  clear hy hb
  (refine Kr.outS hK (a' := ?_) ?_ ?_; rotate_left; (focus ((try simp only [Act.put, List.setIfInBounds_toArray, List.set_cons_zero, List.set_cons_succ]); first | done | rfl))); clear hK K
  refine Kr.seqR (by rfl) (fun K hK => ?_)
  go_simp
  obtain ⟨y3, hy⟩ : ∃ y, y2.alloc (.cells #[.slice pq nq cq] 24) = y := ⟨_, rfl⟩
  obtain ⟨bq, hb⟩ : ∃ b, y2.heap.size = b := ⟨_, rfl⟩
  rw [hy, hb]
  replace H := H.alloc hy hb rfl
  clear hy hb
  (refine Kr.outS hK (a' := ?_) ?_ ?_; rotate_left; (focus ((try simp only [Act.put, List.setIfInBounds_toArray, List.set_cons_zero, List.set_cons_succ]); first | done | rfl))); clear hK K
  (refine Kr.seqQ (v := ?_) (a' := ?_) (by rfl) ?_ ?_ ?_; rotate_left 2; (focus (go_simp; first | done | rfl)); (focus ((try simp only [Act.put, List.setIfInBounds_toArray, List.set_cons_zero, List.set_cons_succ]); first | done | rfl)))
  refine Kr.seqDoneW ?_
  go_upto_region 1 with fail
  refine Kr.seqStartW ?_
  refine Kr.seqR (by rfl) (fun K hK => ?_)
  go_simp
  go_at_call 18
  refine (awake3 _).mono ?_
  rintro e y4 ⟨rfl, hg⟩
  replace H := H.grow hg
  clear hg
  (refine Kr.outS hK (a' := ?_) ?_ ?_; rotate_left; (focus ((try simp only [Act.put, List.setIfInBounds_toArray, List.set_cons_zero, List.set_cons_succ]); first | done | rfl))); clear hK K
  iterate 2 (refine Kr.seqQ (v := ?_) (a' := ?_) (by rfl) ?_ ?_ ?_; rotate_left 2; (focus (go_simp; first | done | rfl)); (focus ((try simp only [Act.put, List.setIfInBounds_toArray, List.set_cons_zero, List.set_cons_succ]); first | done | rfl)))
  have hk := H.c
  simp only [Kr.Cells] at hk
  iterate 3 (refine Kr.seqQ (v := ?_) (a' := ?_) (by rfl) ?_ ?_ ?_; rotate_left 2; (focus (go_simp; first | done | rfl)); (focus ((try simp only [Act.put, List.setIfInBounds_toArray, List.set_cons_zero, List.set_cons_succ]); first | done | rfl)))
  refine Kr.seqR (by rfl) (fun K hK => ?_)
  go_simp
  clear hk
  obtain ⟨y5, hy⟩ : ∃ y, y4.alloc (.cells #[.slice pn nn cn, .slice pp np cp, .slice pq nq cq] 24) = y := ⟨_, rfl⟩
  obtain ⟨by5, hb⟩ : ∃ b, y4.heap.size = b := ⟨_, rfl⟩
  rw [hy, hb]
  have HN : Nats y5 by5 0 [(pn, nn, cn), (pp, np, cp), (pq, nq, cq)] := nats_mk hy hb
  have hg : Gr y4 y5 := hy ▸ (Gr.refl _).alloc _
  replace H := H.grow hg
  clear hg hy hb
  (refine Kr.outS hK (a' := ?_) ?_ ?_; rotate_left; (focus ((try simp only [Act.put, List.setIfInBounds_toArray, List.set_cons_zero, List.set_cons_succ]); first | done | rfl))); clear hK K
  refine Kr.seqR (by rfl) (fun K hK => ?_)
  go_simp
  go_at_call 19
  refine (few_ok HN (by simp) HS.out).mono ?_
  rintro e y6 ⟨rfl, hg⟩
  replace H := H.grow hg
  clear hg
  clear HN
  (refine Kr.outS hK (a' := ?_) ?_ ?_; rotate_left; (focus ((try simp only [Act.put, List.setIfInBounds_toArray, List.set_cons_zero, List.set_cons_succ]); first | done | rfl))); clear hK K
  iterate 3 (refine Kr.seqQ (v := ?_) (a' := ?_) (by rfl) ?_ ?_ ?_; rotate_left 2; (focus (go_simp; first | done | rfl)); (focus ((try simp only [Act.put, List.setIfInBounds_toArray, List.set_cons_zero, List.set_cons_succ]); first | done | rfl)))
  have hk := H.c
  simp only [Kr.Cells] at hk
  (refine Kr.seqQ (v := ?_) (a' := ?_) (by rfl) ?_ ?_ ?_; rotate_left 2; (focus (go_simp; first | done | rfl)); (focus ((try simp only [Act.put, List.setIfInBounds_toArray, List.set_cons_zero, List.set_cons_succ]); first | done | rfl)))
  refine Kr.seqR (by rfl) (fun K hK => ?_)
  go_simp
  go_at_call 29
  refine (valid3_any _ _ _ _ _ (H.ws 2 rfl)).mono ?_
  rintro e y7 ⟨rfl, hg⟩
  rw [Tn.out]
  clear hk
  replace H := H.grow hg
  clear hg
  (refine Kr.outS hK (a' := ?_) ?_ ?_; rotate_left; (focus ((try simp only [Act.put, List.setIfInBounds_toArray, List.set_cons_zero, List.set_cons_succ]); first | done | rfl))); clear hK K
  iterate 3 (refine Kr.seqQ (v := ?_) (a' := ?_) (by rfl) ?_ ?_ ?_; rotate_left 2; (focus (go_simp; first | done | rfl)); (focus ((try simp only [Act.put, List.setIfInBounds_toArray, List.set_cons_zero, List.set_cons_succ]); first | done | rfl)))
  have hk := H.c
  simp only [Kr.Cells] at hk
  (refine Kr.seqQ (v := ?_) (a' := ?_) (by rfl) ?_ ?_ ?_; rotate_left 2; (focus (go_simp; first | done | rfl)); (focus ((try simp only [Act.put, List.setIfInBounds_toArray, List.set_cons_zero, List.set_cons_succ]); first | done | rfl)))
  refine Kr.seqR (by rfl) (fun K hK => ?_)
  go_simp
  go_at_call 22
  refine (first_nil (H.ws 1 rfl)).mono ?_
  rintro e y8 ⟨rfl, hg⟩
  rw [Tp.out, if_pos rfl]
  clear hk
  replace H := H.grow hg
  clear hg
  (refine Kr.outS hK (a' := ?_) ?_ ?_; rotate_left; (focus ((try simp only [Act.put, List.setIfInBounds_toArray, List.set_cons_zero, List.set_cons_succ]); first | done | rfl))); clear hK K
  iterate 3 (refine Kr.seqQ (v := ?_) (a' := ?_) (by rfl) ?_ ?_ ?_; rotate_left 2; (focus (go_simp; first | done | rfl)); (focus ((try simp only [Act.put, List.setIfInBounds_toArray, List.set_cons_zero, List.set_cons_succ]); first | done | rfl)))
  have hk := H.c
  simp only [Kr.Cells] at hk
  (refine Kr.seqQ (v := ?_) (a' := ?_) (by rfl) ?_ ?_ ?_; rotate_left 2; (focus (go_simp; first | done | rfl)); (focus ((try simp only [Act.put, List.setIfInBounds_toArray, List.set_cons_zero, List.set_cons_succ]); first | done | rfl)))
  refine Kr.seqR (by rfl) (fun K hK => ?_)
  go_simp
  go_at_call 22
  refine (first_nil (H.ws 0 rfl)).mono ?_
  rintro e y9 ⟨rfl, hg⟩
  rw [Tq.out, if_neg (by decide)]
  clear hk
  replace H := H.grow hg
  clear hg
  (refine Kr.outS hK (a' := ?_) ?_ ?_; rotate_left; (focus ((try simp only [Act.put, List.setIfInBounds_toArray, List.set_cons_zero, List.set_cons_succ]); first | done | rfl))); clear hK K
  iterate 2 (refine Kr.seqQ (v := ?_) (a' := ?_) (by rfl) ?_ ?_ ?_; rotate_left 2; (focus (go_simp; first | done | rfl)); (focus ((try simp only [Act.put, List.setIfInBounds_toArray, List.set_cons_zero, List.set_cons_succ]); first | done | rfl)))
  refine Kr.seqDoneW ?_
  go_upto_region 2 with fail
  refine Kr.seqStartW ?_
  refine Kr.seqR (by rfl) (fun K hK => ?_)
  go_simp
  go_at_call 18
  refine (awake3 _).mono ?_
  rintro e y10 ⟨rfl, hg⟩
  replace H := H.grow hg
  clear hg
  (refine Kr.outS hK (a' := ?_) ?_ ?_; rotate_left; (focus ((try simp only [Act.put, List.setIfInBounds_toArray, List.set_cons_zero, List.set_cons_succ]); first | done | rfl))); clear hK K
  (refine Kr.seqQ (v := ?_) (a' := ?_) (by rfl) ?_ ?_ ?_; rotate_left 2; (focus (go_simp; first | done | rfl)); (focus ((try simp only [Act.put, List.setIfInBounds_toArray, List.set_cons_zero, List.set_cons_succ]); first | done | rfl)))
  refine Kr.seqDoneW ?_
  go_wp2
  go_ret
  exact ⟨rfl, H.g⟩
set_option linter.unusedSimpArgs false in
set_option maxRecDepth 100000 in
set_option maxHeartbeats 16000000 in
theorem rem_ok {pn : Option Addr} {nn cn : Nat} {pp : Option Addr} {np cp : Nat} {pq : Option Addr} {nq cq : Nat} {n p q : Nat} {w : World} (hs : ∀ x ∈ [(pn, nn, cn), (pp, np, cp), (pq, nq, cq)], x.2.1 ≤ 14) (hn : Nw w pn nn cn (digs n)) (hp : Nw w pp np cp (digs p)) (hq : Nw w pq nq cq (digs q)) (vn : n < pw 64) (p0 : 0 < p) (vp : p < pw 32) (q0 : 0 < q) (vq : q < pw 32) (hpq : p * q < pw 32) (hg1 : Nat.gcd p q = 1) :
    Calls Try.prog 10 #[.agg #[.slice pn nn cn], .agg #[.slice pp np cp], .agg #[.slice pq nq cq]] w fun e w' => e = .returned (.bool true) ∧ Gr w w' := by
  have HS := Lib.hid hs
  have VN := Lib.hid vn
  have P0 := Lib.hid p0
  have VP := Lib.hid vp
  have Q0 := Lib.hid q0
  have VQ := Lib.hid vq
  have HPQ := Lib.hid hpq
  have HG1 := Lib.hid hg1
  clear hs vn p0 vp q0 vq hpq hg1
  have PQ0 := Lib.hid (Nat.mul_pos P0.out Q0.out)
  have HG2 : Hid (Nat.gcd (p % q) q = 1) := Lib.hid (by rw [← Nat.gcd_rec q p, Nat.gcd_comm]; exact HG1.out)
  have H := Sta.start w
  replace H := H.num hn
  replace H := H.num hp
  replace H := H.num hq
  go_enter Try.func10, Try.ntmps10
  go_upto_region 0 with fail
  refine Kr.seqStartW ?_
  refine Kr.seqR (by rfl) (fun K hK => ?_)
  go_simp
  obtain ⟨y1, hy⟩ : ∃ y, w.alloc (.cells #[.slice pn nn cn] 24) = y := ⟨_, rfl⟩
  obtain ⟨bn, hb⟩ : ∃ b, w.heap.size = b := ⟨_, rfl⟩
  rw [hy, hb]
  replace H := H.alloc hy hb rfl
  clear hy hb
  (refine Kr.outS hK (a' := ?_) ?_ ?_; rotate_left; (focus ((try simp only [Act.put, List.setIfInBounds_toArray, List.set_cons_zero, List.set_cons_succ]); first | done | rfl))); clear hK K
  refine Kr.seqR (by rfl) (fun K hK => ?_)
  go_simp
  obtain ⟨y2, hy⟩ : ∃ y, y1.alloc (.cells #[.slice pp np cp] 24) = y := ⟨_, rfl⟩
  obtain ⟨bp, hb⟩ : ∃ b, y1.heap.size = b := ⟨_, rfl⟩
  rw [hy, hb]
  replace H := H.alloc hy hb rfl
  clear hy hb
  (refine Kr.outS hK (a' := ?_) ?_ ?_; rotate_left; (focus ((try simp only [Act.put, List.setIfInBounds_toArray, List.set_cons_zero, List.set_cons_succ]); first | done | rfl))); clear hK K
  refine Kr.seqR (by rfl) (fun K hK => ?_)
  go_simp
  obtain ⟨y3, hy⟩ : ∃ y, y2.alloc (.cells #[.slice pq nq cq] 24) = y := ⟨_, rfl⟩
  obtain ⟨bq, hb⟩ : ∃ b, y2.heap.size = b := ⟨_, rfl⟩
  rw [hy, hb]
  replace H := H.alloc hy hb rfl
  clear hy hb
  (refine Kr.outS hK (a' := ?_) ?_ ?_; rotate_left; (focus ((try simp only [Act.put, List.setIfInBounds_toArray, List.set_cons_zero, List.set_cons_succ]); first | done | rfl))); clear hK K
  (refine Kr.seqQ (v := ?_) (a' := ?_) (by rfl) ?_ ?_ ?_; rotate_left 2; (focus (go_simp; first | done | rfl)); (focus ((try simp only [Act.put, List.setIfInBounds_toArray, List.set_cons_zero, List.set_cons_succ]); first | done | rfl)))
  refine Kr.seqDoneW ?_
  go_upto_region 1 with fail
  refine Kr.seqStartW ?_
  refine Kr.seqR (by rfl) (fun K hK => ?_)
  go_simp
  go_at_call 18
  refine (awake3 _).mono ?_
  rintro e y4 ⟨rfl, hg⟩
  replace H := H.grow hg
  clear hg
  (refine Kr.outS hK (a' := ?_) ?_ ?_; rotate_left; (focus ((try simp only [Act.put, List.setIfInBounds_toArray, List.set_cons_zero, List.set_cons_succ]); first | done | rfl))); clear hK K
  iterate 2 (refine Kr.seqQ (v := ?_) (a' := ?_) (by rfl) ?_ ?_ ?_; rotate_left 2; (focus (go_simp; first | done | rfl)); (focus ((try simp only [Act.put, List.setIfInBounds_toArray, List.set_cons_zero, List.set_cons_succ]); first | done | rfl)))
  have hk := H.c
  simp only [Kr.Cells] at hk
  iterate 3 (refine Kr.seqQ (v := ?_) (a' := ?_) (by rfl) ?_ ?_ ?_; rotate_left 2; (focus (go_simp; first | done | rfl)); (focus ((try simp only [Act.put, List.setIfInBounds_toArray, List.set_cons_zero, List.set_cons_succ]); first | done | rfl)))
  refine Kr.seqR (by rfl) (fun K hK => ?_)
  go_simp
  clear hk
  obtain ⟨y5, hy⟩ : ∃ y, y4.alloc (.cells #[.slice pn nn cn, .slice pp np cp, .slice pq nq cq] 24) = y := ⟨_, rfl⟩
  obtain ⟨by5, hb⟩ : ∃ b, y4.heap.size = b := ⟨_, rfl⟩
  rw [hy, hb]
  have HN : Nats y5 by5 0 [(pn, nn, cn), (pp, np, cp), (pq, nq, cq)] := nats_mk hy hb
  have hg : Gr y4 y5 := hy ▸ (Gr.refl _).alloc _
  replace H := H.grow hg
  clear hg hy hb
  (refine Kr.outS hK (a' := ?_) ?_ ?_; rotate_left; (focus ((try simp only [Act.put, List.setIfInBounds_toArray, List.set_cons_zero, List.set_cons_succ]); first | done | rfl))); clear hK K
  refine Kr.seqR (by rfl) (fun K hK => ?_)
  go_simp
  go_at_call 19
  refine (few_ok HN (by simp) HS.out).mono ?_
  rintro e y6 ⟨rfl, hg⟩
  replace H := H.grow hg
  clear hg
  clear HN
  (refine Kr.outS hK (a' := ?_) ?_ ?_; rotate_left; (focus ((try simp only [Act.put, List.setIfInBounds_toArray, List.set_cons_zero, List.set_cons_succ]); first | done | rfl))); clear hK K
  iterate 3 (refine Kr.seqQ (v := ?_) (a' := ?_) (by rfl) ?_ ?_ ?_; rotate_left 2; (focus (go_simp; first | done | rfl)); (focus ((try simp only [Act.put, List.setIfInBounds_toArray, List.set_cons_zero, List.set_cons_succ]); first | done | rfl)))
  have hk := H.c
  simp only [Kr.Cells] at hk
  (refine Kr.seqQ (v := ?_) (a' := ?_) (by rfl) ?_ ?_ ?_; rotate_left 2; (focus (go_simp; first | done | rfl)); (focus ((try simp only [Act.put, List.setIfInBounds_toArray, List.set_cons_zero, List.set_cons_succ]); first | done | rfl)))
  refine Kr.seqR (by rfl) (fun K hK => ?_)
  go_simp
  go_at_call 29
  refine (valid3_any _ _ _ _ _ (H.nw 2 rfl)).mono ?_
  rintro e y7 ⟨rfl, hg⟩
  rw [dv VN.out]
  clear hk
  replace H := H.grow hg
  clear hg
  (refine Kr.outS hK (a' := ?_) ?_ ?_; rotate_left; (focus ((try simp only [Act.put, List.setIfInBounds_toArray, List.set_cons_zero, List.set_cons_succ]); first | done | rfl))); clear hK K
  iterate 3 (refine Kr.seqQ (v := ?_) (a' := ?_) (by rfl) ?_ ?_ ?_; rotate_left 2; (focus (go_simp; first | done | rfl)); (focus ((try simp only [Act.put, List.setIfInBounds_toArray, List.set_cons_zero, List.set_cons_succ]); first | done | rfl)))
  have hk := H.c
  simp only [Kr.Cells] at hk
  (refine Kr.seqQ (v := ?_) (a' := ?_) (by rfl) ?_ ?_ ?_; rotate_left 2; (focus (go_simp; first | done | rfl)); (focus ((try simp only [Act.put, List.setIfInBounds_toArray, List.set_cons_zero, List.set_cons_succ]); first | done | rfl)))
  refine Kr.seqR (by rfl) (fun K hK => ?_)
  go_simp
  go_at_call 22
  refine (first_nil (H.nw 1 rfl)).mono ?_
  rintro e y8 ⟨rfl, hg⟩
  rw [im_digs P0.out VP.out, if_pos rfl]
  clear hk
  replace H := H.grow hg
  clear hg
  (refine Kr.outS hK (a' := ?_) ?_ ?_; rotate_left; (focus ((try simp only [Act.put, List.setIfInBounds_toArray, List.set_cons_zero, List.set_cons_succ]); first | done | rfl))); clear hK K
  iterate 3 (refine Kr.seqQ (v := ?_) (a' := ?_) (by rfl) ?_ ?_ ?_; rotate_left 2; (focus (go_simp; first | done | rfl)); (focus ((try simp only [Act.put, List.setIfInBounds_toArray, List.set_cons_zero, List.set_cons_succ]); first | done | rfl)))
  have hk := H.c
  simp only [Kr.Cells] at hk
  (refine Kr.seqQ (v := ?_) (a' := ?_) (by rfl) ?_ ?_ ?_; rotate_left 2; (focus (go_simp; first | done | rfl)); (focus ((try simp only [Act.put, List.setIfInBounds_toArray, List.set_cons_zero, List.set_cons_succ]); first | done | rfl)))
  refine Kr.seqR (by rfl) (fun K hK => ?_)
  go_simp
  go_at_call 22
  refine (first_nil (H.nw 0 rfl)).mono ?_
  rintro e y9 ⟨rfl, hg⟩
  rw [im_digs Q0.out VQ.out, if_pos rfl]
  clear hk
  replace H := H.grow hg
  clear hg
  (refine Kr.outS hK (a' := ?_) ?_ ?_; rotate_left; (focus ((try simp only [Act.put, List.setIfInBounds_toArray, List.set_cons_zero, List.set_cons_succ]); first | done | rfl))); clear hK K
  iterate 2 (refine Kr.seqQ (v := ?_) (a' := ?_) (by rfl) ?_ ?_ ?_; rotate_left 2; (focus (go_simp; first | done | rfl)); (focus ((try simp only [Act.put, List.setIfInBounds_toArray, List.set_cons_zero, List.set_cons_succ]); first | done | rfl)))
  refine Kr.seqDoneW ?_
  go_upto_region 3 with fail
  refine Kr.seqStartW ?_
  have hk := H.c
  simp only [Kr.Cells] at hk
  iterate 2 (refine Kr.seqQ (v := ?_) (a' := ?_) (by rfl) ?_ ?_ ?_; rotate_left 2; (focus (go_simp; first | done | rfl)); (focus ((try simp only [Act.put, List.setIfInBounds_toArray, List.set_cons_zero, List.set_cons_succ]); first | done | rfl)))
  refine Kr.seqR (by rfl) (fun K hK => ?_)
  go_simp
  go_at_call 31
  refine (mGcd_ok (H.nw 1 rfl) (H.nw 0 rfl) (lt64 VP.out) (lt64 VQ.out)).mono ?_
  rintro e y10 ⟨p10, n10, c10, rfl, hr, hg⟩
  clear hk
  replace H := H.grow hg
  replace H := H.num hr.toNw
  clear hr hg
  (refine Kr.outS hK (a' := ?_) ?_ ?_; rotate_left; (focus ((try simp only [Act.put, List.setIfInBounds_toArray, List.set_cons_zero, List.set_cons_succ]); first | done | rfl))); clear hK K
  iterate 3 (refine Kr.seqQ (v := ?_) (a' := ?_) (by rfl) ?_ ?_ ?_; rotate_left 2; (focus (go_simp; first | done | rfl)); (focus ((try simp only [Act.put, List.setIfInBounds_toArray, List.set_cons_zero, List.set_cons_succ]); first | done | rfl)))
  refine Kr.seqR (by rfl) (fun K hK => ?_)
  go_simp
  obtain ⟨y11, hy⟩ : ∃ y, y10.alloc (.cells #[.slice none 0 0] 24) = y := ⟨_, rfl⟩
  obtain ⟨bd, hb⟩ : ∃ b, y10.heap.size = b := ⟨_, rfl⟩
  rw [hy, hb]
  replace H := H.alloc hy hb rfl
  clear hy hb
  (refine Kr.outS hK (a' := ?_) ?_ ?_; rotate_left; (focus ((try simp only [Act.put, List.setIfInBounds_toArray, List.set_cons_zero, List.set_cons_succ]); first | done | rfl))); clear hK K
  have hk := H.c
  simp only [Kr.Cells] at hk
  refine Kr.seqR (by rfl) (fun K hK => ?_)
  go_simp
  clear hk
  obtain ⟨y12, hy⟩ : ∃ y, y11.setCell ⟨bd, 0, none⟩ (.slice p10 n10 c10) = y := ⟨_, rfl⟩
  rw [hy]
  replace H := H.store 0 hy rfl rfl
  dsimp only [List.set] at H
  clear hy
  (refine Kr.outS hK (a' := ?_) ?_ ?_; rotate_left; (focus ((try simp only [Act.put, List.setIfInBounds_toArray, List.set_cons_zero, List.set_cons_succ]); first | done | rfl))); clear hK K
  (refine Kr.seqQ (v := ?_) (a' := ?_) (by rfl) ?_ ?_ ?_; rotate_left 2; (focus (go_simp; first | done | rfl)); (focus ((try simp only [Act.put, List.setIfInBounds_toArray, List.set_cons_zero, List.set_cons_succ]); first | done | rfl)))
  refine Kr.seqDoneW ?_
  go_upto_region 4 with fail
  refine Kr.seqStartW ?_
  have hk := H.c
  simp only [Kr.Cells] at hk
  iterate 2 (refine Kr.seqQ (v := ?_) (a' := ?_) (by rfl) ?_ ?_ ?_; rotate_left 2; (focus (go_simp; first | done | rfl)); (focus ((try simp only [Act.put, List.setIfInBounds_toArray, List.set_cons_zero, List.set_cons_succ]); first | done | rfl)))
  refine Kr.seqR (by rfl) (fun K hK => ?_)
  go_simp
  go_at_call 48
  refine (Mul_v _ 0 (.inl ⟨lt64 HPQ.out, rfl, rfl⟩) (H.nw 2 rfl) (H.nw 1 rfl) (lt64 VP.out) (lt64 VQ.out)).mono ?_
  rintro e y13 ⟨p13, n13, c13, rfl, hr, hg⟩
  clear hk
  replace H := H.grow hg
  replace H := H.num hr.toNw
  clear hr hg
  have hnz : ¬ (n13 : Int) = 0 := fun e => by have h := (H.nw 0 rfl).len; rw [show n13 = 0 by omega] at h; have h2 := val_digs (p * q); rw [List.eq_nil_of_length_eq_zero h] at h2; have h3 := PQ0.out; have h4 : val [] = 0 := rfl; omega
  have hnz2 : ((n13 : Int) == 0) = false := by simpa using hnz
  (refine Kr.outS hK (a' := ?_) ?_ ?_; rotate_left; (focus ((try simp only [Act.put, List.setIfInBounds_toArray, List.set_cons_zero, List.set_cons_succ]); first | done | rfl))); clear hK K
  iterate 3 (refine Kr.seqQ (v := ?_) (a' := ?_) (by rfl) ?_ ?_ ?_; rotate_left 2; (focus (go_simp; first | done | rfl)); (focus ((try simp only [Act.put, List.setIfInBounds_toArray, List.set_cons_zero, List.set_cons_succ]); first | done | rfl)))
  refine Kr.seqR (by rfl) (fun K hK => ?_)
  go_simp
  obtain ⟨y14, hy⟩ : ∃ y, y13.alloc (.cells #[.slice none 0 0] 24) = y := ⟨_, rfl⟩
  obtain ⟨bm, hb⟩ : ∃ b, y13.heap.size = b := ⟨_, rfl⟩
  rw [hy, hb]
  replace H := H.alloc hy hb rfl
  clear hy hb
  (refine Kr.outS hK (a' := ?_) ?_ ?_; rotate_left; (focus ((try simp only [Act.put, List.setIfInBounds_toArray, List.set_cons_zero, List.set_cons_succ]); first | done | rfl))); clear hK K
  have hk := H.c
  simp only [Kr.Cells] at hk
  refine Kr.seqR (by rfl) (fun K hK => ?_)
  go_simp
  clear hk
  obtain ⟨y15, hy⟩ : ∃ y, y14.setCell ⟨bm, 0, none⟩ (.slice p13 n13 c13) = y := ⟨_, rfl⟩
  rw [hy]
  replace H := H.store 0 hy rfl rfl
  dsimp only [List.set] at H
  clear hy
  (refine Kr.outS hK (a' := ?_) ?_ ?_; rotate_left; (focus ((try simp only [Act.put, List.setIfInBounds_toArray, List.set_cons_zero, List.set_cons_succ]); first | done | rfl))); clear hK K
  (refine Kr.seqQ (v := ?_) (a' := ?_) (by rfl) ?_ ?_ ?_; rotate_left 2; (focus (go_simp; first | done | rfl)); (focus ((try simp only [Act.put, List.setIfInBounds_toArray, List.set_cons_zero, List.set_cons_succ]); first | done | rfl)))
  refine Kr.seqDoneW ?_
  go_upto_region 5 with fail
  refine Kr.seqStartW ?_
  iterate 7 (refine Kr.seqQ (v := ?_) (a' := ?_) (by rfl) ?_ ?_ ?_; rotate_left 2; (focus (go_simp; first | done | rfl)); (focus ((try simp only [Act.put, List.setIfInBounds_toArray, List.set_cons_zero, List.set_cons_succ]); first | done | rfl)))
  have hk := H.c
  simp only [Kr.Cells] at hk
  (refine Kr.seqQ (v := ?_) (a' := ?_) (by rfl) ?_ ?_ ?_; rotate_left 2; (focus (go_simp; first | done | rfl)); (focus ((try simp only [Act.put, List.setIfInBounds_toArray, List.set_cons_zero, List.set_cons_succ]); first | done | rfl)))
  refine Kr.seqR (by rfl) (fun K hK => ?_)
  go_simp
  go_at_call 29
  refine (valid3_any _ _ _ _ _ (H.nw 0 rfl)).mono ?_
  rintro e y16 ⟨rfl, hg⟩
  rw [dv (lt64 HPQ.out)]
  clear hk
  replace H := H.grow hg
  clear hg
  (refine Kr.outS hK (a' := ?_) ?_ ?_; rotate_left; (focus ((try simp only [Act.put, List.setIfInBounds_toArray, List.set_cons_zero, List.set_cons_succ]); first | done | rfl))); clear hK K
  iterate 4 (refine Kr.seqQ (v := ?_) (a' := ?_) (by rfl) ?_ ?_ ?_; rotate_left 2; (focus (go_simp; first | done | rfl)); (focus ((try simp only [Act.put, List.setIfInBounds_toArray, List.set_cons_zero, List.set_cons_succ]); first | done | rfl)))
  have hk := H.c
  simp only [Kr.Cells] at hk
  iterate 4 (refine Kr.seqQ (v := ?_) (a' := ?_) (by rfl) ?_ ?_ ?_; rotate_left 2; (focus (go_simp; first | done | rfl)); (focus ((try simp only [Act.put, List.setIfInBounds_toArray, List.set_cons_zero, List.set_cons_succ]); first | done | rfl)))
  clear hk
  refine Kr.seqDoneW ?_
  clear hnz hnz2
  go_upto_region 7 with fail
  refine Kr.seqStartW ?_
  have hk := H.c
  simp only [Kr.Cells] at hk
  iterate 2 (refine Kr.seqQ (v := ?_) (a' := ?_) (by rfl) ?_ ?_ ?_; rotate_left 2; (focus (go_simp; first | done | rfl)); (focus ((try simp only [Act.put, List.setIfInBounds_toArray, List.set_cons_zero, List.set_cons_succ]); first | done | rfl)))
  refine Kr.seqR (by rfl) (fun K hK => ?_)
  go_simp
  go_at_call 45
  refine (Div_v PQ0.out (H.nw 4 rfl) (H.nw 0 rfl) VN.out (lt64 HPQ.out)).mono ?_
  rintro e y17 ⟨p17, q17, n17, c17, m17, d17, rfl, hr, hr2, hg⟩
  clear hk
  replace H := H.grow hg
  replace H := H.num hr.toNw
  replace H := H.num hr2.toNw
  clear hr hr2 hg
  (refine Kr.outS hK (a' := ?_) ?_ ?_; rotate_left; (focus ((try simp only [Act.put, List.setIfInBounds_toArray, List.set_cons_zero, List.set_cons_succ]); first | done | rfl))); clear hK K
  iterate 4 (refine Kr.seqQ (v := ?_) (a' := ?_) (by rfl) ?_ ?_ ?_; rotate_left 2; (focus (go_simp; first | done | rfl)); (focus ((try simp only [Act.put, List.setIfInBounds_toArray, List.set_cons_zero, List.set_cons_succ]); first | done | rfl)))
  refine Kr.seqR (by rfl) (fun K hK => ?_)
  go_simp
  obtain ⟨y18, hy⟩ : ∃ y, y17.alloc (.cells #[.slice none 0 0] 24) = y := ⟨_, rfl⟩
  obtain ⟨bu, hb⟩ : ∃ b, y17.heap.size = b := ⟨_, rfl⟩
  rw [hy, hb]
  replace H := H.alloc hy hb rfl
  clear hy hb
  (refine Kr.outS hK (a' := ?_) ?_ ?_; rotate_left; (focus ((try simp only [Act.put, List.setIfInBounds_toArray, List.set_cons_zero, List.set_cons_succ]); first | done | rfl))); clear hK K
  refine Kr.seqR (by rfl) (fun K hK => ?_)
  go_simp
  obtain ⟨y19, hy⟩ : ∃ y, y18.alloc (.cells #[.slice none 0 0] 24) = y := ⟨_, rfl⟩
  obtain ⟨bx, hb⟩ : ∃ b, y18.heap.size = b := ⟨_, rfl⟩
  rw [hy, hb]
  replace H := H.alloc hy hb rfl
  clear hy hb
  (refine Kr.outS hK (a' := ?_) ?_ ?_; rotate_left; (focus ((try simp only [Act.put, List.setIfInBounds_toArray, List.set_cons_zero, List.set_cons_succ]); first | done | rfl))); clear hK K
  have hk := H.c
  simp only [Kr.Cells] at hk
  refine Kr.seqR (by rfl) (fun K hK => ?_)
  go_simp
  clear hk
  obtain ⟨y20, hy⟩ : ∃ y, y19.setCell ⟨bu, 0, none⟩ (.slice p17 n17 c17) = y := ⟨_, rfl⟩
  rw [hy]
  replace H := H.store 1 hy rfl rfl
  dsimp only [List.set] at H
  clear hy
  (refine Kr.outS hK (a' := ?_) ?_ ?_; rotate_left; (focus ((try simp only [Act.put, List.setIfInBounds_toArray, List.set_cons_zero, List.set_cons_succ]); first | done | rfl))); clear hK K
  have hk := H.c
  simp only [Kr.Cells] at hk
  refine Kr.seqR (by rfl) (fun K hK => ?_)
  go_simp
  clear hk
  obtain ⟨y21, hy⟩ : ∃ y, y20.setCell ⟨bx, 0, none⟩ (.slice q17 m17 d17) = y := ⟨_, rfl⟩
  rw [hy]
  replace H := H.store 0 hy rfl rfl
  dsimp only [List.set] at H
  clear hy
  (refine Kr.outS hK (a' := ?_) ?_ ?_; rotate_left; (focus ((try simp only [Act.put, List.setIfInBounds_toArray, List.set_cons_zero, List.set_cons_succ]); first | done | rfl))); clear hK K
  (refine Kr.seqQ (v := ?_) (a' := ?_) (by rfl) ?_ ?_ ?_; rotate_left 2; (focus (go_simp; first | done | rfl)); (focus ((try simp only [Act.put, List.setIfInBounds_toArray, List.set_cons_zero, List.set_cons_succ]); first | done | rfl)))
  refine Kr.seqDoneW ?_
  go_upto_region 8 with fail
  refine Kr.seqStartW ?_
  have hk := H.c
  simp only [Kr.Cells] at hk
  iterate 2 (refine Kr.seqQ (v := ?_) (a' := ?_) (by rfl) ?_ ?_ ?_; rotate_left 2; (focus (go_simp; first | done | rfl)); (focus ((try simp only [Act.put, List.setIfInBounds_toArray, List.set_cons_zero, List.set_cons_succ]); first | done | rfl)))
  refine Kr.seqR (by rfl) (fun K hK => ?_)
  go_simp
  go_at_call 45
  refine (Div_v P0.out (H.nw 6 rfl) (H.nw 5 rfl) VN.out (lt64 VP.out)).mono ?_
  rintro e y22 ⟨p22, q22, n22, c22, m22, d22, rfl, hr, hr2, hg⟩
  clear hk
  replace H := H.grow hg
  replace H := H.num hr.toNw
  replace H := H.num hr2.toNw
  clear hr hr2 hg
  (refine Kr.outS hK (a' := ?_) ?_ ?_; rotate_left; (focus ((try simp only [Act.put, List.setIfInBounds_toArray, List.set_cons_zero, List.set_cons_succ]); first | done | rfl))); clear hK K
  iterate 4 (refine Kr.seqQ (v := ?_) (a' := ?_) (by rfl) ?_ ?_ ?_; rotate_left 2; (focus (go_simp; first | done | rfl)); (focus ((try simp only [Act.put, List.setIfInBounds_toArray, List.set_cons_zero, List.set_cons_succ]); first | done | rfl)))
  refine Kr.seqR (by rfl) (fun K hK => ?_)
  go_simp
  obtain ⟨y23, hy⟩ : ∃ y, y22.alloc (.cells #[.slice none 0 0] 24) = y := ⟨_, rfl⟩
  obtain ⟨bv, hb⟩ : ∃ b, y22.heap.size = b := ⟨_, rfl⟩
  rw [hy, hb]
  replace H := H.alloc hy hb rfl
  clear hy hb
  (refine Kr.outS hK (a' := ?_) ?_ ?_; rotate_left; (focus ((try simp only [Act.put, List.setIfInBounds_toArray, List.set_cons_zero, List.set_cons_succ]); first | done | rfl))); clear hK K
  refine Kr.seqR (by rfl) (fun K hK => ?_)
  go_simp
  obtain ⟨y24, hy⟩ : ∃ y, y23.alloc (.cells #[.slice none 0 0] 24) = y := ⟨_, rfl⟩
  obtain ⟨ba, hb⟩ : ∃ b, y23.heap.size = b := ⟨_, rfl⟩
  rw [hy, hb]
  replace H := H.alloc hy hb rfl
  clear hy hb
  (refine Kr.outS hK (a' := ?_) ?_ ?_; rotate_left; (focus ((try simp only [Act.put, List.setIfInBounds_toArray, List.set_cons_zero, List.set_cons_succ]); first | done | rfl))); clear hK K
  have hk := H.c
  simp only [Kr.Cells] at hk
  refine Kr.seqR (by rfl) (fun K hK => ?_)
  go_simp
  clear hk
  obtain ⟨y25, hy⟩ : ∃ y, y24.setCell ⟨bv, 0, none⟩ (.slice p22 n22 c22) = y := ⟨_, rfl⟩
  rw [hy]
  replace H := H.store 1 hy rfl rfl
  dsimp only [List.set] at H
  clear hy
  (refine Kr.outS hK (a' := ?_) ?_ ?_; rotate_left; (focus ((try simp only [Act.put, List.setIfInBounds_toArray, List.set_cons_zero, List.set_cons_succ]); first | done | rfl))); clear hK K
  have hk := H.c
  simp only [Kr.Cells] at hk
  refine Kr.seqR (by rfl) (fun K hK => ?_)
  go_simp
  clear hk
  obtain ⟨y26, hy⟩ : ∃ y, y25.setCell ⟨ba, 0, none⟩ (.slice q22 m22 d22) = y := ⟨_, rfl⟩
  rw [hy]
  replace H := H.store 0 hy rfl rfl
  dsimp only [List.set] at H
  clear hy
  (refine Kr.outS hK (a' := ?_) ?_ ?_; rotate_left; (focus ((try simp only [Act.put, List.setIfInBounds_toArray, List.set_cons_zero, List.set_cons_succ]); first | done | rfl))); clear hK K
  (refine Kr.seqQ (v := ?_) (a' := ?_) (by rfl) ?_ ?_ ?_; rotate_left 2; (focus (go_simp; first | done | rfl)); (focus ((try simp only [Act.put, List.setIfInBounds_toArray, List.set_cons_zero, List.set_cons_succ]); first | done | rfl)))
  refine Kr.seqDoneW ?_
  go_upto_region 9 with fail
  refine Kr.seqStartW ?_
  have hk := H.c
  simp only [Kr.Cells] at hk
  iterate 2 (refine Kr.seqQ (v := ?_) (a' := ?_) (by rfl) ?_ ?_ ?_; rotate_left 2; (focus (go_simp; first | done | rfl)); (focus ((try simp only [Act.put, List.setIfInBounds_toArray, List.set_cons_zero, List.set_cons_succ]); first | done | rfl)))
  refine Kr.seqR (by rfl) (fun K hK => ?_)
  go_simp
  go_at_call 45
  refine (Div_v Q0.out (H.nw 8 rfl) (H.nw 6 rfl) VN.out (lt64 VQ.out)).mono ?_
  rintro e y27 ⟨p27, q27, n27, c27, m27, d27, rfl, hr, hr2, hg⟩
  clear hk
  replace H := H.grow hg
  replace H := H.num hr.toNw
  replace H := H.num hr2.toNw
  clear hr hr2 hg
  (refine Kr.outS hK (a' := ?_) ?_ ?_; rotate_left; (focus ((try simp only [Act.put, List.setIfInBounds_toArray, List.set_cons_zero, List.set_cons_succ]); first | done | rfl))); clear hK K
  iterate 4 (refine Kr.seqQ (v := ?_) (a' := ?_) (by rfl) ?_ ?_ ?_; rotate_left 2; (focus (go_simp; first | done | rfl)); (focus ((try simp only [Act.put, List.setIfInBounds_toArray, List.set_cons_zero, List.set_cons_succ]); first | done | rfl)))
  refine Kr.seqR (by rfl) (fun K hK => ?_)
  go_simp
  obtain ⟨y28, hy⟩ : ∃ y, y27.alloc (.cells #[.slice none 0 0] 24) = y := ⟨_, rfl⟩
  obtain ⟨bt, hb⟩ : ∃ b, y27.heap.size = b := ⟨_, rfl⟩
  rw [hy, hb]
  replace H := H.alloc hy hb rfl
  clear hy hb
  (refine Kr.outS hK (a' := ?_) ?_ ?_; rotate_left; (focus ((try simp only [Act.put, List.setIfInBounds_toArray, List.set_cons_zero, List.set_cons_succ]); first | done | rfl))); clear hK K
  refine Kr.seqR (by rfl) (fun K hK => ?_)
  go_simp
  obtain ⟨y29, hy⟩ : ∃ y, y28.alloc (.cells #[.slice none 0 0] 24) = y := ⟨_, rfl⟩
  obtain ⟨bb, hb⟩ : ∃ b, y28.heap.size = b := ⟨_, rfl⟩
  rw [hy, hb]
  replace H := H.alloc hy hb rfl
  clear hy hb
  (refine Kr.outS hK (a' := ?_) ?_ ?_; rotate_left; (focus ((try simp only [Act.put, List.setIfInBounds_toArray, List.set_cons_zero, List.set_cons_succ]); first | done | rfl))); clear hK K
  have hk := H.c
  simp only [Kr.Cells] at hk
  refine Kr.seqR (by rfl) (fun K hK => ?_)
  go_simp
  clear hk
  obtain ⟨y30, hy⟩ : ∃ y, y29.setCell ⟨bt, 0, none⟩ (.slice p27 n27 c27) = y := ⟨_, rfl⟩
  rw [hy]
  replace H := H.store 1 hy rfl rfl
  dsimp only [List.set] at H
  clear hy
  (refine Kr.outS hK (a' := ?_) ?_ ?_; rotate_left; (focus ((try simp only [Act.put, List.setIfInBounds_toArray, List.set_cons_zero, List.set_cons_succ]); first | done | rfl))); clear hK K
  have hk := H.c
  simp only [Kr.Cells] at hk
  refine Kr.seqR (by rfl) (fun K hK => ?_)
  go_simp
  clear hk
  obtain ⟨y31, hy⟩ : ∃ y, y30.setCell ⟨bb, 0, none⟩ (.slice q27 m27 d27) = y := ⟨_, rfl⟩
  rw [hy]
  replace H := H.store 0 hy rfl rfl
  dsimp only [List.set] at H
  clear hy
  (refine Kr.outS hK (a' := ?_) ?_ ?_; rotate_left; (focus ((try simp only [Act.put, List.setIfInBounds_toArray, List.set_cons_zero, List.set_cons_succ]); first | done | rfl))); clear hK K
  (refine Kr.seqQ (v := ?_) (a' := ?_) (by rfl) ?_ ?_ ?_; rotate_left 2; (focus (go_simp; first | done | rfl)); (focus ((try simp only [Act.put, List.setIfInBounds_toArray, List.set_cons_zero, List.set_cons_succ]); first | done | rfl)))
  refine Kr.seqDoneW ?_
  go_upto_region 10 with fail
  refine Kr.seqStartW ?_
  iterate 10 (refine Kr.seqQ (v := ?_) (a' := ?_) (by rfl) ?_ ?_ ?_; rotate_left 2; (focus (go_simp; first | done | rfl)); (focus ((try simp only [Act.put, List.setIfInBounds_toArray, List.set_cons_zero, List.set_cons_succ]); first | done | rfl)))
  refine Kr.seqDoneW ?_
  go_upto_region 12 with fail
  refine Kr.seqStartW ?_
  have hk := H.c
  simp only [Kr.Cells] at hk
  iterate 4 (refine Kr.seqQ (v := ?_) (a' := ?_) (by rfl) ?_ ?_ ?_; rotate_left 2; (focus (go_simp; first | done | rfl)); (focus ((try simp only [Act.put, List.setIfInBounds_toArray, List.set_cons_zero, List.set_cons_succ]); first | done | rfl)))
  refine Kr.seqR (by rfl) (fun K hK => ?_)
  go_simp
  go_at_call 35
  refine (mCrt_ok (H.nw 2 rfl) (H.nw 9 rfl) (H.nw 0 rfl) (H.nw 8 rfl) (Nat.mod_lt _ P0.out) (Nat.mod_lt _ Q0.out) VP.out VQ.out HG2.out HPQ.out).mono ?_
  rintro e y32 ⟨z1, hI, pi, ni, ci, rfl, hr, hg⟩
  rw [crt_eq P0.out Q0.out HG1.out hI] at hr
  clear hk
  replace H := H.grow hg
  replace H := H.num hr
  clear hr hg hI
  (refine Kr.outS hK (a' := ?_) ?_ ?_; rotate_left; (focus ((try simp only [Act.put, List.setIfInBounds_toArray, List.set_cons_zero, List.set_cons_succ]); first | done | rfl))); clear hK K
  iterate 3 (refine Kr.seqQ (v := ?_) (a' := ?_) (by rfl) ?_ ?_ ?_; rotate_left 2; (focus (go_simp; first | done | rfl)); (focus ((try simp only [Act.put, List.setIfInBounds_toArray, List.set_cons_zero, List.set_cons_succ]); first | done | rfl)))
  refine Kr.seqR (by rfl) (fun K hK => ?_)
  go_simp
  obtain ⟨y33, hy⟩ : ∃ y, y32.alloc (.cells #[.slice none 0 0] 24) = y := ⟨_, rfl⟩
  obtain ⟨bz, hb⟩ : ∃ b, y32.heap.size = b := ⟨_, rfl⟩
  rw [hy, hb]
  replace H := H.alloc hy hb rfl
  clear hy hb
  (refine Kr.outS hK (a' := ?_) ?_ ?_; rotate_left; (focus ((try simp only [Act.put, List.setIfInBounds_toArray, List.set_cons_zero, List.set_cons_succ]); first | done | rfl))); clear hK K
  have hk := H.c
  simp only [Kr.Cells] at hk
  refine Kr.seqR (by rfl) (fun K hK => ?_)
  go_simp
  clear hk
  obtain ⟨y34, hy⟩ : ∃ y, y33.setCell ⟨bz, 0, none⟩ (.slice pi ni ci) = y := ⟨_, rfl⟩
  rw [hy]
  replace H := H.store 0 hy rfl rfl
  dsimp only [List.set] at H
  clear hy
  (refine Kr.outS hK (a' := ?_) ?_ ?_; rotate_left; (focus ((try simp only [Act.put, List.setIfInBounds_toArray, List.set_cons_zero, List.set_cons_succ]); first | done | rfl))); clear hK K
  (refine Kr.seqQ (v := ?_) (a' := ?_) (by rfl) ?_ ?_ ?_; rotate_left 2; (focus (go_simp; first | done | rfl)); (focus ((try simp only [Act.put, List.setIfInBounds_toArray, List.set_cons_zero, List.set_cons_succ]); first | done | rfl)))
  refine Kr.seqDoneW ?_
  go_upto_region 13 with fail
  refine Kr.seqStartW ?_
  (refine Kr.seqQ (v := ?_) (a' := ?_) (by rfl) ?_ ?_ ?_; rotate_left 2; (focus (go_simp; first | done | rfl)); (focus ((try simp only [Act.put, List.setIfInBounds_toArray, List.set_cons_zero, List.set_cons_succ]); first | done | rfl)))
  have hk := H.c
  simp only [Kr.Cells] at hk
  (refine Kr.seqQ (v := ?_) (a' := ?_) (by rfl) ?_ ?_ ?_; rotate_left 2; (focus (go_simp; first | done | rfl)); (focus ((try simp only [Act.put, List.setIfInBounds_toArray, List.set_cons_zero, List.set_cons_succ]); first | done | rfl)))
  refine Kr.seqR (by rfl) (fun K hK => ?_)
  go_simp
  clear hk
  obtain ⟨y35, hy⟩ : ∃ y, y34.alloc (.cells #[.int .u32 1] 50) = y := ⟨_, rfl⟩
  obtain ⟨by35, hb⟩ : ∃ b, y34.heap.size = b := ⟨_, rfl⟩
  rw [hy, hb]
  have hr : Nw y35 (some ⟨by35, 0, none⟩) 1 1 (digs 1) := lit_mk ex_1 hy hb
  have hg : Gr y34 y35 := hy ▸ (Gr.refl _).alloc _
  replace H := H.grow hg
  replace H := H.num hr
  clear hr hg hy hb
  (refine Kr.outS hK (a' := ?_) ?_ ?_; rotate_left; (focus ((try simp only [Act.put, List.setIfInBounds_toArray, List.set_cons_zero, List.set_cons_succ]); first | done | rfl))); clear hK K
  refine Kr.seqR (by rfl) (fun K hK => ?_)
  go_simp
  go_at_call 46
  refine (equal_d (H.nw 9 rfl) (H.nw 0 rfl)).mono ?_
  rintro e y36 ⟨rfl, hg⟩
  rw [decide_eq_true HG1.out]
  replace H := H.grow hg
  clear hg
  (refine Kr.outS hK (a' := ?_) ?_ ?_; rotate_left; (focus ((try simp only [Act.put, List.setIfInBounds_toArray, List.set_cons_zero, List.set_cons_succ]); first | done | rfl))); clear hK K
  (refine Kr.seqQ (v := ?_) (a' := ?_) (by rfl) ?_ ?_ ?_; rotate_left 2; (focus (go_simp; first | done | rfl)); (focus ((try simp only [Act.put, List.setIfInBounds_toArray, List.set_cons_zero, List.set_cons_succ]); first | done | rfl)))
  refine Kr.seqDoneW ?_
  go_upto_region 15 with fail
  refine Kr.seqStartW ?_
  iterate 3 (refine Kr.seqQ (v := ?_) (a' := ?_) (by rfl) ?_ ?_ ?_; rotate_left 2; (focus (go_simp; first | done | rfl)); (focus ((try simp only [Act.put, List.setIfInBounds_toArray, List.set_cons_zero, List.set_cons_succ]); first | done | rfl)))
  have hk := H.c
  simp only [Kr.Cells] at hk
  iterate 2 (refine Kr.seqQ (v := ?_) (a' := ?_) (by rfl) ?_ ?_ ?_; rotate_left 2; (focus (go_simp; first | done | rfl)); (focus ((try simp only [Act.put, List.setIfInBounds_toArray, List.set_cons_zero, List.set_cons_succ]); first | done | rfl)))
  refine Kr.seqR (by rfl) (fun K hK => ?_)
  go_simp
  go_at_call 23
  refine (same3_v (H.nw 6 rfl) (H.nw 1 rfl)).mono ?_
  rintro e y37 ⟨rfl, hg⟩
  rw [decide_eq_true rfl]
  clear hk
  replace H := H.grow hg
  clear hg
  (refine Kr.outS hK (a' := ?_) ?_ ?_; rotate_left; (focus ((try simp only [Act.put, List.setIfInBounds_toArray, List.set_cons_zero, List.set_cons_succ]); first | done | rfl))); clear hK K
  iterate 2 (refine Kr.seqQ (v := ?_) (a' := ?_) (by rfl) ?_ ?_ ?_; rotate_left 2; (focus (go_simp; first | done | rfl)); (focus ((try simp only [Act.put, List.setIfInBounds_toArray, List.set_cons_zero, List.set_cons_succ]); first | done | rfl)))
  refine Kr.seqDoneW ?_
  go_wp2
  go_ret
  exact ⟨rfl, H.g⟩
set_option linter.unusedSimpArgs false in
set_option maxRecDepth 100000 in
set_option maxHeartbeats 16000000 in
theorem rem_no {pn : Option Addr} {nn cn : Nat} {pp : Option Addr} {np cp : Nat} {pq : Option Addr} {nq cq : Nat} {n p q : Nat} {w : World} (hs : ∀ x ∈ [(pn, nn, cn), (pp, np, cp), (pq, nq, cq)], x.2.1 ≤ 14) (hn : Nw w pn nn cn (digs n)) (hp : Nw w pp np cp (digs p)) (hq : Nw w pq nq cq (digs q)) (vn : n < pw 64) (p0 : 0 < p) (vp : p < pw 32) (q0 : 0 < q) (vq : q < pw 32) (hpq : p * q < pw 32) (hg1 : Nat.gcd p q ≠ 1) :
    Calls Try.prog 10 #[.agg #[.slice pn nn cn], .agg #[.slice pp np cp], .agg #[.slice pq nq cq]] w fun e w' => e = .returned (.bool true) ∧ Gr w w' := by
  have HS := Lib.hid hs
  have VN := Lib.hid vn
  have P0 := Lib.hid p0
  have VP := Lib.hid vp
  have Q0 := Lib.hid q0
  have VQ := Lib.hid vq
  have HPQ := Lib.hid hpq
  have HG1 := Lib.hid hg1
  clear hs vn p0 vp q0 vq hpq hg1
  have PQ0 := Lib.hid (Nat.mul_pos P0.out Q0.out)
  have HG2 : Hid (Nat.gcd (p % q) q ≠ 1) := Lib.hid (by rw [← Nat.gcd_rec q p, Nat.gcd_comm]; exact HG1.out)
  have H := Sta.start w
  replace H := H.num hn
  replace H := H.num hp
  replace H := H.num hq
  go_enter Try.func10, Try.ntmps10
  go_upto_region 0 with fail
  refine Kr.seqStartW ?_
  refine Kr.seqR (by rfl) (fun K hK => ?_)
  go_simp
  obtain ⟨y1, hy⟩ : ∃ y, w.alloc (.cells #[.slice pn nn cn] 24) = y := ⟨_, rfl⟩
  obtain ⟨bn, hb⟩ : ∃ b, w.heap.size = b := ⟨_, rfl⟩
  rw [hy, hb]
  replace H := H.alloc hy hb rfl
  clear hy hb
  (refine Kr.outS hK (a' := ?_) ?_ ?_; rotate_left; (focus ((try simp only [Act.put, List.setIfInBounds_toArray, List.set_cons_zero, List.set_cons_succ]); first | done | rfl))); clear hK K
  refine Kr.seqR (by rfl) (fun K hK => ?_)
  go_simp
  obtain ⟨y2, hy⟩ : ∃ y, y1.alloc (.cells #[.slice pp np cp] 24) = y := ⟨_, rfl⟩
  obtain ⟨bp, hb⟩ : ∃ b, y1.heap.size = b := ⟨_, rfl⟩
  rw [hy, hb]
  replace H := H.alloc hy hb rfl
  clear hy hb
  (refine Kr.outS hK (a' := ?_) ?_ ?_; rotate_left; (focus ((try simp only [Act.put, List.setIfInBounds_toArray, List.set_cons_zero, List.set_cons_succ]); first | done | rfl))); clear hK K
  refine Kr.seqR (by rfl) (fun K hK => ?_)
  go_simp
  obtain ⟨y3, hy⟩ : ∃ y, y2.alloc (.cells #[.slice pq nq cq] 24) = y := ⟨_, rfl⟩
  obtain ⟨bq, hb⟩ : ∃ b, y2.heap.size = b := ⟨_, rfl⟩
  rw [hy, hb]
  replace H := H.alloc hy hb rfl
  clear hy hb
  (refine Kr.outS hK (a' := ?_) ?_ ?_; rotate_left; (focus ((try simp only [Act.put, List.setIfInBounds_toArray, List.set_cons_zero, List.set_cons_succ]); first | done | rfl))); clear hK K
  (refine Kr.seqQ (v := ?_) (a' := ?_) (by rfl) ?_ ?_ ?_; rotate_left 2; (focus (go_simp; first | done | rfl)); (focus ((try simp only [Act.put, List.setIfInBounds_toArray, List.set_cons_zero, List.set_cons_succ]); first | done | rfl)))
  refine Kr.seqDoneW ?_
  go_upto_region 1 with fail
  refine Kr.seqStartW ?_
  refine Kr.seqR (by rfl) (fun K hK => ?_)
  go_simp
  go_at_call 18
  refine (awake3 _).mono ?_
  rintro e y4 ⟨rfl, hg⟩
  replace H := H.grow hg
  clear hg
  (refine Kr.outS hK (a' := ?_) ?_ ?_; rotate_left; (focus ((try simp only [Act.put, List.setIfInBounds_toArray, List.set_cons_zero, List.set_cons_succ]); first | done | rfl))); clear hK K
  iterate 2 (refine Kr.seqQ (v := ?_) (a' := ?_) (by rfl) ?_ ?_ ?_; rotate_left 2; (focus (go_simp; first | done | rfl)); (focus ((try simp only [Act.put, List.setIfInBounds_toArray, List.set_cons_zero, List.set_cons_succ]); first | done | rfl)))
  have hk := H.c
  simp only [Kr.Cells] at hk
  iterate 3 (refine Kr.seqQ (v := ?_) (a' := ?_) (by rfl) ?_ ?_ ?_; rotate_left 2; (focus (go_simp; first | done | rfl)); (focus ((try simp only [Act.put, List.setIfInBounds_toArray, List.set_cons_zero, List.set_cons_succ]); first | done | rfl)))
  refine Kr.seqR (by rfl) (fun K hK => ?_)
  go_simp
  clear hk
  obtain ⟨y5, hy⟩ : ∃ y, y4.alloc (.cells #[.slice pn nn cn, .slice pp np cp, .slice pq nq cq] 24) = y := ⟨_, rfl⟩
  obtain ⟨by5, hb⟩ : ∃ b, y4.heap.size = b := ⟨_, rfl⟩
  rw [hy, hb]
  have HN : Nats y5 by5 0 [(pn, nn, cn), (pp, np, cp), (pq, nq, cq)] := nats_mk hy hb
  have hg : Gr y4 y5 := hy ▸ (Gr.refl _).alloc _
  replace H := H.grow hg
  clear hg hy hb
  (refine Kr.outS hK (a' := ?_) ?_ ?_; rotate_left; (focus ((try simp only [Act.put, List.setIfInBounds_toArray, List.set_cons_zero, List.set_cons_succ]); first | done | rfl))); clear hK K
  refine Kr.seqR (by rfl) (fun K hK => ?_)
  go_simp
  go_at_call 19
  refine (few_ok HN (by simp) HS.out).mono ?_
  rintro e y6 ⟨rfl, hg⟩
  replace H := H.grow hg
  clear hg
  clear HN
  (refine Kr.outS hK (a' := ?_) ?_ ?_; rotate_left; (focus ((try simp only [Act.put, List.setIfInBounds_toArray, List.set_cons_zero, List.set_cons_succ]); first | done | rfl))); clear hK K
  iterate 3 (refine Kr.seqQ (v := ?_) (a' := ?_) (by rfl) ?_ ?_ ?_; rotate_left 2; (focus (go_simp; first | done | rfl)); (focus ((try simp only [Act.put, List.setIfInBounds_toArray, List.set_cons_zero, List.set_cons_succ]); first | done | rfl)))
  have hk := H.c
  simp only [Kr.Cells] at hk
  (refine Kr.seqQ (v := ?_) (a' := ?_) (by rfl) ?_ ?_ ?_; rotate_left 2; (focus (go_simp; first | done | rfl)); (focus ((try simp only [Act.put, List.setIfInBounds_toArray, List.set_cons_zero, List.set_cons_succ]); first | done | rfl)))
  refine Kr.seqR (by rfl) (fun K hK => ?_)
  go_simp
  go_at_call 29
  refine (valid3_any _ _ _ _ _ (H.nw 2 rfl)).mono ?_
  rintro e y7 ⟨rfl, hg⟩
  rw [dv VN.out]
  clear hk
  replace H := H.grow hg
  clear hg
  (refine Kr.outS hK (a' := ?_) ?_ ?_; rotate_left; (focus ((try simp only [Act.put, List.setIfInBounds_toArray, List.set_cons_zero, List.set_cons_succ]); first | done | rfl))); clear hK K
  iterate 3 (refine Kr.seqQ (v := ?_) (a' := ?_) (by rfl) ?_ ?_ ?_; rotate_left 2; (focus (go_simp; first | done | rfl)); (focus ((try simp only [Act.put, List.setIfInBounds_toArray, List.set_cons_zero, List.set_cons_succ]); first | done | rfl)))
  have hk := H.c
  simp only [Kr.Cells] at hk
  (refine Kr.seqQ (v := ?_) (a' := ?_) (by rfl) ?_ ?_ ?_; rotate_left 2; (focus (go_simp; first | done | rfl)); (focus ((try simp only [Act.put, List.setIfInBounds_toArray, List.set_cons_zero, List.set_cons_succ]); first | done | rfl)))
  refine Kr.seqR (by rfl) (fun K hK => ?_)
  go_simp
  go_at_call 22
  refine (first_nil (H.nw 1 rfl)).mono ?_
  rintro e y8 ⟨rfl, hg⟩
  rw [im_digs P0.out VP.out, if_pos rfl]
  clear hk
  replace H := H.grow hg
  clear hg
  (refine Kr.outS hK (a' := ?_) ?_ ?_; rotate_left; (focus ((try simp only [Act.put, List.setIfInBounds_toArray, List.set_cons_zero, List.set_cons_succ]); first | done | rfl))); clear hK K
  iterate 3 (refine Kr.seqQ (v := ?_) (a' := ?_) (by rfl) ?_ ?_ ?_; rotate_left 2; (focus (go_simp; first | done | rfl)); (focus ((try simp only [Act.put, List.setIfInBounds_toArray, List.set_cons_zero, List.set_cons_succ]); first | done | rfl)))
  have hk := H.c
  simp only [Kr.Cells] at hk
  (refine Kr.seqQ (v := ?_) (a' := ?_) (by rfl) ?_ ?_ ?_; rotate_left 2; (focus (go_simp; first | done | rfl)); (focus ((try simp only [Act.put, List.setIfInBounds_toArray, List.set_cons_zero, List.set_cons_succ]); first | done | rfl)))
  refine Kr.seqR (by rfl) (fun K hK => ?_)
  go_simp
  go_at_call 22
  refine (first_nil (H.nw 0 rfl)).mono ?_
  rintro e y9 ⟨rfl, hg⟩
  rw [im_digs Q0.out VQ.out, if_pos rfl]
  clear hk
  replace H := H.grow hg
  clear hg
  (refine Kr.outS hK (a' := ?_) ?_ ?_; rotate_left; (focus ((try simp only [Act.put, List.setIfInBounds_toArray, List.set_cons_zero, List.set_cons_succ]); first | done | rfl))); clear hK K
  iterate 2 (refine Kr.seqQ (v := ?_) (a' := ?_) (by rfl) ?_ ?_ ?_; rotate_left 2; (focus (go_simp; first | done | rfl)); (focus ((try simp only [Act.put, List.setIfInBounds_toArray, List.set_cons_zero, List.set_cons_succ]); first | done | rfl)))
  refine Kr.seqDoneW ?_
  go_upto_region 3 with fail
  refine Kr.seqStartW ?_
  have hk := H.c
  simp only [Kr.Cells] at hk
  iterate 2 (refine Kr.seqQ (v := ?_) (a' := ?_) (by rfl) ?_ ?_ ?_; rotate_left 2; (focus (go_simp; first | done | rfl)); (focus ((try simp only [Act.put, List.setIfInBounds_toArray, List.set_cons_zero, List.set_cons_succ]); first | done | rfl)))
  refine Kr.seqR (by rfl) (fun K hK => ?_)
  go_simp
  go_at_call 31
  refine (mGcd_ok (H.nw 1 rfl) (H.nw 0 rfl) (lt64 VP.out) (lt64 VQ.out)).mono ?_
  rintro e y10 ⟨p10, n10, c10, rfl, hr, hg⟩
  clear hk
  replace H := H.grow hg
  replace H := H.num hr.toNw
  clear hr hg
  (refine Kr.outS hK (a' := ?_) ?_ ?_; rotate_left; (focus ((try simp only [Act.put, List.setIfInBounds_toArray, List.set_cons_zero, List.set_cons_succ]); first | done | rfl))); clear hK K
  iterate 3 (refine Kr.seqQ (v := ?_) (a' := ?_) (by rfl) ?_ ?_ ?_; rotate_left 2; (focus (go_simp; first | done | rfl)); (focus ((try simp only [Act.put, List.setIfInBounds_toArray, List.set_cons_zero, List.set_cons_succ]); first | done | rfl)))
  refine Kr.seqR (by rfl) (fun K hK => ?_)
  go_simp
  obtain ⟨y11, hy⟩ : ∃ y, y10.alloc (.cells #[.slice none 0 0] 24) = y := ⟨_, rfl⟩
  obtain ⟨bd, hb⟩ : ∃ b, y10.heap.size = b := ⟨_, rfl⟩
  rw [hy, hb]
  replace H := H.alloc hy hb rfl
  clear hy hb
  (refine Kr.outS hK (a' := ?_) ?_ ?_; rotate_left; (focus ((try simp only [Act.put, List.setIfInBounds_toArray, List.set_cons_zero, List.set_cons_succ]); first | done | rfl))); clear hK K
  have hk := H.c
  simp only [Kr.Cells] at hk
  refine Kr.seqR (by rfl) (fun K hK => ?_)
  go_simp
  clear hk
  obtain ⟨y12, hy⟩ : ∃ y, y11.setCell ⟨bd, 0, none⟩ (.slice p10 n10 c10) = y := ⟨_, rfl⟩
  rw [hy]
  replace H := H.store 0 hy rfl rfl
  dsimp only [List.set] at H
  clear hy
  (refine Kr.outS hK (a' := ?_) ?_ ?_; rotate_left; (focus ((try simp only [Act.put, List.setIfInBounds_toArray, List.set_cons_zero, List.set_cons_succ]); first | done | rfl))); clear hK K
  (refine Kr.seqQ (v := ?_) (a' := ?_) (by rfl) ?_ ?_ ?_; rotate_left 2; (focus (go_simp; first | done | rfl)); (focus ((try simp only [Act.put, List.setIfInBounds_toArray, List.set_cons_zero, List.set_cons_succ]); first | done | rfl)))
  refine Kr.seqDoneW ?_
  go_upto_region 4 with fail
  refine Kr.seqStartW ?_
  have hk := H.c
  simp only [Kr.Cells] at hk
  iterate 2 (refine Kr.seqQ (v := ?_) (a' := ?_) (by rfl) ?_ ?_ ?_; rotate_left 2; (focus (go_simp; first | done | rfl)); (focus ((try simp only [Act.put, List.setIfInBounds_toArray, List.set_cons_zero, List.set_cons_succ]); first | done | rfl)))
  refine Kr.seqR (by rfl) (fun K hK => ?_)
  go_simp
  go_at_call 48
  refine (Mul_v _ 0 (.inl ⟨lt64 HPQ.out, rfl, rfl⟩) (H.nw 2 rfl) (H.nw 1 rfl) (lt64 VP.out) (lt64 VQ.out)).mono ?_
  rintro e y13 ⟨p13, n13, c13, rfl, hr, hg⟩
  clear hk
  replace H := H.grow hg
  replace H := H.num hr.toNw
  clear hr hg
  have hnz : ¬ (n13 : Int) = 0 := fun e => by have h := (H.nw 0 rfl).len; rw [show n13 = 0 by omega] at h; have h2 := val_digs (p * q); rw [List.eq_nil_of_length_eq_zero h] at h2; have h3 := PQ0.out; have h4 : val [] = 0 := rfl; omega
  have hnz2 : ((n13 : Int) == 0) = false := by simpa using hnz
  (refine Kr.outS hK (a' := ?_) ?_ ?_; rotate_left; (focus ((try simp only [Act.put, List.setIfInBounds_toArray, List.set_cons_zero, List.set_cons_succ]); first | done | rfl))); clear hK K
  iterate 3 (refine Kr.seqQ (v := ?_) (a' := ?_) (by rfl) ?_ ?_ ?_; rotate_left 2; (focus (go_simp; first | done | rfl)); (focus ((try simp only [Act.put, List.setIfInBounds_toArray, List.set_cons_zero, List.set_cons_succ]); first | done | rfl)))
  refine Kr.seqR (by rfl) (fun K hK => ?_)
  go_simp
  obtain ⟨y14, hy⟩ : ∃ y, y13.alloc (.cells #[.slice none 0 0] 24) = y := ⟨_, rfl⟩
  obtain ⟨bm, hb⟩ : ∃ b, y13.heap.size = b := ⟨_, rfl⟩
  rw [hy, hb]
  replace H := H.alloc hy hb rfl
  clear hy hb
  (refine Kr.outS hK (a' := ?_) ?_ ?_; rotate_left; (focus ((try simp only [Act.put, List.setIfInBounds_toArray, List.set_cons_zero, List.set_cons_succ]); first | done | rfl))); clear hK K
  have hk := H.c
  simp only [Kr.Cells] at hk
  refine Kr.seqR (by rfl) (fun K hK => ?_)
  go_simp
  clear hk
  obtain ⟨y15, hy⟩ : ∃ y, y14.setCell ⟨bm, 0, none⟩ (.slice p13 n13 c13) = y := ⟨_, rfl⟩
  rw [hy]
  replace H := H.store 0 hy rfl rfl
  dsimp only [List.set] at H
  clear hy
  (refine Kr.outS hK (a' := ?_) ?_ ?_; rotate_left; (focus ((try simp only [Act.put, List.setIfInBounds_toArray, List.set_cons_zero, List.set_cons_succ]); first | done | rfl))); clear hK K
  (refine Kr.seqQ (v := ?_) (a' := ?_) (by rfl) ?_ ?_ ?_; rotate_left 2; (focus (go_simp; first | done | rfl)); (focus ((try simp only [Act.put, List.setIfInBounds_toArray, List.set_cons_zero, List.set_cons_succ]); first | done | rfl)))
  refine Kr.seqDoneW ?_
  go_upto_region 5 with fail
  refine Kr.seqStartW ?_
  iterate 7 (refine Kr.seqQ (v := ?_) (a' := ?_) (by rfl) ?_ ?_ ?_; rotate_left 2; (focus (go_simp; first | done | rfl)); (focus ((try simp only [Act.put, List.setIfInBounds_toArray, List.set_cons_zero, List.set_cons_succ]); first | done | rfl)))
  have hk := H.c
  simp only [Kr.Cells] at hk
  (refine Kr.seqQ (v := ?_) (a' := ?_) (by rfl) ?_ ?_ ?_; rotate_left 2; (focus (go_simp; first | done | rfl)); (focus ((try simp only [Act.put, List.setIfInBounds_toArray, List.set_cons_zero, List.set_cons_succ]); first | done | rfl)))
  refine Kr.seqR (by rfl) (fun K hK => ?_)
  go_simp
  go_at_call 29
  refine (valid3_any _ _ _ _ _ (H.nw 0 rfl)).mono ?_
  rintro e y16 ⟨rfl, hg⟩
  rw [dv (lt64 HPQ.out)]
  clear hk
  replace H := H.grow hg
  clear hg
  (refine Kr.outS hK (a' := ?_) ?_ ?_; rotate_left; (focus ((try simp only [Act.put, List.setIfInBounds_toArray, List.set_cons_zero, List.set_cons_succ]); first | done | rfl))); clear hK K
  iterate 4 (refine Kr.seqQ (v := ?_) (a' := ?_) (by rfl) ?_ ?_ ?_; rotate_left 2; (focus (go_simp; first | done | rfl)); (focus ((try simp only [Act.put, List.setIfInBounds_toArray, List.set_cons_zero, List.set_cons_succ]); first | done | rfl)))
  have hk := H.c
  simp only [Kr.Cells] at hk
  iterate 4 (refine Kr.seqQ (v := ?_) (a' := ?_) (by rfl) ?_ ?_ ?_; rotate_left 2; (focus (go_simp; first | done | rfl)); (focus ((try simp only [Act.put, List.setIfInBounds_toArray, List.set_cons_zero, List.set_cons_succ]); first | done | rfl)))
  clear hk
  refine Kr.seqDoneW ?_
  clear hnz hnz2
  go_upto_region 7 with fail
  refine Kr.seqStartW ?_
  have hk := H.c
  simp only [Kr.Cells] at hk
  iterate 2 (refine Kr.seqQ (v := ?_) (a' := ?_) (by rfl) ?_ ?_ ?_; rotate_left 2; (focus (go_simp; first | done | rfl)); (focus ((try simp only [Act.put, List.setIfInBounds_toArray, List.set_cons_zero, List.set_cons_succ]); first | done | rfl)))
  refine Kr.seqR (by rfl) (fun K hK => ?_)
  go_simp
  go_at_call 45
  refine (Div_v PQ0.out (H.nw 4 rfl) (H.nw 0 rfl) VN.out (lt64 HPQ.out)).mono ?_
  rintro e y17 ⟨p17, q17, n17, c17, m17, d17, rfl, hr, hr2, hg⟩
  clear hk
  replace H := H.grow hg
  replace H := H.num hr.toNw
  replace H := H.num hr2.toNw
  clear hr hr2 hg
  (refine Kr.outS hK (a' := ?_) ?_ ?_; rotate_left; (focus ((try simp only [Act.put, List.setIfInBounds_toArray, List.set_cons_zero, List.set_cons_succ]); first | done | rfl))); clear hK K
  iterate 4 (refine Kr.seqQ (v := ?_) (a' := ?_) (by rfl) ?_ ?_ ?_; rotate_left 2; (focus (go_simp; first | done | rfl)); (focus ((try simp only [Act.put, List.setIfInBounds_toArray, List.set_cons_zero, List.set_cons_succ]); first | done | rfl)))
  refine Kr.seqR (by rfl) (fun K hK => ?_)
  go_simp
  obtain ⟨y18, hy⟩ : ∃ y, y17.alloc (.cells #[.slice none 0 0] 24) = y := ⟨_, rfl⟩
  obtain ⟨bu, hb⟩ : ∃ b, y17.heap.size = b := ⟨_, rfl⟩
  rw [hy, hb]
  replace H := H.alloc hy hb rfl
  clear hy hb
  (refine Kr.outS hK (a' := ?_) ?_ ?_; rotate_left; (focus ((try simp only [Act.put, List.setIfInBounds_toArray, List.set_cons_zero, List.set_cons_succ]); first | done | rfl))); clear hK K
  refine Kr.seqR (by rfl) (fun K hK => ?_)
  go_simp
  obtain ⟨y19, hy⟩ : ∃ y, y18.alloc (.cells #[.slice none 0 0] 24) = y := ⟨_, rfl⟩
  obtain ⟨bx, hb⟩ : ∃ b, y18.heap.size = b := ⟨_, rfl⟩
  rw [hy, hb]
  replace H := H.alloc hy hb rfl
  clear hy hb
  (refine Kr.outS hK (a' := ?_) ?_ ?_; rotate_left; (focus ((try simp only [Act.put, List.setIfInBounds_toArray, List.set_cons_zero, List.set_cons_succ]); first | done | rfl))); clear hK K
  have hk := H.c
  simp only [Kr.Cells] at hk
  refine Kr.seqR (by rfl) (fun K hK => ?_)
  go_simp
  clear hk
  obtain ⟨y20, hy⟩ : ∃ y, y19.setCell ⟨bu, 0, none⟩ (.slice p17 n17 c17) = y := ⟨_, rfl⟩
  rw [hy]
  replace H := H.store 1 hy rfl rfl
  dsimp only [List.set] at H
  clear hy
  (refine Kr.outS hK (a' := ?_) ?_ ?_; rotate_left; (focus ((try simp only [Act.put, List.setIfInBounds_toArray, List.set_cons_zero, List.set_cons_succ]); first | done | rfl))); clear hK K
  have hk := H.c
  simp only [Kr.Cells] at hk
  refine Kr.seqR (by rfl) (fun K hK => ?_)
  go_simp
  clear hk
  obtain ⟨y21, hy⟩ : ∃ y, y20.setCell ⟨bx, 0, none⟩ (.slice q17 m17 d17) = y := ⟨_, rfl⟩
  rw [hy]
  replace H := H.store 0 hy rfl rfl
  dsimp only [List.set] at H
  clear hy
  (refine Kr.outS hK (a' := ?_) ?_ ?_; rotate_left; (focus ((try simp only [Act.put, List.setIfInBounds_toArray, List.set_cons_zero, List.set_cons_succ]); first | done | rfl))); clear hK K
  (refine Kr.seqQ (v := ?_) (a' := ?_) (by rfl) ?_ ?_ ?_; rotate_left 2; (focus (go_simp; first | done | rfl)); (focus ((try simp only [Act.put, List.setIfInBounds_toArray, List.set_cons_zero, List.set_cons_succ]); first | done | rfl)))
  refine Kr.seqDoneW ?_
  go_upto_region 8 with fail
  refine Kr.seqStartW ?_
  have hk := H.c
  simp only [Kr.Cells] at hk
  iterate 2 (refine Kr.seqQ (v := ?_) (a' := ?_) (by rfl) ?_ ?_ ?_; rotate_left 2; (focus (go_simp; first | done | rfl)); (focus ((try simp only [Act.put, List.setIfInBounds_toArray, List.set_cons_zero, List.set_cons_succ]); first | done | rfl)))
  refine Kr.seqR (by rfl) (fun K hK => ?_)
  go_simp
  go_at_call 45
  refine (Div_v P0.out (H.nw 6 rfl) (H.nw 5 rfl) VN.out (lt64 VP.out)).mono ?_
  rintro e y22 ⟨p22, q22, n22, c22, m22, d22, rfl, hr, hr2, hg⟩
  clear hk
  replace H := H.grow hg
  replace H := H.num hr.toNw
  replace H := H.num hr2.toNw
  clear hr hr2 hg
  (refine Kr.outS hK (a' := ?_) ?_ ?_; rotate_left; (focus ((try simp only [Act.put, List.setIfInBounds_toArray, List.set_cons_zero, List.set_cons_succ]); first | done | rfl))); clear hK K
  iterate 4 (refine Kr.seqQ (v := ?_) (a' := ?_) (by rfl) ?_ ?_ ?_; rotate_left 2; (focus (go_simp; first | done | rfl)); (focus ((try simp only [Act.put, List.setIfInBounds_toArray, List.set_cons_zero, List.set_cons_succ]); first | done | rfl)))
  refine Kr.seqR (by rfl) (fun K hK => ?_)
  go_simp
  obtain ⟨y23, hy⟩ : ∃ y, y22.alloc (.cells #[.slice none 0 0] 24) = y := ⟨_, rfl⟩
  obtain ⟨bv, hb⟩ : ∃ b, y22.heap.size = b := ⟨_, rfl⟩
  rw [hy, hb]
  replace H := H.alloc hy hb rfl
  clear hy hb
  (refine Kr.outS hK (a' := ?_) ?_ ?_; rotate_left; (focus ((try simp only [Act.put, List.setIfInBounds_toArray, List.set_cons_zero, List.set_cons_succ]); first | done | rfl))); clear hK K
  refine Kr.seqR (by rfl) (fun K hK => ?_)
  go_simp
  obtain ⟨y24, hy⟩ : ∃ y, y23.alloc (.cells #[.slice none 0 0] 24) = y := ⟨_, rfl⟩
  obtain ⟨ba, hb⟩ : ∃ b, y23.heap.size = b := ⟨_, rfl⟩
  rw [hy, hb]
  replace H := H.alloc hy hb rfl
  clear hy hb
  (refine Kr.outS hK (a' := ?_) ?_ ?_; rotate_left; (focus ((try simp only [Act.put, List.setIfInBounds_toArray, List.set_cons_zero, List.set_cons_succ]); first | done | rfl))); clear hK K
  have hk := H.c
  simp only [Kr.Cells] at hk
  refine Kr.seqR (by rfl) (fun K hK => ?_)
  go_simp
  clear hk
  obtain ⟨y25, hy⟩ : ∃ y, y24.setCell ⟨bv, 0, none⟩ (.slice p22 n22 c22) = y := ⟨_, rfl⟩
  rw [hy]
  replace H := H.store 1 hy rfl rfl
  dsimp only [List.set] at H
  clear hy
  (refine Kr.outS hK (a' := ?_) ?_ ?_; rotate_left; (focus ((try simp only [Act.put, List.setIfInBounds_toArray, List.set_cons_zero, List.set_cons_succ]); first | done | rfl))); clear hK K
  have hk := H.c
  simp only [Kr.Cells] at hk
  refine Kr.seqR (by rfl) (fun K hK => ?_)
  go_simp
  clear hk
  obtain ⟨y26, hy⟩ : ∃ y, y25.setCell ⟨ba, 0, none⟩ (.slice q22 m22 d22) = y := ⟨_, rfl⟩
  rw [hy]
  replace H := H.store 0 hy rfl rfl
  dsimp only [List.set] at H
  clear hy
  (refine Kr.outS hK (a' := ?_) ?_ ?_; rotate_left; (focus ((try simp only [Act.put, List.setIfInBounds_toArray, List.set_cons_zero, List.set_cons_succ]); first | done | rfl))); clear hK K
  (refine Kr.seqQ (v := ?_) (a' := ?_) (by rfl) ?_ ?_ ?_; rotate_left 2; (focus (go_simp; first | done | rfl)); (focus ((try simp only [Act.put, List.setIfInBounds_toArray, List.set_cons_zero, List.set_cons_succ]); first | done | rfl)))
  refine Kr.seqDoneW ?_
  go_upto_region 9 with fail
  refine Kr.seqStartW ?_
  have hk := H.c
  simp only [Kr.Cells] at hk
  iterate 2 (refine Kr.seqQ (v := ?_) (a' := ?_) (by rfl) ?_ ?_ ?_; rotate_left 2; (focus (go_simp; first | done | rfl)); (focus ((try simp only [Act.put, List.setIfInBounds_toArray, List.set_cons_zero, List.set_cons_succ]); first | done | rfl)))
  refine Kr.seqR (by rfl) (fun K hK => ?_)
  go_simp
  go_at_call 45
  refine (Div_v Q0.out (H.nw 8 rfl) (H.nw 6 rfl) VN.out (lt64 VQ.out)).mono ?_
  rintro e y27 ⟨p27, q27, n27, c27, m27, d27, rfl, hr, hr2, hg⟩
  clear hk
  replace H := H.grow hg
  replace H := H.num hr.toNw
  replace H := H.num hr2.toNw
  clear hr hr2 hg
  (refine Kr.outS hK (a' := ?_) ?_ ?_; rotate_left; (focus ((try simp only [Act.put, List.setIfInBounds_toArray, List.set_cons_zero, List.set_cons_succ]); first | done | rfl))); clear hK K
  iterate 4 (refine Kr.seqQ (v := ?_) (a' := ?_) (by rfl) ?_ ?_ ?_; rotate_left 2; (focus (go_simp; first | done | rfl)); (focus ((try simp only [Act.put, List.setIfInBounds_toArray, List.set_cons_zero, List.set_cons_succ]); first | done | rfl)))
  refine Kr.seqR (by rfl) (fun K hK => ?_)
  go_simp
  obtain ⟨y28, hy⟩ : ∃ y, y27.alloc (.cells #[.slice none 0 0] 24) = y := ⟨_, rfl⟩
  obtain ⟨bt, hb⟩ : ∃ b, y27.heap.size = b := ⟨_, rfl⟩
  rw [hy, hb]
  replace H := H.alloc hy hb rfl
  clear hy hb
  (refine Kr.outS hK (a' := ?_) ?_ ?_; rotate_left; (focus ((try simp only [Act.put, List.setIfInBounds_toArray, List.set_cons_zero, List.set_cons_succ]); first | done | rfl))); clear hK K
  refine Kr.seqR (by rfl) (fun K hK => ?_)
  go_simp
  obtain ⟨y29, hy⟩ : ∃ y, y28.alloc (.cells #[.slice none 0 0] 24) = y := ⟨_, rfl⟩
  obtain ⟨bb, hb⟩ : ∃ b, y28.heap.size = b := ⟨_, rfl⟩
  rw [hy, hb]
  replace H := H.alloc hy hb rfl
  clear hy hb
  (refine Kr.outS hK (a' := ?_) ?_ ?_; rotate_left; (focus ((try simp only [Act.put, List.setIfInBounds_toArray, List.set_cons_zero, List.set_cons_succ]); first | done | rfl))); clear hK K
  have hk := H.c
  simp only [Kr.Cells] at hk
  refine Kr.seqR (by rfl) (fun K hK => ?_)
  go_simp
  clear hk
  obtain ⟨y30, hy⟩ : ∃ y, y29.setCell ⟨bt, 0, none⟩ (.slice p27 n27 c27) = y := ⟨_, rfl⟩
  rw [hy]
  replace H := H.store 1 hy rfl rfl
  dsimp only [List.set] at H
  clear hy
  (refine Kr.outS hK (a' := ?_) ?_ ?_; rotate_left; (focus ((try simp only [Act.put, List.setIfInBounds_toArray, List.set_cons_zero, List.set_cons_succ]); first | done | rfl))); clear hK K
  have hk := H.c
  simp only [Kr.Cells] at hk
  refine Kr.seqR (by rfl) (fun K hK => ?_)
  go_simp
  clear hk
  obtain ⟨y31, hy⟩ : ∃ y, y30.setCell ⟨bb, 0, none⟩ (.slice q27 m27 d27) = y := ⟨_, rfl⟩
  rw [hy]
  replace H := H.store 0 hy rfl rfl
  dsimp only [List.set] at H
  clear hy
  (refine Kr.outS hK (a' := ?_) ?_ ?_; rotate_left; (focus ((try simp only [Act.put, List.setIfInBounds_toArray, List.set_cons_zero, List.set_cons_succ]); first | done | rfl))); clear hK K
  (refine Kr.seqQ (v := ?_) (a' := ?_) (by rfl) ?_ ?_ ?_; rotate_left 2; (focus (go_simp; first | done | rfl)); (focus ((try simp only [Act.put, List.setIfInBounds_toArray, List.set_cons_zero, List.set_cons_succ]); first | done | rfl)))
  refine Kr.seqDoneW ?_
  go_upto_region 10 with fail
  refine Kr.seqStartW ?_
  iterate 10 (refine Kr.seqQ (v := ?_) (a' := ?_) (by rfl) ?_ ?_ ?_; rotate_left 2; (focus (go_simp; first | done | rfl)); (focus ((try simp only [Act.put, List.setIfInBounds_toArray, List.set_cons_zero, List.set_cons_succ]); first | done | rfl)))
  refine Kr.seqDoneW ?_
  go_upto_region 12 with fail
  refine Kr.seqStartW ?_
  have hk := H.c
  simp only [Kr.Cells] at hk
  iterate 4 (refine Kr.seqQ (v := ?_) (a' := ?_) (by rfl) ?_ ?_ ?_; rotate_left 2; (focus (go_simp; first | done | rfl)); (focus ((try simp only [Act.put, List.setIfInBounds_toArray, List.set_cons_zero, List.set_cons_succ]); first | done | rfl)))
  refine Kr.seqR (by rfl) (fun K hK => ?_)
  go_simp
  go_at_call 35
  refine (mCrt_no (H.nw 2 rfl) (H.nw 9 rfl) (H.nw 0 rfl) (H.nw 8 rfl) (Nat.mod_lt _ P0.out) (Nat.mod_lt _ Q0.out) VP.out VQ.out HG2.out).mono ?_
  rintro e y32 ⟨p32, n32, c32, rfl, hr, hg⟩
  obtain rfl : n32 = 0 := by rw [← hr.len, digs_zero]; rfl
  clear hk
  replace H := H.grow hg
  clear hr hg
  (refine Kr.outS hK (a' := ?_) ?_ ?_; rotate_left; (focus ((try simp only [Act.put, List.setIfInBounds_toArray, List.set_cons_zero, List.set_cons_succ]); first | done | rfl))); clear hK K
  iterate 3 (refine Kr.seqQ (v := ?_) (a' := ?_) (by rfl) ?_ ?_ ?_; rotate_left 2; (focus (go_simp; first | done | rfl)); (focus ((try simp only [Act.put, List.setIfInBounds_toArray, List.set_cons_zero, List.set_cons_succ]); first | done | rfl)))
  refine Kr.seqR (by rfl) (fun K hK => ?_)
  go_simp
  obtain ⟨y33, hy⟩ : ∃ y, y32.alloc (.cells #[.slice none 0 0] 24) = y := ⟨_, rfl⟩
  obtain ⟨bz, hb⟩ : ∃ b, y32.heap.size = b := ⟨_, rfl⟩
  rw [hy, hb]
  replace H := H.alloc hy hb rfl
  clear hy hb
  (refine Kr.outS hK (a' := ?_) ?_ ?_; rotate_left; (focus ((try simp only [Act.put, List.setIfInBounds_toArray, List.set_cons_zero, List.set_cons_succ]); first | done | rfl))); clear hK K
  have hk := H.c
  simp only [Kr.Cells] at hk
  refine Kr.seqR (by rfl) (fun K hK => ?_)
  go_simp
  clear hk
  obtain ⟨y34, hy⟩ : ∃ y, y33.setCell ⟨bz, 0, none⟩ (.slice p32 0 c32) = y := ⟨_, rfl⟩
  rw [hy]
  replace H := H.store 0 hy rfl rfl
  dsimp only [List.set] at H
  clear hy
  (refine Kr.outS hK (a' := ?_) ?_ ?_; rotate_left; (focus ((try simp only [Act.put, List.setIfInBounds_toArray, List.set_cons_zero, List.set_cons_succ]); first | done | rfl))); clear hK K
  (refine Kr.seqQ (v := ?_) (a' := ?_) (by rfl) ?_ ?_ ?_; rotate_left 2; (focus (go_simp; first | done | rfl)); (focus ((try simp only [Act.put, List.setIfInBounds_toArray, List.set_cons_zero, List.set_cons_succ]); first | done | rfl)))
  refine Kr.seqDoneW ?_
  go_upto_region 13 with fail
  refine Kr.seqStartW ?_
  (refine Kr.seqQ (v := ?_) (a' := ?_) (by rfl) ?_ ?_ ?_; rotate_left 2; (focus (go_simp; first | done | rfl)); (focus ((try simp only [Act.put, List.setIfInBounds_toArray, List.set_cons_zero, List.set_cons_succ]); first | done | rfl)))
  have hk := H.c
  simp only [Kr.Cells] at hk
  (refine Kr.seqQ (v := ?_) (a' := ?_) (by rfl) ?_ ?_ ?_; rotate_left 2; (focus (go_simp; first | done | rfl)); (focus ((try simp only [Act.put, List.setIfInBounds_toArray, List.set_cons_zero, List.set_cons_succ]); first | done | rfl)))
  refine Kr.seqR (by rfl) (fun K hK => ?_)
  go_simp
  clear hk
  obtain ⟨y35, hy⟩ : ∃ y, y34.alloc (.cells #[.int .u32 1] 50) = y := ⟨_, rfl⟩
  obtain ⟨by35, hb⟩ : ∃ b, y34.heap.size = b := ⟨_, rfl⟩
  rw [hy, hb]
  have hr : Nw y35 (some ⟨by35, 0, none⟩) 1 1 (digs 1) := lit_mk ex_1 hy hb
  have hg : Gr y34 y35 := hy ▸ (Gr.refl _).alloc _
  replace H := H.grow hg
  replace H := H.num hr
  clear hr hg hy hb
  (refine Kr.outS hK (a' := ?_) ?_ ?_; rotate_left; (focus ((try simp only [Act.put, List.setIfInBounds_toArray, List.set_cons_zero, List.set_cons_succ]); first | done | rfl))); clear hK K
  refine Kr.seqR (by rfl) (fun K hK => ?_)
  go_simp
  go_at_call 46
  refine (equal_d (H.nw 8 rfl) (H.nw 0 rfl)).mono ?_
  rintro e y36 ⟨rfl, hg⟩
  rw [decide_eq_false HG1.out]
  replace H := H.grow hg
  clear hg
  (refine Kr.outS hK (a' := ?_) ?_ ?_; rotate_left; (focus ((try simp only [Act.put, List.setIfInBounds_toArray, List.set_cons_zero, List.set_cons_succ]); first | done | rfl))); clear hK K
  (refine Kr.seqQ (v := ?_) (a' := ?_) (by rfl) ?_ ?_ ?_; rotate_left 2; (focus (go_simp; first | done | rfl)); (focus ((try simp only [Act.put, List.setIfInBounds_toArray, List.set_cons_zero, List.set_cons_succ]); first | done | rfl)))
  refine Kr.seqDoneW ?_
  go_upto_region 14 with fail
  refine Kr.seqStartW ?_
  iterate 4 (refine Kr.seqQ (v := ?_) (a' := ?_) (by rfl) ?_ ?_ ?_; rotate_left 2; (focus (go_simp; first | done | rfl)); (focus ((try simp only [Act.put, List.setIfInBounds_toArray, List.set_cons_zero, List.set_cons_succ]); first | done | rfl)))
  have hk := H.c
  simp only [Kr.Cells] at hk
  iterate 5 (refine Kr.seqQ (v := ?_) (a' := ?_) (by rfl) ?_ ?_ ?_; rotate_left 2; (focus (go_simp; first | done | rfl)); (focus ((try simp only [Act.put, List.setIfInBounds_toArray, List.set_cons_zero, List.set_cons_succ]); first | done | rfl)))
  clear hk
  refine Kr.seqDoneW ?_
  go_wp2
  go_ret
  exact ⟨rfl, H.g⟩
theorem NatmodRemainders (w : World) (pn : Option Addr) (nn cn : Nat) (pp : Option Addr) (np cp : Nat) (pq : Option Addr) (nq cq : Nat) (h1 : Nin w pn nn cn) (h2 : Nin w pp np cp) (h3 : Nin w pq nq cq) :
    Calls Try.prog 10 #[.agg #[.slice pn nn cn], .agg #[.slice pp np cp], .agg #[.slice pq nq cq]] w fun e w' => e = .returned (.bool true) ∧ Gr w w' := by
  by_cases g : ∃ x ∈ [(pn, nn, cn), (pp, np, cp), (pq, nq, cq)], 14 < x.2.1
  · exact rem_g g
  have hs : ∀ x ∈ [(pn, nn, cn), (pp, np, cp), (pq, nq, cq)], x.2.1 ≤ 14 := fun x hx => Nat.le_of_not_lt fun h => g ⟨x, hx, h⟩
  have en : nn ≤ 14 := hs (pn, nn, cn) (by simp)
  have ep : np ≤ 14 := hs (pp, np, cp) (by simp)
  have eq : nq ≤ 14 := hs (pq, nq, cq) (by simp)
  obtain ⟨ln, hn⟩ := h1.nw (by omega)
  obtain ⟨lp, hp⟩ := h2.nw (by omega)
  obtain ⟨lq, hq⟩ := h3.nw (by omega)
  cases tn : decide (valid ln) with
  | false => exact rem_bad_n hs hn hp hq tn
  | true =>
  cases tp : im lp with
  | false => exact rem_bad_p hs hn hp hq tn tp
  | true =>
  cases tq : im lq with
  | false => exact rem_bad_q hs hn hp hq tn tp tq
  | true =>
  obtain ⟨p, p0, vp, rfl⟩ := im_value hp tp
  obtain ⟨q, q0, vq, rfl⟩ := im_value hq tq
  obtain ⟨n, vn, rfl⟩ := nw_value hn tn
  have hpq : p * q < pw 32 := by
    have h4 := (digs_length_le p 14).1 (by rw [hp.len]; exact ep)
    have h5 := (digs_length_le q 14).1 (by rw [hq.len]; exact eq)
    have h6 := Nat.mul_lt_mul'' h4 h5
    rw [← pw_add] at h6
    exact Nat.lt_of_lt_of_le h6 (pw_mono (by decide))
  by_cases hg1 : Nat.gcd p q = 1
  · exact rem_ok hs hn hp hq vn p0 vp q0 vq hpq hg1
  · exact rem_no hs hn hp hq vn p0 vp q0 vq hpq hg1
end Go.Proofs.Ytlciocebbckdcaa.Ml
