/- The walk of NatmodGcd. -/
import Derived.Test.YtlciocebbckdcaaQMx
import Derived.Deep.Cut
namespace Go.Proofs.Ytlciocebbckdcaa.Ml
open Go.RowKit Go.Shelf Go.Proofs.Ytlciocebbckdcaa.Nm Go.Proofs.Ytlciocebbckdcaa.Ne Go.Proofs.Ytlciocebbckdcaa.Nf Go.Proofs.Ytlciocebbckdcaa.Nk Go.Proofs.Ytlciocebbckdcaa.Nv Go.Proofs.Ytlciocebbckdcaa.Nr2 Go.Proofs.Ytlciocebbckdcaa.Mo Go.Proofs.Ytlciocebbckdcaa.Mr Go.Proofs.Ytlciocebbckdcaa.Kr Go.Proofs.Ytlciocebbckdcaa.Nl

set_option linter.unusedSimpArgs false in
set_option maxRecDepth 100000 in
set_option maxHeartbeats 16000000 in
theorem gcd_g {pa : Option Addr} {na ca : Nat} {pb : Option Addr} {nb cb : Nat} {w : World} (hg : ∃ x ∈ [(pa, na, ca), (pb, nb, cb)], 6 < x.2.1) :
    Calls Try.prog 5 #[.agg #[.slice pa na ca], .agg #[.slice pb nb cb]] w fun e w' => e = .returned (.bool true) ∧ Gr w w' := by
  have HG := Lib.hid hg
  clear hg
  have H := Sta.start w
  go_enter Try.func5, Try.ntmps5
  go_upto_region 0 with fail
  refine Kr.seqStart ?_
  refine Kr.seqS (fun K hK => ?_)
  go_simp
  obtain ⟨y1, hy⟩ : ∃ y, w.alloc (.cells #[.slice pa na ca] 24) = y := ⟨_, rfl⟩
  obtain ⟨b2, hb⟩ : ∃ b, w.heap.size = b := ⟨_, rfl⟩
  rw [hy, hb]
  replace H := H.alloc hy hb rfl
  clear hy hb
  refine hK.out _ _ ?_; clear hK K
  (try simp only [Act.put, List.getElem_toArray, List.getElem_cons_zero, List.getElem_cons_succ, List.setIfInBounds_toArray, List.set_cons_zero, List.set_cons_succ])
  refine Kr.seqS (fun K hK => ?_)
  go_simp
  obtain ⟨y2, hy⟩ : ∃ y, y1.alloc (.cells #[.slice pb nb cb] 24) = y := ⟨_, rfl⟩
  obtain ⟨b3, hb⟩ : ∃ b, y1.heap.size = b := ⟨_, rfl⟩
  rw [hy, hb]
  replace H := H.alloc hy hb rfl
  clear hy hb
  refine hK.out _ _ ?_; clear hK K
  (try simp only [Act.put, List.getElem_toArray, List.getElem_cons_zero, List.getElem_cons_succ, List.setIfInBounds_toArray, List.set_cons_zero, List.set_cons_succ])
  (refine Kr.seqP (v := ?_) (by rfl) ?_ ?_; rotate_left; (focus (go_simp; first | done | rfl)); (try simp only [Act.put, List.getElem_toArray, List.getElem_cons_zero, List.getElem_cons_succ, List.setIfInBounds_toArray, List.set_cons_zero, List.set_cons_succ]))
  refine Kr.seqDone ?_
  go_upto_region 1 with fail
  refine Kr.seqStart ?_
  refine Kr.seqS (fun K hK => ?_)
  go_simp
  go_at_call 18
  refine (awake3 _).mono ?_
  rintro e y3 ⟨rfl, hg⟩
  replace H := H.grow hg
  clear hg
  refine hK.out _ _ ?_; clear hK K
  (try simp only [Act.put, List.getElem_toArray, List.getElem_cons_zero, List.getElem_cons_succ, List.setIfInBounds_toArray, List.set_cons_zero, List.set_cons_succ])
  iterate 2 (refine Kr.seqP (v := ?_) (by rfl) ?_ ?_; rotate_left; (focus (go_simp; first | done | rfl)); (try simp only [Act.put, List.getElem_toArray, List.getElem_cons_zero, List.getElem_cons_succ, List.setIfInBounds_toArray, List.set_cons_zero, List.set_cons_succ]))
  have hk := H.c
  simp only [Kr.Cells] at hk
  iterate 2 (refine Kr.seqP (v := ?_) (by rfl) ?_ ?_; rotate_left; (focus (go_simp; first | done | rfl)); (try simp only [Act.put, List.getElem_toArray, List.getElem_cons_zero, List.getElem_cons_succ, List.setIfInBounds_toArray, List.set_cons_zero, List.set_cons_succ]))
  refine Kr.seqS (fun K hK => ?_)
  go_simp
  clear hk
  obtain ⟨y4, hy⟩ : ∃ y, y3.alloc (.cells #[.slice pa na ca, .slice pb nb cb] 24) = y := ⟨_, rfl⟩
  obtain ⟨by4, hb⟩ : ∃ b, y3.heap.size = b := ⟨_, rfl⟩
  rw [hy, hb]
  have HN : Nats y4 by4 0 [(pa, na, ca), (pb, nb, cb)] := nats_mk hy hb
  have hg : Gr y3 y4 := hy ▸ (Gr.refl _).alloc _
  replace H := H.grow hg
  clear hg hy hb
  refine hK.out _ _ ?_; clear hK K
  (try simp only [Act.put, List.getElem_toArray, List.getElem_cons_zero, List.getElem_cons_succ, List.setIfInBounds_toArray, List.set_cons_zero, List.set_cons_succ])
  refine Kr.seqS (fun K hK => ?_)
  go_simp
  go_at_call 19
  refine (few_no HN (by simp) HG.out).mono ?_
  rintro e y5 ⟨rfl, hg⟩
  replace H := H.grow hg
  clear hg
  clear HN
  refine hK.out _ _ ?_; clear hK K
  (try simp only [Act.put, List.getElem_toArray, List.getElem_cons_zero, List.getElem_cons_succ, List.setIfInBounds_toArray, List.set_cons_zero, List.set_cons_succ])
  iterate 2 (refine Kr.seqP (v := ?_) (by rfl) ?_ ?_; rotate_left; (focus (go_simp; first | done | rfl)); (try simp only [Act.put, List.getElem_toArray, List.getElem_cons_zero, List.getElem_cons_succ, List.setIfInBounds_toArray, List.set_cons_zero, List.set_cons_succ]))
  refine Kr.seqDone ?_
  go_upto_region 2 with fail
  refine Kr.seqStart ?_
  refine Kr.seqS (fun K hK => ?_)
  go_simp
  go_at_call 18
  refine (awake3 _).mono ?_
  rintro e y6 ⟨rfl, hg⟩
  replace H := H.grow hg
  clear hg
  refine hK.out _ _ ?_; clear hK K
  (try simp only [Act.put, List.getElem_toArray, List.getElem_cons_zero, List.getElem_cons_succ, List.setIfInBounds_toArray, List.set_cons_zero, List.set_cons_succ])
  (refine Kr.seqP (v := ?_) (by rfl) ?_ ?_; rotate_left; (focus (go_simp; first | done | rfl)); (try simp only [Act.put, List.getElem_toArray, List.getElem_cons_zero, List.getElem_cons_succ, List.setIfInBounds_toArray, List.set_cons_zero, List.set_cons_succ]))
  refine Kr.seqDone ?_
  go_wp2
  go_ret
  exact ⟨rfl, H.g⟩
set_option linter.unusedSimpArgs false in
set_option maxRecDepth 100000 in
set_option maxHeartbeats 16000000 in
theorem gcd_bad_a {pa : Option Addr} {na ca : Nat} {pb : Option Addr} {nb cb : Nat} {la lb : List Nat} {w : World} (hs : ∀ x ∈ [(pa, na, ca), (pb, nb, cb)], x.2.1 ≤ 6) (ha : Nw w pa na ca la) (hb : Nw w pb nb cb lb) (hv : decide (valid la) = false) (hg : (decide (valid la) && decide (valid lb)) = false) (hc : Chk w (.agg #[.slice pa na ca]) (.agg #[.slice pb nb cb]) (.agg #[.slice none 0 0]) (.agg #[.slice pb nb cb]) 1) :
    Calls Try.prog 5 #[.agg #[.slice pa na ca], .agg #[.slice pb nb cb]] w fun e w' => e = .returned (.bool true) ∧ Gr w w' := by
  have HS := Lib.hid hs
  have HC := Lib.hid hc
  have HV := Lib.hid hv
  have HGB := Lib.hid hg
  clear hs hc hv hg
  have H := Sta.start w
  replace H := H.add (keepWs _ _ _ _) ha
  replace H := H.add (keepWs _ _ _ _) hb
  go_enter Try.func5, Try.ntmps5
  go_upto_region 0 with fail
  refine Kr.seqStart ?_
  refine Kr.seqS (fun K hK => ?_)
  go_simp
  obtain ⟨y1, hy⟩ : ∃ y, w.alloc (.cells #[.slice pa na ca] 24) = y := ⟨_, rfl⟩
  obtain ⟨ba, hb⟩ : ∃ b, w.heap.size = b := ⟨_, rfl⟩
  rw [hy, hb]
  replace H := H.alloc hy hb rfl
  clear hy hb
  refine hK.out _ _ ?_; clear hK K
  (try simp only [Act.put, List.getElem_toArray, List.getElem_cons_zero, List.getElem_cons_succ, List.setIfInBounds_toArray, List.set_cons_zero, List.set_cons_succ])
  refine Kr.seqS (fun K hK => ?_)
  go_simp
  obtain ⟨y2, hy⟩ : ∃ y, y1.alloc (.cells #[.slice pb nb cb] 24) = y := ⟨_, rfl⟩
  obtain ⟨bb, hb⟩ : ∃ b, y1.heap.size = b := ⟨_, rfl⟩
  rw [hy, hb]
  replace H := H.alloc hy hb rfl
  clear hy hb
  refine hK.out _ _ ?_; clear hK K
  (try simp only [Act.put, List.getElem_toArray, List.getElem_cons_zero, List.getElem_cons_succ, List.setIfInBounds_toArray, List.set_cons_zero, List.set_cons_succ])
  (refine Kr.seqP (v := ?_) (by rfl) ?_ ?_; rotate_left; (focus (go_simp; first | done | rfl)); (try simp only [Act.put, List.getElem_toArray, List.getElem_cons_zero, List.getElem_cons_succ, List.setIfInBounds_toArray, List.set_cons_zero, List.set_cons_succ]))
  refine Kr.seqDone ?_
  go_upto_region 1 with fail
  refine Kr.seqStart ?_
  refine Kr.seqS (fun K hK => ?_)
  go_simp
  go_at_call 18
  refine (awake3 _).mono ?_
  rintro e y3 ⟨rfl, hg⟩
  replace H := H.grow hg
  clear hg
  refine hK.out _ _ ?_; clear hK K
  (try simp only [Act.put, List.getElem_toArray, List.getElem_cons_zero, List.getElem_cons_succ, List.setIfInBounds_toArray, List.set_cons_zero, List.set_cons_succ])
  iterate 2 (refine Kr.seqP (v := ?_) (by rfl) ?_ ?_; rotate_left; (focus (go_simp; first | done | rfl)); (try simp only [Act.put, List.getElem_toArray, List.getElem_cons_zero, List.getElem_cons_succ, List.setIfInBounds_toArray, List.set_cons_zero, List.set_cons_succ]))
  have hk := H.c
  simp only [Kr.Cells] at hk
  iterate 2 (refine Kr.seqP (v := ?_) (by rfl) ?_ ?_; rotate_left; (focus (go_simp; first | done | rfl)); (try simp only [Act.put, List.getElem_toArray, List.getElem_cons_zero, List.getElem_cons_succ, List.setIfInBounds_toArray, List.set_cons_zero, List.set_cons_succ]))
  refine Kr.seqS (fun K hK => ?_)
  go_simp
  clear hk
  obtain ⟨y4, hy⟩ : ∃ y, y3.alloc (.cells #[.slice pa na ca, .slice pb nb cb] 24) = y := ⟨_, rfl⟩
  obtain ⟨by4, hb⟩ : ∃ b, y3.heap.size = b := ⟨_, rfl⟩
  rw [hy, hb]
  have HN : Nats y4 by4 0 [(pa, na, ca), (pb, nb, cb)] := nats_mk hy hb
  have hg : Gr y3 y4 := hy ▸ (Gr.refl _).alloc _
  replace H := H.grow hg
  clear hg hy hb
  refine hK.out _ _ ?_; clear hK K
  (try simp only [Act.put, List.getElem_toArray, List.getElem_cons_zero, List.getElem_cons_succ, List.setIfInBounds_toArray, List.set_cons_zero, List.set_cons_succ])
  refine Kr.seqS (fun K hK => ?_)
  go_simp
  go_at_call 19
  refine (few_ok HN (by simp) HS.out).mono ?_
  rintro e y5 ⟨rfl, hg⟩
  replace H := H.grow hg
  clear hg
  clear HN
  refine hK.out _ _ ?_; clear hK K
  (try simp only [Act.put, List.getElem_toArray, List.getElem_cons_zero, List.getElem_cons_succ, List.setIfInBounds_toArray, List.set_cons_zero, List.set_cons_succ])
  iterate 2 (refine Kr.seqP (v := ?_) (by rfl) ?_ ?_; rotate_left; (focus (go_simp; first | done | rfl)); (try simp only [Act.put, List.getElem_toArray, List.getElem_cons_zero, List.getElem_cons_succ, List.setIfInBounds_toArray, List.set_cons_zero, List.set_cons_succ]))
  refine Kr.seqDone ?_
  go_upto_region 3 with fail
  refine Kr.seqStart ?_
  have hk := H.c
  simp only [Kr.Cells] at hk
  iterate 2 (refine Kr.seqP (v := ?_) (by rfl) ?_ ?_; rotate_left; (focus (go_simp; first | done | rfl)); (try simp only [Act.put, List.getElem_toArray, List.getElem_cons_zero, List.getElem_cons_succ, List.setIfInBounds_toArray, List.set_cons_zero, List.set_cons_succ]))
  refine Kr.seqS (fun K hK => ?_)
  go_simp
  go_at_call 31
  refine (gives_has_c (mGcd_bad (H.ws 1 rfl) (H.ws 0 rfl) HGB.out)).mono ?_
  rintro e y6 ⟨p6, n6, c6, rfl, hr, hg⟩
  obtain rfl : n6 = 0 := by rw [← hr.len, digs_zero]; rfl
  clear hk
  replace H := H.grow hg
  clear hr hg
  refine hK.out _ _ ?_; clear hK K
  (try simp only [Act.put, List.getElem_toArray, List.getElem_cons_zero, List.getElem_cons_succ, List.setIfInBounds_toArray, List.set_cons_zero, List.set_cons_succ])
  iterate 3 (refine Kr.seqP (v := ?_) (by rfl) ?_ ?_; rotate_left; (focus (go_simp; first | done | rfl)); (try simp only [Act.put, List.getElem_toArray, List.getElem_cons_zero, List.getElem_cons_succ, List.setIfInBounds_toArray, List.set_cons_zero, List.set_cons_succ]))
  refine Kr.seqS (fun K hK => ?_)
  go_simp
  obtain ⟨y7, hy⟩ : ∃ y, y6.alloc (.cells #[.slice none 0 0] 24) = y := ⟨_, rfl⟩
  obtain ⟨bx, hb⟩ : ∃ b, y6.heap.size = b := ⟨_, rfl⟩
  rw [hy, hb]
  replace H := H.alloc hy hb rfl
  clear hy hb
  refine hK.out _ _ ?_; clear hK K
  (try simp only [Act.put, List.getElem_toArray, List.getElem_cons_zero, List.getElem_cons_succ, List.setIfInBounds_toArray, List.set_cons_zero, List.set_cons_succ])
  have hk := H.c
  simp only [Kr.Cells] at hk
  refine Kr.seqS (fun K hK => ?_)
  go_simp
  clear hk
  obtain ⟨y8, hy⟩ : ∃ y, y7.setCell ⟨bx, 0, none⟩ (.slice p6 0 c6) = y := ⟨_, rfl⟩
  rw [hy]
  replace H := H.store 0 hy rfl rfl
  dsimp only [List.set] at H
  clear hy
  refine hK.out _ _ ?_; clear hK K
  (try simp only [Act.put, List.getElem_toArray, List.getElem_cons_zero, List.getElem_cons_succ, List.setIfInBounds_toArray, List.set_cons_zero, List.set_cons_succ])
  (refine Kr.seqP (v := ?_) (by rfl) ?_ ?_; rotate_left; (focus (go_simp; first | done | rfl)); (try simp only [Act.put, List.getElem_toArray, List.getElem_cons_zero, List.getElem_cons_succ, List.setIfInBounds_toArray, List.set_cons_zero, List.set_cons_succ]))
  refine Kr.seqDone ?_
  go_upto_region 4 with fail
  refine Kr.seqStart ?_
  have hk := H.c
  simp only [Kr.Cells] at hk
  iterate 2 (refine Kr.seqP (v := ?_) (by rfl) ?_ ?_; rotate_left; (focus (go_simp; first | done | rfl)); (try simp only [Act.put, List.getElem_toArray, List.getElem_cons_zero, List.getElem_cons_succ, List.setIfInBounds_toArray, List.set_cons_zero, List.set_cons_succ]))
  refine Kr.seqS (fun K hK => ?_)
  go_simp
  go_at_call 32
  refine (mInverse_err1 (fun W g => HC.out W (H.g.trans g))).mono ?_
  rintro e y9 ⟨p9, n9, c9, rfl, hr, hg⟩
  obtain rfl : n9 = 0 := by rw [← hr.len, digs_zero]; rfl
  clear hk
  replace H := H.grow hg
  clear hr hg
  refine hK.out _ _ ?_; clear hK K
  (try simp only [Act.put, List.getElem_toArray, List.getElem_cons_zero, List.getElem_cons_succ, List.setIfInBounds_toArray, List.set_cons_zero, List.set_cons_succ])
  iterate 3 (refine Kr.seqP (v := ?_) (by rfl) ?_ ?_; rotate_left; (focus (go_simp; first | done | rfl)); (try simp only [Act.put, List.getElem_toArray, List.getElem_cons_zero, List.getElem_cons_succ, List.setIfInBounds_toArray, List.set_cons_zero, List.set_cons_succ]))
  refine Kr.seqS (fun K hK => ?_)
  go_simp
  obtain ⟨y10, hy⟩ : ∃ y, y9.alloc (.cells #[.slice none 0 0] 24) = y := ⟨_, rfl⟩
  obtain ⟨b_y, hb⟩ : ∃ b, y9.heap.size = b := ⟨_, rfl⟩
  rw [hy, hb]
  replace H := H.alloc hy hb rfl
  clear hy hb
  refine hK.out _ _ ?_; clear hK K
  (try simp only [Act.put, List.getElem_toArray, List.getElem_cons_zero, List.getElem_cons_succ, List.setIfInBounds_toArray, List.set_cons_zero, List.set_cons_succ])
  have hk := H.c
  simp only [Kr.Cells] at hk
  refine Kr.seqS (fun K hK => ?_)
  go_simp
  clear hk
  obtain ⟨y11, hy⟩ : ∃ y, y10.setCell ⟨b_y, 0, none⟩ (.slice p9 0 c9) = y := ⟨_, rfl⟩
  rw [hy]
  replace H := H.store 0 hy rfl rfl
  dsimp only [List.set] at H
  clear hy
  refine hK.out _ _ ?_; clear hK K
  (try simp only [Act.put, List.getElem_toArray, List.getElem_cons_zero, List.getElem_cons_succ, List.setIfInBounds_toArray, List.set_cons_zero, List.set_cons_succ])
  (refine Kr.seqP (v := ?_) (by rfl) ?_ ?_; rotate_left; (focus (go_simp; first | done | rfl)); (try simp only [Act.put, List.getElem_toArray, List.getElem_cons_zero, List.getElem_cons_succ, List.setIfInBounds_toArray, List.set_cons_zero, List.set_cons_succ]))
  refine Kr.seqDone ?_
  go_upto_region 5 with fail
  refine Kr.seqStart ?_
  have hk := H.c
  simp only [Kr.Cells] at hk
  (refine Kr.seqP (v := ?_) (by rfl) ?_ ?_; rotate_left; (focus (go_simp; first | done | rfl)); (try simp only [Act.put, List.getElem_toArray, List.getElem_cons_zero, List.getElem_cons_succ, List.setIfInBounds_toArray, List.set_cons_zero, List.set_cons_succ]))
  refine Kr.seqS (fun K hK => ?_)
  go_simp
  go_at_call 29
  refine (valid3_any _ _ _ _ _ (H.ws 1 rfl)).mono ?_
  rintro e y12 ⟨rfl, hg⟩
  rw [HV.out]
  clear hk
  replace H := H.grow hg
  clear hg
  refine hK.out _ _ ?_; clear hK K
  (try simp only [Act.put, List.getElem_toArray, List.getElem_cons_zero, List.getElem_cons_succ, List.setIfInBounds_toArray, List.set_cons_zero, List.set_cons_succ])
  iterate 2 (refine Kr.seqP (v := ?_) (by rfl) ?_ ?_; rotate_left; (focus (go_simp; first | done | rfl)); (try simp only [Act.put, List.getElem_toArray, List.getElem_cons_zero, List.getElem_cons_succ, List.setIfInBounds_toArray, List.set_cons_zero, List.set_cons_succ]))
  refine Kr.seqSkip (by rfl) ?_
  (try simp only [Act.put, List.getElem_toArray, List.getElem_cons_zero, List.getElem_cons_succ, List.setIfInBounds_toArray, List.set_cons_zero, List.set_cons_succ])
  refine Kr.seqSkip (by rfl) ?_
  (try simp only [Act.put, List.getElem_toArray, List.getElem_cons_zero, List.getElem_cons_succ, List.setIfInBounds_toArray, List.set_cons_zero, List.set_cons_succ])
  refine Kr.seqSkip (by rfl) ?_
  (try simp only [Act.put, List.getElem_toArray, List.getElem_cons_zero, List.getElem_cons_succ, List.setIfInBounds_toArray, List.set_cons_zero, List.set_cons_succ])
  (refine Kr.seqP (v := ?_) (by rfl) ?_ ?_; rotate_left; (focus (go_simp; first | done | rfl)); (try simp only [Act.put, List.getElem_toArray, List.getElem_cons_zero, List.getElem_cons_succ, List.setIfInBounds_toArray, List.set_cons_zero, List.set_cons_succ]))
  refine Kr.seqDone ?_
  go_upto_region 6 with fail
  refine Kr.seqStart ?_
  (refine Kr.seqP (v := ?_) (by rfl) ?_ ?_; rotate_left; (focus (go_simp; first | done | rfl)); (try simp only [Act.put, List.getElem_toArray, List.getElem_cons_zero, List.getElem_cons_succ, List.setIfInBounds_toArray, List.set_cons_zero, List.set_cons_succ]))
  have hk := H.c
  simp only [Kr.Cells] at hk
  iterate 18 (refine Kr.seqP (v := ?_) (by rfl) ?_ ?_; rotate_left; (focus (go_simp; first | done | rfl)); (try simp only [Act.put, List.getElem_toArray, List.getElem_cons_zero, List.getElem_cons_succ, List.setIfInBounds_toArray, List.set_cons_zero, List.set_cons_succ]))
  clear hk
  refine Kr.seqDone ?_
  go_wp2
  go_ret
  exact ⟨rfl, H.g⟩
set_option linter.unusedSimpArgs false in
set_option maxRecDepth 100000 in
set_option maxHeartbeats 16000000 in
theorem gcd_bad_b {pa : Option Addr} {na ca : Nat} {pb : Option Addr} {nb cb : Nat} {la lb : List Nat} {w : World} (hs : ∀ x ∈ [(pa, na, ca), (pb, nb, cb)], x.2.1 ≤ 6) (ha : Nw w pa na ca la) (hb : Nw w pb nb cb lb) (hva : decide (valid la) = true) (hv : decide (valid lb) = false) (hg : (decide (valid la) && decide (valid lb)) = false) (hc : Chk w (.agg #[.slice pa na ca]) (.agg #[.slice pb nb cb]) (.agg #[.slice none 0 0]) (.agg #[.slice pb nb cb]) 1) :
    Calls Try.prog 5 #[.agg #[.slice pa na ca], .agg #[.slice pb nb cb]] w fun e w' => e = .returned (.bool true) ∧ Gr w w' := by
  have HS := Lib.hid hs
  have HC := Lib.hid hc
  have HV := Lib.hid hv
  have HGB := Lib.hid hg
  clear hs hc hv hg
  have HVA := Lib.hid hva
  clear hva
  have H := Sta.start w
  replace H := H.add (keepWs _ _ _ _) ha
  replace H := H.add (keepWs _ _ _ _) hb
  go_enter Try.func5, Try.ntmps5
  go_upto_region 0 with fail
  refine Kr.seqStart ?_
  refine Kr.seqS (fun K hK => ?_)
  go_simp
  obtain ⟨y1, hy⟩ : ∃ y, w.alloc (.cells #[.slice pa na ca] 24) = y := ⟨_, rfl⟩
  obtain ⟨ba, hb⟩ : ∃ b, w.heap.size = b := ⟨_, rfl⟩
  rw [hy, hb]
  replace H := H.alloc hy hb rfl
  clear hy hb
  refine hK.out _ _ ?_; clear hK K
  (try simp only [Act.put, List.getElem_toArray, List.getElem_cons_zero, List.getElem_cons_succ, List.setIfInBounds_toArray, List.set_cons_zero, List.set_cons_succ])
  refine Kr.seqS (fun K hK => ?_)
  go_simp
  obtain ⟨y2, hy⟩ : ∃ y, y1.alloc (.cells #[.slice pb nb cb] 24) = y := ⟨_, rfl⟩
  obtain ⟨bb, hb⟩ : ∃ b, y1.heap.size = b := ⟨_, rfl⟩
  rw [hy, hb]
  replace H := H.alloc hy hb rfl
  clear hy hb
  refine hK.out _ _ ?_; clear hK K
  (try simp only [Act.put, List.getElem_toArray, List.getElem_cons_zero, List.getElem_cons_succ, List.setIfInBounds_toArray, List.set_cons_zero, List.set_cons_succ])
  (refine Kr.seqP (v := ?_) (by rfl) ?_ ?_; rotate_left; (focus (go_simp; first | done | rfl)); (try simp only [Act.put, List.getElem_toArray, List.getElem_cons_zero, List.getElem_cons_succ, List.setIfInBounds_toArray, List.set_cons_zero, List.set_cons_succ]))
  refine Kr.seqDone ?_
  go_upto_region 1 with fail
  refine Kr.seqStart ?_
  refine Kr.seqS (fun K hK => ?_)
  go_simp
  go_at_call 18
  refine (awake3 _).mono ?_
  rintro e y3 ⟨rfl, hg⟩
  replace H := H.grow hg
  clear hg
  refine hK.out _ _ ?_; clear hK K
  (try simp only [Act.put, List.getElem_toArray, List.getElem_cons_zero, List.getElem_cons_succ, List.setIfInBounds_toArray, List.set_cons_zero, List.set_cons_succ])
  iterate 2 (refine Kr.seqP (v := ?_) (by rfl) ?_ ?_; rotate_left; (focus (go_simp; first | done | rfl)); (try simp only [Act.put, List.getElem_toArray, List.getElem_cons_zero, List.getElem_cons_succ, List.setIfInBounds_toArray, List.set_cons_zero, List.set_cons_succ]))
  have hk := H.c
  simp only [Kr.Cells] at hk
  iterate 2 (refine Kr.seqP (v := ?_) (by rfl) ?_ ?_; rotate_left; (focus (go_simp; first | done | rfl)); (try simp only [Act.put, List.getElem_toArray, List.getElem_cons_zero, List.getElem_cons_succ, List.setIfInBounds_toArray, List.set_cons_zero, List.set_cons_succ]))
  refine Kr.seqS (fun K hK => ?_)
  go_simp
  clear hk
  obtain ⟨y4, hy⟩ : ∃ y, y3.alloc (.cells #[.slice pa na ca, .slice pb nb cb] 24) = y := ⟨_, rfl⟩
  obtain ⟨by4, hb⟩ : ∃ b, y3.heap.size = b := ⟨_, rfl⟩
  rw [hy, hb]
  have HN : Nats y4 by4 0 [(pa, na, ca), (pb, nb, cb)] := nats_mk hy hb
  have hg : Gr y3 y4 := hy ▸ (Gr.refl _).alloc _
  replace H := H.grow hg
  clear hg hy hb
  refine hK.out _ _ ?_; clear hK K
  (try simp only [Act.put, List.getElem_toArray, List.getElem_cons_zero, List.getElem_cons_succ, List.setIfInBounds_toArray, List.set_cons_zero, List.set_cons_succ])
  refine Kr.seqS (fun K hK => ?_)
  go_simp
  go_at_call 19
  refine (few_ok HN (by simp) HS.out).mono ?_
  rintro e y5 ⟨rfl, hg⟩
  replace H := H.grow hg
  clear hg
  clear HN
  refine hK.out _ _ ?_; clear hK K
  (try simp only [Act.put, List.getElem_toArray, List.getElem_cons_zero, List.getElem_cons_succ, List.setIfInBounds_toArray, List.set_cons_zero, List.set_cons_succ])
  iterate 2 (refine Kr.seqP (v := ?_) (by rfl) ?_ ?_; rotate_left; (focus (go_simp; first | done | rfl)); (try simp only [Act.put, List.getElem_toArray, List.getElem_cons_zero, List.getElem_cons_succ, List.setIfInBounds_toArray, List.set_cons_zero, List.set_cons_succ]))
  refine Kr.seqDone ?_
  go_upto_region 3 with fail
  refine Kr.seqStart ?_
  have hk := H.c
  simp only [Kr.Cells] at hk
  iterate 2 (refine Kr.seqP (v := ?_) (by rfl) ?_ ?_; rotate_left; (focus (go_simp; first | done | rfl)); (try simp only [Act.put, List.getElem_toArray, List.getElem_cons_zero, List.getElem_cons_succ, List.setIfInBounds_toArray, List.set_cons_zero, List.set_cons_succ]))
  refine Kr.seqS (fun K hK => ?_)
  go_simp
  go_at_call 31
  refine (gives_has_c (mGcd_bad (H.ws 1 rfl) (H.ws 0 rfl) HGB.out)).mono ?_
  rintro e y6 ⟨p6, n6, c6, rfl, hr, hg⟩
  obtain rfl : n6 = 0 := by rw [← hr.len, digs_zero]; rfl
  clear hk
  replace H := H.grow hg
  clear hr hg
  refine hK.out _ _ ?_; clear hK K
  (try simp only [Act.put, List.getElem_toArray, List.getElem_cons_zero, List.getElem_cons_succ, List.setIfInBounds_toArray, List.set_cons_zero, List.set_cons_succ])
  iterate 3 (refine Kr.seqP (v := ?_) (by rfl) ?_ ?_; rotate_left; (focus (go_simp; first | done | rfl)); (try simp only [Act.put, List.getElem_toArray, List.getElem_cons_zero, List.getElem_cons_succ, List.setIfInBounds_toArray, List.set_cons_zero, List.set_cons_succ]))
  refine Kr.seqS (fun K hK => ?_)
  go_simp
  obtain ⟨y7, hy⟩ : ∃ y, y6.alloc (.cells #[.slice none 0 0] 24) = y := ⟨_, rfl⟩
  obtain ⟨bx, hb⟩ : ∃ b, y6.heap.size = b := ⟨_, rfl⟩
  rw [hy, hb]
  replace H := H.alloc hy hb rfl
  clear hy hb
  refine hK.out _ _ ?_; clear hK K
  (try simp only [Act.put, List.getElem_toArray, List.getElem_cons_zero, List.getElem_cons_succ, List.setIfInBounds_toArray, List.set_cons_zero, List.set_cons_succ])
  have hk := H.c
  simp only [Kr.Cells] at hk
  refine Kr.seqS (fun K hK => ?_)
  go_simp
  clear hk
  obtain ⟨y8, hy⟩ : ∃ y, y7.setCell ⟨bx, 0, none⟩ (.slice p6 0 c6) = y := ⟨_, rfl⟩
  rw [hy]
  replace H := H.store 0 hy rfl rfl
  dsimp only [List.set] at H
  clear hy
  refine hK.out _ _ ?_; clear hK K
  (try simp only [Act.put, List.getElem_toArray, List.getElem_cons_zero, List.getElem_cons_succ, List.setIfInBounds_toArray, List.set_cons_zero, List.set_cons_succ])
  (refine Kr.seqP (v := ?_) (by rfl) ?_ ?_; rotate_left; (focus (go_simp; first | done | rfl)); (try simp only [Act.put, List.getElem_toArray, List.getElem_cons_zero, List.getElem_cons_succ, List.setIfInBounds_toArray, List.set_cons_zero, List.set_cons_succ]))
  refine Kr.seqDone ?_
  go_upto_region 4 with fail
  refine Kr.seqStart ?_
  have hk := H.c
  simp only [Kr.Cells] at hk
  iterate 2 (refine Kr.seqP (v := ?_) (by rfl) ?_ ?_; rotate_left; (focus (go_simp; first | done | rfl)); (try simp only [Act.put, List.getElem_toArray, List.getElem_cons_zero, List.getElem_cons_succ, List.setIfInBounds_toArray, List.set_cons_zero, List.set_cons_succ]))
  refine Kr.seqS (fun K hK => ?_)
  go_simp
  go_at_call 32
  refine (mInverse_err1 (fun W g => HC.out W (H.g.trans g))).mono ?_
  rintro e y9 ⟨p9, n9, c9, rfl, hr, hg⟩
  obtain rfl : n9 = 0 := by rw [← hr.len, digs_zero]; rfl
  clear hk
  replace H := H.grow hg
  clear hr hg
  refine hK.out _ _ ?_; clear hK K
  (try simp only [Act.put, List.getElem_toArray, List.getElem_cons_zero, List.getElem_cons_succ, List.setIfInBounds_toArray, List.set_cons_zero, List.set_cons_succ])
  iterate 3 (refine Kr.seqP (v := ?_) (by rfl) ?_ ?_; rotate_left; (focus (go_simp; first | done | rfl)); (try simp only [Act.put, List.getElem_toArray, List.getElem_cons_zero, List.getElem_cons_succ, List.setIfInBounds_toArray, List.set_cons_zero, List.set_cons_succ]))
  refine Kr.seqS (fun K hK => ?_)
  go_simp
  obtain ⟨y10, hy⟩ : ∃ y, y9.alloc (.cells #[.slice none 0 0] 24) = y := ⟨_, rfl⟩
  obtain ⟨b_y, hb⟩ : ∃ b, y9.heap.size = b := ⟨_, rfl⟩
  rw [hy, hb]
  replace H := H.alloc hy hb rfl
  clear hy hb
  refine hK.out _ _ ?_; clear hK K
  (try simp only [Act.put, List.getElem_toArray, List.getElem_cons_zero, List.getElem_cons_succ, List.setIfInBounds_toArray, List.set_cons_zero, List.set_cons_succ])
  have hk := H.c
  simp only [Kr.Cells] at hk
  refine Kr.seqS (fun K hK => ?_)
  go_simp
  clear hk
  obtain ⟨y11, hy⟩ : ∃ y, y10.setCell ⟨b_y, 0, none⟩ (.slice p9 0 c9) = y := ⟨_, rfl⟩
  rw [hy]
  replace H := H.store 0 hy rfl rfl
  dsimp only [List.set] at H
  clear hy
  refine hK.out _ _ ?_; clear hK K
  (try simp only [Act.put, List.getElem_toArray, List.getElem_cons_zero, List.getElem_cons_succ, List.setIfInBounds_toArray, List.set_cons_zero, List.set_cons_succ])
  (refine Kr.seqP (v := ?_) (by rfl) ?_ ?_; rotate_left; (focus (go_simp; first | done | rfl)); (try simp only [Act.put, List.getElem_toArray, List.getElem_cons_zero, List.getElem_cons_succ, List.setIfInBounds_toArray, List.set_cons_zero, List.set_cons_succ]))
  refine Kr.seqDone ?_
  go_upto_region 5 with fail
  refine Kr.seqStart ?_
  have hk := H.c
  simp only [Kr.Cells] at hk
  (refine Kr.seqP (v := ?_) (by rfl) ?_ ?_; rotate_left; (focus (go_simp; first | done | rfl)); (try simp only [Act.put, List.getElem_toArray, List.getElem_cons_zero, List.getElem_cons_succ, List.setIfInBounds_toArray, List.set_cons_zero, List.set_cons_succ]))
  refine Kr.seqS (fun K hK => ?_)
  go_simp
  go_at_call 29
  refine (valid3_any _ _ _ _ _ (H.ws 1 rfl)).mono ?_
  rintro e y12 ⟨rfl, hg⟩
  rw [HVA.out]
  clear hk
  replace H := H.grow hg
  clear hg
  refine hK.out _ _ ?_; clear hK K
  (try simp only [Act.put, List.getElem_toArray, List.getElem_cons_zero, List.getElem_cons_succ, List.setIfInBounds_toArray, List.set_cons_zero, List.set_cons_succ])
  iterate 2 (refine Kr.seqP (v := ?_) (by rfl) ?_ ?_; rotate_left; (focus (go_simp; first | done | rfl)); (try simp only [Act.put, List.getElem_toArray, List.getElem_cons_zero, List.getElem_cons_succ, List.setIfInBounds_toArray, List.set_cons_zero, List.set_cons_succ]))
  have hk := H.c
  simp only [Kr.Cells] at hk
  (refine Kr.seqP (v := ?_) (by rfl) ?_ ?_; rotate_left; (focus (go_simp; first | done | rfl)); (try simp only [Act.put, List.getElem_toArray, List.getElem_cons_zero, List.getElem_cons_succ, List.setIfInBounds_toArray, List.set_cons_zero, List.set_cons_succ]))
  refine Kr.seqS (fun K hK => ?_)
  go_simp
  go_at_call 29
  refine (valid3_any _ _ _ _ _ (H.ws 0 rfl)).mono ?_
  rintro e y13 ⟨rfl, hg⟩
  rw [HV.out]
  clear hk
  replace H := H.grow hg
  clear hg
  refine hK.out _ _ ?_; clear hK K
  (try simp only [Act.put, List.getElem_toArray, List.getElem_cons_zero, List.getElem_cons_succ, List.setIfInBounds_toArray, List.set_cons_zero, List.set_cons_succ])
  iterate 2 (refine Kr.seqP (v := ?_) (by rfl) ?_ ?_; rotate_left; (focus (go_simp; first | done | rfl)); (try simp only [Act.put, List.getElem_toArray, List.getElem_cons_zero, List.getElem_cons_succ, List.setIfInBounds_toArray, List.set_cons_zero, List.set_cons_succ]))
  refine Kr.seqDone ?_
  go_upto_region 6 with fail
  refine Kr.seqStart ?_
  (refine Kr.seqP (v := ?_) (by rfl) ?_ ?_; rotate_left; (focus (go_simp; first | done | rfl)); (try simp only [Act.put, List.getElem_toArray, List.getElem_cons_zero, List.getElem_cons_succ, List.setIfInBounds_toArray, List.set_cons_zero, List.set_cons_succ]))
  have hk := H.c
  simp only [Kr.Cells] at hk
  iterate 18 (refine Kr.seqP (v := ?_) (by rfl) ?_ ?_; rotate_left; (focus (go_simp; first | done | rfl)); (try simp only [Act.put, List.getElem_toArray, List.getElem_cons_zero, List.getElem_cons_succ, List.setIfInBounds_toArray, List.set_cons_zero, List.set_cons_succ]))
  clear hk
  refine Kr.seqDone ?_
  go_wp2
  go_ret
  exact ⟨rfl, H.g⟩
set_option linter.unusedSimpArgs false in
set_option maxRecDepth 100000 in
set_option maxHeartbeats 16000000 in
theorem gcd_err {pa : Option Addr} {na ca : Nat} {pb : Option Addr} {nb cb : Nat} {x y : Nat} {k : Nat} {w : World} (hs : ∀ x ∈ [(pa, na, ca), (pb, nb, cb)], x.2.1 ≤ 6) (ha : Nw w pa na ca (digs x)) (hb : Nw w pb nb cb (digs y)) (vx : x < pw 8) (vy : y < pw 8) (hk : k = 1 ∨ k = 2) (hf : Fst w (.agg #[.slice pb nb cb]) [(pa, na, ca)] k) (hi : ∀ W, Gr w W → Calls Try.prog 32 #[.agg #[.slice pa na ca], .agg #[.slice pb nb cb]] W (HasE 0 k W)) :
    Calls Try.prog 5 #[.agg #[.slice pa na ca], .agg #[.slice pb nb cb]] w fun e w' => e = .returned (.bool true) ∧ Gr w w' := by
  have HS := Lib.hid hs
  have HF := Lib.hid hf
  clear hs hf
  have VX : Hid (x < pw 64) := Lib.hid (Nat.lt_of_lt_of_le vx (pw_mono (by decide)))
  have VY : Hid (y < pw 64) := Lib.hid (Nat.lt_of_lt_of_le vy (pw_mono (by decide)))
  have VX9 : Hid (x < pw 900) := Lib.hid (Nat.lt_of_lt_of_le vx (pw_mono (by decide)))
  have VY9 : Hid (y < pw 900) := Lib.hid (Nat.lt_of_lt_of_le vy (pw_mono (by decide)))
  have VY3 : Hid (y < pw 32) := Lib.hid (Nat.lt_of_lt_of_le vy (pw_mono (by decide)))
  clear vx vy
  have HK := Lib.hid hk
  have nk : ¬ (k : Int) = 0 := by rcases hk with rfl | rfl <;> decide
  have ek : ((k : Int) == 0) = false := by rcases hk with rfl | rfl <;> rfl
  clear hk
  have HI := Lib.hid hi
  clear hi
  have H := Sta.start w
  replace H := H.num ha
  replace H := H.num hb
  go_enter Try.func5, Try.ntmps5
  go_upto_region 0 with fail
  refine Kr.seqStart ?_
  refine Kr.seqS (fun K hK => ?_)
  go_simp
  obtain ⟨y1, hy⟩ : ∃ y, w.alloc (.cells #[.slice pa na ca] 24) = y := ⟨_, rfl⟩
  obtain ⟨ba, hb⟩ : ∃ b, w.heap.size = b := ⟨_, rfl⟩
  rw [hy, hb]
  replace H := H.alloc hy hb rfl
  clear hy hb
  refine hK.out _ _ ?_; clear hK K
  (try simp only [Act.put, List.getElem_toArray, List.getElem_cons_zero, List.getElem_cons_succ, List.setIfInBounds_toArray, List.set_cons_zero, List.set_cons_succ])
  refine Kr.seqS (fun K hK => ?_)
  go_simp
  obtain ⟨y2, hy⟩ : ∃ y, y1.alloc (.cells #[.slice pb nb cb] 24) = y := ⟨_, rfl⟩
  obtain ⟨bb, hb⟩ : ∃ b, y1.heap.size = b := ⟨_, rfl⟩
  rw [hy, hb]
  replace H := H.alloc hy hb rfl
  clear hy hb
  refine hK.out _ _ ?_; clear hK K
  (try simp only [Act.put, List.getElem_toArray, List.getElem_cons_zero, List.getElem_cons_succ, List.setIfInBounds_toArray, List.set_cons_zero, List.set_cons_succ])
  (refine Kr.seqP (v := ?_) (by rfl) ?_ ?_; rotate_left; (focus (go_simp; first | done | rfl)); (try simp only [Act.put, List.getElem_toArray, List.getElem_cons_zero, List.getElem_cons_succ, List.setIfInBounds_toArray, List.set_cons_zero, List.set_cons_succ]))
  refine Kr.seqDone ?_
  go_upto_region 1 with fail
  refine Kr.seqStart ?_
  refine Kr.seqS (fun K hK => ?_)
  go_simp
  go_at_call 18
  refine (awake3 _).mono ?_
  rintro e y3 ⟨rfl, hg⟩
  replace H := H.grow hg
  clear hg
  refine hK.out _ _ ?_; clear hK K
  (try simp only [Act.put, List.getElem_toArray, List.getElem_cons_zero, List.getElem_cons_succ, List.setIfInBounds_toArray, List.set_cons_zero, List.set_cons_succ])
  iterate 2 (refine Kr.seqP (v := ?_) (by rfl) ?_ ?_; rotate_left; (focus (go_simp; first | done | rfl)); (try simp only [Act.put, List.getElem_toArray, List.getElem_cons_zero, List.getElem_cons_succ, List.setIfInBounds_toArray, List.set_cons_zero, List.set_cons_succ]))
  have hk := H.c
  simp only [Kr.Cells] at hk
  iterate 2 (refine Kr.seqP (v := ?_) (by rfl) ?_ ?_; rotate_left; (focus (go_simp; first | done | rfl)); (try simp only [Act.put, List.getElem_toArray, List.getElem_cons_zero, List.getElem_cons_succ, List.setIfInBounds_toArray, List.set_cons_zero, List.set_cons_succ]))
  refine Kr.seqS (fun K hK => ?_)
  go_simp
  clear hk
  obtain ⟨y4, hy⟩ : ∃ y, y3.alloc (.cells #[.slice pa na ca, .slice pb nb cb] 24) = y := ⟨_, rfl⟩
  obtain ⟨by4, hb⟩ : ∃ b, y3.heap.size = b := ⟨_, rfl⟩
  rw [hy, hb]
  have HN : Nats y4 by4 0 [(pa, na, ca), (pb, nb, cb)] := nats_mk hy hb
  have hg : Gr y3 y4 := hy ▸ (Gr.refl _).alloc _
  replace H := H.grow hg
  clear hg hy hb
  refine hK.out _ _ ?_; clear hK K
  (try simp only [Act.put, List.getElem_toArray, List.getElem_cons_zero, List.getElem_cons_succ, List.setIfInBounds_toArray, List.set_cons_zero, List.set_cons_succ])
  refine Kr.seqS (fun K hK => ?_)
  go_simp
  go_at_call 19
  refine (few_ok HN (by simp) HS.out).mono ?_
  rintro e y5 ⟨rfl, hg⟩
  replace H := H.grow hg
  clear hg
  clear HN
  refine hK.out _ _ ?_; clear hK K
  (try simp only [Act.put, List.getElem_toArray, List.getElem_cons_zero, List.getElem_cons_succ, List.setIfInBounds_toArray, List.set_cons_zero, List.set_cons_succ])
  iterate 2 (refine Kr.seqP (v := ?_) (by rfl) ?_ ?_; rotate_left; (focus (go_simp; first | done | rfl)); (try simp only [Act.put, List.getElem_toArray, List.getElem_cons_zero, List.getElem_cons_succ, List.setIfInBounds_toArray, List.set_cons_zero, List.set_cons_succ]))
  refine Kr.seqDone ?_
  go_upto_region 3 with fail
  refine Kr.seqStart ?_
  have hk := H.c
  simp only [Kr.Cells] at hk
  iterate 2 (refine Kr.seqP (v := ?_) (by rfl) ?_ ?_; rotate_left; (focus (go_simp; first | done | rfl)); (try simp only [Act.put, List.getElem_toArray, List.getElem_cons_zero, List.getElem_cons_succ, List.setIfInBounds_toArray, List.set_cons_zero, List.set_cons_succ]))
  refine Kr.seqS (fun K hK => ?_)
  go_simp
  go_at_call 31
  refine (mGcd_ok (H.nw 1 rfl) (H.nw 0 rfl) VX.out VY.out).mono ?_
  rintro e y6 ⟨p6, n6, c6, rfl, hr, hg⟩
  clear hk
  replace H := H.grow hg
  replace H := H.num hr.toNw
  clear hr hg
  refine hK.out _ _ ?_; clear hK K
  (try simp only [Act.put, List.getElem_toArray, List.getElem_cons_zero, List.getElem_cons_succ, List.setIfInBounds_toArray, List.set_cons_zero, List.set_cons_succ])
  iterate 3 (refine Kr.seqP (v := ?_) (by rfl) ?_ ?_; rotate_left; (focus (go_simp; first | done | rfl)); (try simp only [Act.put, List.getElem_toArray, List.getElem_cons_zero, List.getElem_cons_succ, List.setIfInBounds_toArray, List.set_cons_zero, List.set_cons_succ]))
  refine Kr.seqS (fun K hK => ?_)
  go_simp
  obtain ⟨y7, hy⟩ : ∃ y, y6.alloc (.cells #[.slice none 0 0] 24) = y := ⟨_, rfl⟩
  obtain ⟨bx, hb⟩ : ∃ b, y6.heap.size = b := ⟨_, rfl⟩
  rw [hy, hb]
  replace H := H.alloc hy hb rfl
  clear hy hb
  refine hK.out _ _ ?_; clear hK K
  (try simp only [Act.put, List.getElem_toArray, List.getElem_cons_zero, List.getElem_cons_succ, List.setIfInBounds_toArray, List.set_cons_zero, List.set_cons_succ])
  have hk := H.c
  simp only [Kr.Cells] at hk
  refine Kr.seqS (fun K hK => ?_)
  go_simp
  clear hk
  obtain ⟨y8, hy⟩ : ∃ y, y7.setCell ⟨bx, 0, none⟩ (.slice p6 n6 c6) = y := ⟨_, rfl⟩
  rw [hy]
  replace H := H.store 0 hy rfl rfl
  dsimp only [List.set] at H
  clear hy
  refine hK.out _ _ ?_; clear hK K
  (try simp only [Act.put, List.getElem_toArray, List.getElem_cons_zero, List.getElem_cons_succ, List.setIfInBounds_toArray, List.set_cons_zero, List.set_cons_succ])
  (refine Kr.seqP (v := ?_) (by rfl) ?_ ?_; rotate_left; (focus (go_simp; first | done | rfl)); (try simp only [Act.put, List.getElem_toArray, List.getElem_cons_zero, List.getElem_cons_succ, List.setIfInBounds_toArray, List.set_cons_zero, List.set_cons_succ]))
  refine Kr.seqDone ?_
  go_upto_region 4 with fail
  refine Kr.seqStart ?_
  have hk := H.c
  simp only [Kr.Cells] at hk
  iterate 2 (refine Kr.seqP (v := ?_) (by rfl) ?_ ?_; rotate_left; (focus (go_simp; first | done | rfl)); (try simp only [Act.put, List.getElem_toArray, List.getElem_cons_zero, List.getElem_cons_succ, List.setIfInBounds_toArray, List.set_cons_zero, List.set_cons_succ]))
  refine Kr.seqS (fun K hK => ?_)
  go_simp
  go_at_call 32
  refine (HI.out _ H.g).mono ?_
  rintro e y9 ⟨p9, n9, c9, rfl, hr, hg⟩
  obtain rfl : n9 = 0 := by rw [← hr.len, digs_zero]; rfl
  clear hk
  replace H := H.grow hg
  clear hr hg
  refine hK.out _ _ ?_; clear hK K
  (try simp only [Act.put, List.getElem_toArray, List.getElem_cons_zero, List.getElem_cons_succ, List.setIfInBounds_toArray, List.set_cons_zero, List.set_cons_succ])
  iterate 3 (refine Kr.seqP (v := ?_) (by rfl) ?_ ?_; rotate_left; (focus (go_simp; first | done | rfl)); (try simp only [Act.put, List.getElem_toArray, List.getElem_cons_zero, List.getElem_cons_succ, List.setIfInBounds_toArray, List.set_cons_zero, List.set_cons_succ]))
  refine Kr.seqS (fun K hK => ?_)
  go_simp
  obtain ⟨y10, hy⟩ : ∃ y, y9.alloc (.cells #[.slice none 0 0] 24) = y := ⟨_, rfl⟩
  obtain ⟨b_y, hb⟩ : ∃ b, y9.heap.size = b := ⟨_, rfl⟩
  rw [hy, hb]
  replace H := H.alloc hy hb rfl
  clear hy hb
  refine hK.out _ _ ?_; clear hK K
  (try simp only [Act.put, List.getElem_toArray, List.getElem_cons_zero, List.getElem_cons_succ, List.setIfInBounds_toArray, List.set_cons_zero, List.set_cons_succ])
  have hk := H.c
  simp only [Kr.Cells] at hk
  refine Kr.seqS (fun K hK => ?_)
  go_simp
  clear hk
  obtain ⟨y11, hy⟩ : ∃ y, y10.setCell ⟨b_y, 0, none⟩ (.slice p9 0 c9) = y := ⟨_, rfl⟩
  rw [hy]
  replace H := H.store 0 hy rfl rfl
  dsimp only [List.set] at H
  clear hy
  refine hK.out _ _ ?_; clear hK K
  (try simp only [Act.put, List.getElem_toArray, List.getElem_cons_zero, List.getElem_cons_succ, List.setIfInBounds_toArray, List.set_cons_zero, List.set_cons_succ])
  (refine Kr.seqP (v := ?_) (by rfl) ?_ ?_; rotate_left; (focus (go_simp; first | done | rfl)); (try simp only [Act.put, List.getElem_toArray, List.getElem_cons_zero, List.getElem_cons_succ, List.setIfInBounds_toArray, List.set_cons_zero, List.set_cons_succ]))
  refine Kr.seqDone ?_
  go_upto_region 5 with fail
  refine Kr.seqStart ?_
  have hk := H.c
  simp only [Kr.Cells] at hk
  (refine Kr.seqP (v := ?_) (by rfl) ?_ ?_; rotate_left; (focus (go_simp; first | done | rfl)); (try simp only [Act.put, List.getElem_toArray, List.getElem_cons_zero, List.getElem_cons_succ, List.setIfInBounds_toArray, List.set_cons_zero, List.set_cons_succ]))
  refine Kr.seqS (fun K hK => ?_)
  go_simp
  go_at_call 29
  refine (valid3_any _ _ _ _ _ (H.nw 2 rfl)).mono ?_
  rintro e y12 ⟨rfl, hg⟩
  rw [dv VX.out]
  clear hk
  replace H := H.grow hg
  clear hg
  refine hK.out _ _ ?_; clear hK K
  (try simp only [Act.put, List.getElem_toArray, List.getElem_cons_zero, List.getElem_cons_succ, List.setIfInBounds_toArray, List.set_cons_zero, List.set_cons_succ])
  iterate 2 (refine Kr.seqP (v := ?_) (by rfl) ?_ ?_; rotate_left; (focus (go_simp; first | done | rfl)); (try simp only [Act.put, List.getElem_toArray, List.getElem_cons_zero, List.getElem_cons_succ, List.setIfInBounds_toArray, List.set_cons_zero, List.set_cons_succ]))
  have hk := H.c
  simp only [Kr.Cells] at hk
  (refine Kr.seqP (v := ?_) (by rfl) ?_ ?_; rotate_left; (focus (go_simp; first | done | rfl)); (try simp only [Act.put, List.getElem_toArray, List.getElem_cons_zero, List.getElem_cons_succ, List.setIfInBounds_toArray, List.set_cons_zero, List.set_cons_succ]))
  refine Kr.seqS (fun K hK => ?_)
  go_simp
  go_at_call 29
  refine (valid3_any _ _ _ _ _ (H.nw 1 rfl)).mono ?_
  rintro e y13 ⟨rfl, hg⟩
  rw [dv VY.out]
  clear hk
  replace H := H.grow hg
  clear hg
  refine hK.out _ _ ?_; clear hK K
  (try simp only [Act.put, List.getElem_toArray, List.getElem_cons_zero, List.getElem_cons_succ, List.setIfInBounds_toArray, List.set_cons_zero, List.set_cons_succ])
  iterate 2 (refine Kr.seqP (v := ?_) (by rfl) ?_ ?_; rotate_left; (focus (go_simp; first | done | rfl)); (try simp only [Act.put, List.getElem_toArray, List.getElem_cons_zero, List.getElem_cons_succ, List.setIfInBounds_toArray, List.set_cons_zero, List.set_cons_succ]))
  refine Kr.seqDone ?_
  go_upto_region 7 with fail
  refine Kr.startL (fun W' => Kr.Cells W' [(bx, 0, .slice p6 n6 c6), (ba, 0, .slice pa na ca), (bb, 0, .slice pb nb cb)]) [] (by kernel_rfl) ?_
  have gd : Gr y13 y13.drew := (Gr.refl _).drew
  generalize y13.drew = d14 at gd ⊢
  replace H := H.grow gd
  clear gd
  (refine Kr.tS 0 [] (v := ?_) rfl (by kernel_rfl) (fun _ _ _ h => h) (by rfl) (H.sub [1, 3, 2] rfl) (fun wx hSx => ?_) ?_; rotate_left; (focus (simp only [Kr.Cells] at hSx; go_simp; first | done | rfl)); (try simp only [Act.put, List.getElem_toArray, List.getElem_cons_zero, List.getElem_cons_succ, List.setIfInBounds_toArray, List.set_cons_zero, List.set_cons_succ]))
  (refine Kr.tS 1 [] (v := ?_) rfl (by kernel_rfl) (fun _ _ _ h => h) (by rfl) (H.sub [1, 3, 2] rfl) (fun wx hSx => ?_) ?_; rotate_left; (focus (simp only [Kr.Cells] at hSx; go_simp; first | done | rfl)); (try simp only [Act.put, List.getElem_toArray, List.getElem_cons_zero, List.getElem_cons_succ, List.setIfInBounds_toArray, List.set_cons_zero, List.set_cons_succ]))
  (refine Kr.tS 2 [] (v := ?_) rfl (by kernel_rfl) (fun _ _ _ h => h) (by rfl) (H.sub [1, 3, 2] rfl) (fun wx hSx => ?_) ?_; rotate_left; (focus (simp only [Kr.Cells] at hSx; go_simp; first | done | rfl)); (try simp only [Act.put, List.getElem_toArray, List.getElem_cons_zero, List.getElem_cons_succ, List.setIfInBounds_toArray, List.set_cons_zero, List.set_cons_succ]))
  refine Kr.readyL (rs := [3]) (by kernel_rfl) (by simp) ?_
  refine Kr.AllL.cons rfl (fun K hK => ?_) Kr.AllL.nil
  go_simp
  go_at_call 33
  refine (rgcd3_v (H.nw 2 rfl) (H.nw 1 rfl) VX9.out VY9.out).mono ?_
  rintro e y15 ⟨p15, n15, c15, rfl, hr, hg⟩
  replace H := H.grow hg
  replace H := H.num hr
  clear hr hg
  refine hK.out _ _ (fun _ => (H.sub [1, 3, 2] rfl)) ?_; clear hK K
  (try simp only [Act.put, List.getElem_toArray, List.getElem_cons_zero, List.getElem_cons_succ, List.setIfInBounds_toArray, List.set_cons_zero, List.set_cons_succ])
  refine Kr.readyL (rs := [4]) (by kernel_rfl) (by simp) ?_
  refine Kr.AllL.cons rfl (fun K hK => ?_) Kr.AllL.nil
  go_simp
  go_at_call 23
  refine (same3_v (H.nw 1 rfl) (H.nw 0 rfl)).mono ?_
  rintro e y16 ⟨rfl, hg⟩
  rw [decide_eq_true rfl]
  replace H := H.grow hg
  clear hg
  refine hK.out _ _ (fun _ => (H.sub [1, 3, 2] rfl)) ?_; clear hK K
  (try simp only [Act.put, List.getElem_toArray, List.getElem_cons_zero, List.getElem_cons_succ, List.setIfInBounds_toArray, List.set_cons_zero, List.set_cons_succ])
  (refine Kr.tP 5 (v := ?_) rfl (by kernel_rfl) (fun _ _ _ h => h) (by rfl) (fun _ => (H.sub [1, 3, 2] rfl)) (fun wx => ?_) ?_; rotate_left; (focus (go_simp; first | done | rfl)); (try simp only [Act.put, List.getElem_toArray, List.getElem_cons_zero, List.getElem_cons_succ, List.setIfInBounds_toArray, List.set_cons_zero, List.set_cons_succ]))
  (refine Kr.tP 6 (v := ?_) rfl (by kernel_rfl) (fun _ _ _ h => h) (by rfl) (fun _ => (H.sub [1, 3, 2] rfl)) (fun wx => ?_) ?_; rotate_left; (focus (go_simp; first | done | rfl)); (try simp only [Act.put, List.getElem_toArray, List.getElem_cons_zero, List.getElem_cons_succ, List.setIfInBounds_toArray, List.set_cons_zero, List.set_cons_succ]))
  (refine Kr.tP 7 (v := ?_) rfl (by kernel_rfl) (fun _ _ _ h => h) (by rfl) (fun _ => (H.sub [1, 3, 2] rfl)) (fun wx => ?_) ?_; rotate_left; (focus (go_simp; first | done | rfl)); (try simp only [Act.put, List.getElem_toArray, List.getElem_cons_zero, List.getElem_cons_succ, List.setIfInBounds_toArray, List.set_cons_zero, List.set_cons_succ]))
  (refine Kr.tP 8 (v := ?_) rfl (by kernel_rfl) (fun _ _ _ h => h) (by rfl) (fun _ => (H.sub [1, 3, 2] rfl)) (fun wx => ?_) ?_; rotate_left; (focus (go_simp; first | done | rfl)); (try simp only [Act.put, List.getElem_toArray, List.getElem_cons_zero, List.getElem_cons_succ, List.setIfInBounds_toArray, List.set_cons_zero, List.set_cons_succ]))
  (refine Kr.tP 9 (v := ?_) rfl (by kernel_rfl) (fun _ _ _ h => h) (by rfl) (fun _ => (H.sub [1, 3, 2] rfl)) (fun wx => ?_) ?_; rotate_left; (focus (go_simp; first | done | rfl)); (try simp only [Act.put, List.getElem_toArray, List.getElem_cons_zero, List.getElem_cons_succ, List.setIfInBounds_toArray, List.set_cons_zero, List.set_cons_succ]))
  refine Kr.doneL (by kernel_rfl) ?_ _
  go_upto_region 9 with fail
  refine Kr.seqStart ?_
  have hk := H.c
  simp only [Kr.Cells] at hk
  iterate 2 (refine Kr.seqP (v := ?_) (by rfl) ?_ ?_; rotate_left; (focus (go_simp; first | done | rfl)); (try simp only [Act.put, List.getElem_toArray, List.getElem_cons_zero, List.getElem_cons_succ, List.setIfInBounds_toArray, List.set_cons_zero, List.set_cons_succ]))
  refine Kr.seqS (fun K hK => ?_)
  go_simp
  clear hk
  obtain ⟨y17, hy⟩ : ∃ y, y16.alloc (.cells #[.slice pa na ca] 24) = y := ⟨_, rfl⟩
  obtain ⟨by17, hb⟩ : ∃ b, y16.heap.size = b := ⟨_, rfl⟩
  rw [hy, hb]
  have HN : Nats y17 by17 0 [(pa, na, ca)] := nats_mk hy hb
  have hg : Gr y16 y17 := hy ▸ (Gr.refl _).alloc _
  replace H := H.grow hg
  clear hg hy hb
  refine hK.out _ _ ?_; clear hK K
  (try simp only [Act.put, List.getElem_toArray, List.getElem_cons_zero, List.getElem_cons_succ, List.setIfInBounds_toArray, List.set_cons_zero, List.set_cons_succ])
  refine Kr.seqS (fun K hK => ?_)
  go_simp
  go_at_call 22
  refine (HF.out _ _ H.g HN).mono ?_
  rintro e y18 ⟨rfl, hg⟩
  replace H := H.grow hg
  clear hg
  clear HN
  refine hK.out _ _ ?_; clear hK K
  (try simp only [Act.put, List.getElem_toArray, List.getElem_cons_zero, List.getElem_cons_succ, List.setIfInBounds_toArray, List.set_cons_zero, List.set_cons_succ])
  (refine Kr.seqP (v := ?_) (by rfl) ?_ ?_; rotate_left; (focus (go_simp; first | done | rfl)); (try simp only [Act.put, List.getElem_toArray, List.getElem_cons_zero, List.getElem_cons_succ, List.setIfInBounds_toArray, List.set_cons_zero, List.set_cons_succ]))
  refine Kr.seqDone ?_
  go_upto_region 10 with fail
  refine Kr.seqStart ?_
  iterate 2 (refine Kr.seqP (v := ?_) (by rfl) ?_ ?_; rotate_left; (focus (go_simp; first | done | rfl)); (try simp only [Act.put, List.getElem_toArray, List.getElem_cons_zero, List.getElem_cons_succ, List.setIfInBounds_toArray, List.set_cons_zero, List.set_cons_succ]))
  refine Kr.seqDone ?_
  go_upto_region 11 with fail
  refine Kr.seqStart ?_
  (refine Kr.seqP (v := ?_) (by rfl) ?_ ?_; rotate_left; (focus (go_simp; first | done | rfl)); (try simp only [Act.put, List.getElem_toArray, List.getElem_cons_zero, List.getElem_cons_succ, List.setIfInBounds_toArray, List.set_cons_zero, List.set_cons_succ]))
  have hk := H.c
  simp only [Kr.Cells] at hk
  iterate 9 (refine Kr.seqP (v := ?_) (by rfl) ?_ ?_; rotate_left; (focus (go_simp; first | done | rfl)); (try simp only [Act.put, List.getElem_toArray, List.getElem_cons_zero, List.getElem_cons_succ, List.setIfInBounds_toArray, List.set_cons_zero, List.set_cons_succ]))
  clear hk
  refine Kr.seqDone ?_
  go_wp2
  go_ret
  exact ⟨rfl, H.g⟩
set_option linter.unusedSimpArgs false in
set_option maxRecDepth 100000 in
set_option maxHeartbeats 16000000 in
theorem gcd_ok {pa : Option Addr} {na ca : Nat} {pb : Option Addr} {nb cb : Nat} {x y : Nat} {w : World} (hs : ∀ x ∈ [(pa, na, ca), (pb, nb, cb)], x.2.1 ≤ 6) (ha : Nw w pa na ca (digs x)) (hb : Nw w pb nb cb (digs y)) (vx : x < pw 8) (vy : y < pw 8) (hf : Fst w (.agg #[.slice pb nb cb]) [(pa, na, ca)] 0) (hx : x < y) (hg1 : Nat.gcd x y = 1) :
    Calls Try.prog 5 #[.agg #[.slice pa na ca], .agg #[.slice pb nb cb]] w fun e w' => e = .returned (.bool true) ∧ Gr w w' := by
  have HS := Lib.hid hs
  have HF := Lib.hid hf
  clear hs hf
  have VX : Hid (x < pw 64) := Lib.hid (Nat.lt_of_lt_of_le vx (pw_mono (by decide)))
  have VY : Hid (y < pw 64) := Lib.hid (Nat.lt_of_lt_of_le vy (pw_mono (by decide)))
  have VX9 : Hid (x < pw 900) := Lib.hid (Nat.lt_of_lt_of_le vx (pw_mono (by decide)))
  have VY9 : Hid (y < pw 900) := Lib.hid (Nat.lt_of_lt_of_le vy (pw_mono (by decide)))
  have VY3 : Hid (y < pw 32) := Lib.hid (Nat.lt_of_lt_of_le vy (pw_mono (by decide)))
  clear vx vy
  have HX := Lib.hid hx
  have HG1 := Lib.hid hg1
  clear hx hg1
  have H := Sta.start w
  replace H := H.num ha
  replace H := H.num hb
  go_enter Try.func5, Try.ntmps5
  go_upto_region 0 with fail
  refine Kr.seqStart ?_
  refine Kr.seqS (fun K hK => ?_)
  go_simp
  obtain ⟨y1, hy⟩ : ∃ y, w.alloc (.cells #[.slice pa na ca] 24) = y := ⟨_, rfl⟩
  obtain ⟨ba, hb⟩ : ∃ b, w.heap.size = b := ⟨_, rfl⟩
  rw [hy, hb]
  replace H := H.alloc hy hb rfl
  clear hy hb
  refine hK.out _ _ ?_; clear hK K
  (try simp only [Act.put, List.getElem_toArray, List.getElem_cons_zero, List.getElem_cons_succ, List.setIfInBounds_toArray, List.set_cons_zero, List.set_cons_succ])
  refine Kr.seqS (fun K hK => ?_)
  go_simp
  obtain ⟨y2, hy⟩ : ∃ y, y1.alloc (.cells #[.slice pb nb cb] 24) = y := ⟨_, rfl⟩
  obtain ⟨bb, hb⟩ : ∃ b, y1.heap.size = b := ⟨_, rfl⟩
  rw [hy, hb]
  replace H := H.alloc hy hb rfl
  clear hy hb
  refine hK.out _ _ ?_; clear hK K
  (try simp only [Act.put, List.getElem_toArray, List.getElem_cons_zero, List.getElem_cons_succ, List.setIfInBounds_toArray, List.set_cons_zero, List.set_cons_succ])
  (refine Kr.seqP (v := ?_) (by rfl) ?_ ?_; rotate_left; (focus (go_simp; first | done | rfl)); (try simp only [Act.put, List.getElem_toArray, List.getElem_cons_zero, List.getElem_cons_succ, List.setIfInBounds_toArray, List.set_cons_zero, List.set_cons_succ]))
  refine Kr.seqDone ?_
  go_upto_region 1 with fail
  refine Kr.seqStart ?_
  refine Kr.seqS (fun K hK => ?_)
  go_simp
  go_at_call 18
  refine (awake3 _).mono ?_
  rintro e y3 ⟨rfl, hg⟩
  replace H := H.grow hg
  clear hg
  refine hK.out _ _ ?_; clear hK K
  (try simp only [Act.put, List.getElem_toArray, List.getElem_cons_zero, List.getElem_cons_succ, List.setIfInBounds_toArray, List.set_cons_zero, List.set_cons_succ])
  iterate 2 (refine Kr.seqP (v := ?_) (by rfl) ?_ ?_; rotate_left; (focus (go_simp; first | done | rfl)); (try simp only [Act.put, List.getElem_toArray, List.getElem_cons_zero, List.getElem_cons_succ, List.setIfInBounds_toArray, List.set_cons_zero, List.set_cons_succ]))
  have hk := H.c
  simp only [Kr.Cells] at hk
  iterate 2 (refine Kr.seqP (v := ?_) (by rfl) ?_ ?_; rotate_left; (focus (go_simp; first | done | rfl)); (try simp only [Act.put, List.getElem_toArray, List.getElem_cons_zero, List.getElem_cons_succ, List.setIfInBounds_toArray, List.set_cons_zero, List.set_cons_succ]))
  refine Kr.seqS (fun K hK => ?_)
  go_simp
  clear hk
  obtain ⟨y4, hy⟩ : ∃ y, y3.alloc (.cells #[.slice pa na ca, .slice pb nb cb] 24) = y := ⟨_, rfl⟩
  obtain ⟨by4, hb⟩ : ∃ b, y3.heap.size = b := ⟨_, rfl⟩
  rw [hy, hb]
  have HN : Nats y4 by4 0 [(pa, na, ca), (pb, nb, cb)] := nats_mk hy hb
  have hg : Gr y3 y4 := hy ▸ (Gr.refl _).alloc _
  replace H := H.grow hg
  clear hg hy hb
  refine hK.out _ _ ?_; clear hK K
  (try simp only [Act.put, List.getElem_toArray, List.getElem_cons_zero, List.getElem_cons_succ, List.setIfInBounds_toArray, List.set_cons_zero, List.set_cons_succ])
  refine Kr.seqS (fun K hK => ?_)
  go_simp
  go_at_call 19
  refine (few_ok HN (by simp) HS.out).mono ?_
  rintro e y5 ⟨rfl, hg⟩
  replace H := H.grow hg
  clear hg
  clear HN
  refine hK.out _ _ ?_; clear hK K
  (try simp only [Act.put, List.getElem_toArray, List.getElem_cons_zero, List.getElem_cons_succ, List.setIfInBounds_toArray, List.set_cons_zero, List.set_cons_succ])
  iterate 2 (refine Kr.seqP (v := ?_) (by rfl) ?_ ?_; rotate_left; (focus (go_simp; first | done | rfl)); (try simp only [Act.put, List.getElem_toArray, List.getElem_cons_zero, List.getElem_cons_succ, List.setIfInBounds_toArray, List.set_cons_zero, List.set_cons_succ]))
  refine Kr.seqDone ?_
  go_upto_region 3 with fail
  refine Kr.seqStart ?_
  have hk := H.c
  simp only [Kr.Cells] at hk
  iterate 2 (refine Kr.seqP (v := ?_) (by rfl) ?_ ?_; rotate_left; (focus (go_simp; first | done | rfl)); (try simp only [Act.put, List.getElem_toArray, List.getElem_cons_zero, List.getElem_cons_succ, List.setIfInBounds_toArray, List.set_cons_zero, List.set_cons_succ]))
  refine Kr.seqS (fun K hK => ?_)
  go_simp
  go_at_call 31
  refine (mGcd_ok (H.nw 1 rfl) (H.nw 0 rfl) VX.out VY.out).mono ?_
  rintro e y6 ⟨p6, n6, c6, rfl, hr, hg⟩
  clear hk
  replace H := H.grow hg
  replace H := H.num hr.toNw
  clear hr hg
  refine hK.out _ _ ?_; clear hK K
  (try simp only [Act.put, List.getElem_toArray, List.getElem_cons_zero, List.getElem_cons_succ, List.setIfInBounds_toArray, List.set_cons_zero, List.set_cons_succ])
  iterate 3 (refine Kr.seqP (v := ?_) (by rfl) ?_ ?_; rotate_left; (focus (go_simp; first | done | rfl)); (try simp only [Act.put, List.getElem_toArray, List.getElem_cons_zero, List.getElem_cons_succ, List.setIfInBounds_toArray, List.set_cons_zero, List.set_cons_succ]))
  refine Kr.seqS (fun K hK => ?_)
  go_simp
  obtain ⟨y7, hy⟩ : ∃ y, y6.alloc (.cells #[.slice none 0 0] 24) = y := ⟨_, rfl⟩
  obtain ⟨bx, hb⟩ : ∃ b, y6.heap.size = b := ⟨_, rfl⟩
  rw [hy, hb]
  replace H := H.alloc hy hb rfl
  clear hy hb
  refine hK.out _ _ ?_; clear hK K
  (try simp only [Act.put, List.getElem_toArray, List.getElem_cons_zero, List.getElem_cons_succ, List.setIfInBounds_toArray, List.set_cons_zero, List.set_cons_succ])
  have hk := H.c
  simp only [Kr.Cells] at hk
  refine Kr.seqS (fun K hK => ?_)
  go_simp
  clear hk
  obtain ⟨y8, hy⟩ : ∃ y, y7.setCell ⟨bx, 0, none⟩ (.slice p6 n6 c6) = y := ⟨_, rfl⟩
  rw [hy]
  replace H := H.store 0 hy rfl rfl
  dsimp only [List.set] at H
  clear hy
  refine hK.out _ _ ?_; clear hK K
  (try simp only [Act.put, List.getElem_toArray, List.getElem_cons_zero, List.getElem_cons_succ, List.setIfInBounds_toArray, List.set_cons_zero, List.set_cons_succ])
  (refine Kr.seqP (v := ?_) (by rfl) ?_ ?_; rotate_left; (focus (go_simp; first | done | rfl)); (try simp only [Act.put, List.getElem_toArray, List.getElem_cons_zero, List.getElem_cons_succ, List.setIfInBounds_toArray, List.set_cons_zero, List.set_cons_succ]))
  refine Kr.seqDone ?_
  go_upto_region 4 with fail
  refine Kr.seqStart ?_
  have hk := H.c
  simp only [Kr.Cells] at hk
  iterate 2 (refine Kr.seqP (v := ?_) (by rfl) ?_ ?_; rotate_left; (focus (go_simp; first | done | rfl)); (try simp only [Act.put, List.getElem_toArray, List.getElem_cons_zero, List.getElem_cons_succ, List.setIfInBounds_toArray, List.set_cons_zero, List.set_cons_succ]))
  refine Kr.seqS (fun K hK => ?_)
  go_simp
  go_at_call 32
  refine (mInverse_ok (H.nw 2 rfl) (H.nw 1 rfl) HX.out VY3.out HG1.out (chk_ok (H.nw 2 rfl) (H.nw 1 rfl) (nw_none _) (H.nw 1 rfl) HX.out (Nat.lt_of_le_of_lt (Nat.zero_le _) HX.out) VY3.out VY3.out)).mono ?_
  rintro e y9 ⟨z1, hI, pi, ni, ci, rfl, hr, hg⟩
  have HI1 := Lib.hid hI
  clear hk
  replace H := H.grow hg
  replace H := H.num hr
  clear hr hg hI
  refine hK.out _ _ ?_; clear hK K
  (try simp only [Act.put, List.getElem_toArray, List.getElem_cons_zero, List.getElem_cons_succ, List.setIfInBounds_toArray, List.set_cons_zero, List.set_cons_succ])
  iterate 3 (refine Kr.seqP (v := ?_) (by rfl) ?_ ?_; rotate_left; (focus (go_simp; first | done | rfl)); (try simp only [Act.put, List.getElem_toArray, List.getElem_cons_zero, List.getElem_cons_succ, List.setIfInBounds_toArray, List.set_cons_zero, List.set_cons_succ]))
  refine Kr.seqS (fun K hK => ?_)
  go_simp
  obtain ⟨y10, hy⟩ : ∃ y, y9.alloc (.cells #[.slice none 0 0] 24) = y := ⟨_, rfl⟩
  obtain ⟨b_y, hb⟩ : ∃ b, y9.heap.size = b := ⟨_, rfl⟩
  rw [hy, hb]
  replace H := H.alloc hy hb rfl
  clear hy hb
  refine hK.out _ _ ?_; clear hK K
  (try simp only [Act.put, List.getElem_toArray, List.getElem_cons_zero, List.getElem_cons_succ, List.setIfInBounds_toArray, List.set_cons_zero, List.set_cons_succ])
  have hk := H.c
  simp only [Kr.Cells] at hk
  refine Kr.seqS (fun K hK => ?_)
  go_simp
  clear hk
  obtain ⟨y11, hy⟩ : ∃ y, y10.setCell ⟨b_y, 0, none⟩ (.slice pi ni ci) = y := ⟨_, rfl⟩
  rw [hy]
  replace H := H.store 0 hy rfl rfl
  dsimp only [List.set] at H
  clear hy
  refine hK.out _ _ ?_; clear hK K
  (try simp only [Act.put, List.getElem_toArray, List.getElem_cons_zero, List.getElem_cons_succ, List.setIfInBounds_toArray, List.set_cons_zero, List.set_cons_succ])
  (refine Kr.seqP (v := ?_) (by rfl) ?_ ?_; rotate_left; (focus (go_simp; first | done | rfl)); (try simp only [Act.put, List.getElem_toArray, List.getElem_cons_zero, List.getElem_cons_succ, List.setIfInBounds_toArray, List.set_cons_zero, List.set_cons_succ]))
  refine Kr.seqDone ?_
  go_upto_region 5 with fail
  refine Kr.seqStart ?_
  have hk := H.c
  simp only [Kr.Cells] at hk
  (refine Kr.seqP (v := ?_) (by rfl) ?_ ?_; rotate_left; (focus (go_simp; first | done | rfl)); (try simp only [Act.put, List.getElem_toArray, List.getElem_cons_zero, List.getElem_cons_succ, List.setIfInBounds_toArray, List.set_cons_zero, List.set_cons_succ]))
  refine Kr.seqS (fun K hK => ?_)
  go_simp
  go_at_call 29
  refine (valid3_any _ _ _ _ _ (H.nw 3 rfl)).mono ?_
  rintro e y12 ⟨rfl, hg⟩
  rw [dv VX.out]
  clear hk
  replace H := H.grow hg
  clear hg
  refine hK.out _ _ ?_; clear hK K
  (try simp only [Act.put, List.getElem_toArray, List.getElem_cons_zero, List.getElem_cons_succ, List.setIfInBounds_toArray, List.set_cons_zero, List.set_cons_succ])
  iterate 2 (refine Kr.seqP (v := ?_) (by rfl) ?_ ?_; rotate_left; (focus (go_simp; first | done | rfl)); (try simp only [Act.put, List.getElem_toArray, List.getElem_cons_zero, List.getElem_cons_succ, List.setIfInBounds_toArray, List.set_cons_zero, List.set_cons_succ]))
  have hk := H.c
  simp only [Kr.Cells] at hk
  (refine Kr.seqP (v := ?_) (by rfl) ?_ ?_; rotate_left; (focus (go_simp; first | done | rfl)); (try simp only [Act.put, List.getElem_toArray, List.getElem_cons_zero, List.getElem_cons_succ, List.setIfInBounds_toArray, List.set_cons_zero, List.set_cons_succ]))
  refine Kr.seqS (fun K hK => ?_)
  go_simp
  go_at_call 29
  refine (valid3_any _ _ _ _ _ (H.nw 2 rfl)).mono ?_
  rintro e y13 ⟨rfl, hg⟩
  rw [dv VY.out]
  clear hk
  replace H := H.grow hg
  clear hg
  refine hK.out _ _ ?_; clear hK K
  (try simp only [Act.put, List.getElem_toArray, List.getElem_cons_zero, List.getElem_cons_succ, List.setIfInBounds_toArray, List.set_cons_zero, List.set_cons_succ])
  iterate 2 (refine Kr.seqP (v := ?_) (by rfl) ?_ ?_; rotate_left; (focus (go_simp; first | done | rfl)); (try simp only [Act.put, List.getElem_toArray, List.getElem_cons_zero, List.getElem_cons_succ, List.setIfInBounds_toArray, List.set_cons_zero, List.set_cons_succ]))
  refine Kr.seqDone ?_
  go_upto_region 7 with fail
  refine Kr.startL (fun W' => Kr.Cells W' [(bx, 0, .slice p6 n6 c6), (ba, 0, .slice pa na ca), (bb, 0, .slice pb nb cb)]) [] (by kernel_rfl) ?_
  have gd : Gr y13 y13.drew := (Gr.refl _).drew
  generalize y13.drew = d14 at gd ⊢
  replace H := H.grow gd
  clear gd
  (refine Kr.tS 0 [] (v := ?_) rfl (by kernel_rfl) (fun _ _ _ h => h) (by rfl) (H.sub [1, 3, 2] rfl) (fun wx hSx => ?_) ?_; rotate_left; (focus (simp only [Kr.Cells] at hSx; go_simp; first | done | rfl)); (try simp only [Act.put, List.getElem_toArray, List.getElem_cons_zero, List.getElem_cons_succ, List.setIfInBounds_toArray, List.set_cons_zero, List.set_cons_succ]))
  (refine Kr.tS 1 [] (v := ?_) rfl (by kernel_rfl) (fun _ _ _ h => h) (by rfl) (H.sub [1, 3, 2] rfl) (fun wx hSx => ?_) ?_; rotate_left; (focus (simp only [Kr.Cells] at hSx; go_simp; first | done | rfl)); (try simp only [Act.put, List.getElem_toArray, List.getElem_cons_zero, List.getElem_cons_succ, List.setIfInBounds_toArray, List.set_cons_zero, List.set_cons_succ]))
  (refine Kr.tS 2 [] (v := ?_) rfl (by kernel_rfl) (fun _ _ _ h => h) (by rfl) (H.sub [1, 3, 2] rfl) (fun wx hSx => ?_) ?_; rotate_left; (focus (simp only [Kr.Cells] at hSx; go_simp; first | done | rfl)); (try simp only [Act.put, List.getElem_toArray, List.getElem_cons_zero, List.getElem_cons_succ, List.setIfInBounds_toArray, List.set_cons_zero, List.set_cons_succ]))
  refine Kr.readyL (rs := [3]) (by kernel_rfl) (by simp) ?_
  refine Kr.AllL.cons rfl (fun K hK => ?_) Kr.AllL.nil
  go_simp
  go_at_call 33
  refine (rgcd3_v (H.nw 3 rfl) (H.nw 2 rfl) VX9.out VY9.out).mono ?_
  rintro e y15 ⟨p15, n15, c15, rfl, hr, hg⟩
  replace H := H.grow hg
  replace H := H.num hr
  clear hr hg
  refine hK.out _ _ (fun _ => (H.sub [1, 3, 2] rfl)) ?_; clear hK K
  (try simp only [Act.put, List.getElem_toArray, List.getElem_cons_zero, List.getElem_cons_succ, List.setIfInBounds_toArray, List.set_cons_zero, List.set_cons_succ])
  refine Kr.readyL (rs := [4]) (by kernel_rfl) (by simp) ?_
  refine Kr.AllL.cons rfl (fun K hK => ?_) Kr.AllL.nil
  go_simp
  go_at_call 23
  refine (same3_v (H.nw 2 rfl) (H.nw 0 rfl)).mono ?_
  rintro e y16 ⟨rfl, hg⟩
  rw [decide_eq_true rfl]
  replace H := H.grow hg
  clear hg
  refine hK.out _ _ (fun _ => (H.sub [1, 3, 2] rfl)) ?_; clear hK K
  (try simp only [Act.put, List.getElem_toArray, List.getElem_cons_zero, List.getElem_cons_succ, List.setIfInBounds_toArray, List.set_cons_zero, List.set_cons_succ])
  (refine Kr.tP 5 (v := ?_) rfl (by kernel_rfl) (fun _ _ _ h => h) (by rfl) (fun _ => (H.sub [1, 3, 2] rfl)) (fun wx => ?_) ?_; rotate_left; (focus (go_simp; first | done | rfl)); (try simp only [Act.put, List.getElem_toArray, List.getElem_cons_zero, List.getElem_cons_succ, List.setIfInBounds_toArray, List.set_cons_zero, List.set_cons_succ]))
  (refine Kr.tP 6 (v := ?_) rfl (by kernel_rfl) (fun _ _ _ h => h) (by rfl) (fun _ => (H.sub [1, 3, 2] rfl)) (fun wx => ?_) ?_; rotate_left; (focus (go_simp; first | done | rfl)); (try simp only [Act.put, List.getElem_toArray, List.getElem_cons_zero, List.getElem_cons_succ, List.setIfInBounds_toArray, List.set_cons_zero, List.set_cons_succ]))
  (refine Kr.tP 7 (v := ?_) rfl (by kernel_rfl) (fun _ _ _ h => h) (by rfl) (fun _ => (H.sub [1, 3, 2] rfl)) (fun wx => ?_) ?_; rotate_left; (focus (go_simp; first | done | rfl)); (try simp only [Act.put, List.getElem_toArray, List.getElem_cons_zero, List.getElem_cons_succ, List.setIfInBounds_toArray, List.set_cons_zero, List.set_cons_succ]))
  (refine Kr.tP 8 (v := ?_) rfl (by kernel_rfl) (fun _ _ _ h => h) (by rfl) (fun _ => (H.sub [1, 3, 2] rfl)) (fun wx => ?_) ?_; rotate_left; (focus (go_simp; first | done | rfl)); (try simp only [Act.put, List.getElem_toArray, List.getElem_cons_zero, List.getElem_cons_succ, List.setIfInBounds_toArray, List.set_cons_zero, List.set_cons_succ]))
  (refine Kr.tP 9 (v := ?_) rfl (by kernel_rfl) (fun _ _ _ h => h) (by rfl) (fun _ => (H.sub [1, 3, 2] rfl)) (fun wx => ?_) ?_; rotate_left; (focus (go_simp; first | done | rfl)); (try simp only [Act.put, List.getElem_toArray, List.getElem_cons_zero, List.getElem_cons_succ, List.setIfInBounds_toArray, List.set_cons_zero, List.set_cons_succ]))
  refine Kr.doneL (by kernel_rfl) ?_ _
  go_upto_region 9 with fail
  refine Kr.seqStart ?_
  have hk := H.c
  simp only [Kr.Cells] at hk
  iterate 2 (refine Kr.seqP (v := ?_) (by rfl) ?_ ?_; rotate_left; (focus (go_simp; first | done | rfl)); (try simp only [Act.put, List.getElem_toArray, List.getElem_cons_zero, List.getElem_cons_succ, List.setIfInBounds_toArray, List.set_cons_zero, List.set_cons_succ]))
  refine Kr.seqS (fun K hK => ?_)
  go_simp
  clear hk
  obtain ⟨y17, hy⟩ : ∃ y, y16.alloc (.cells #[.slice pa na ca] 24) = y := ⟨_, rfl⟩
  obtain ⟨by17, hb⟩ : ∃ b, y16.heap.size = b := ⟨_, rfl⟩
  rw [hy, hb]
  have HN : Nats y17 by17 0 [(pa, na, ca)] := nats_mk hy hb
  have hg : Gr y16 y17 := hy ▸ (Gr.refl _).alloc _
  replace H := H.grow hg
  clear hg hy hb
  refine hK.out _ _ ?_; clear hK K
  (try simp only [Act.put, List.getElem_toArray, List.getElem_cons_zero, List.getElem_cons_succ, List.setIfInBounds_toArray, List.set_cons_zero, List.set_cons_succ])
  refine Kr.seqS (fun K hK => ?_)
  go_simp
  go_at_call 22
  refine (HF.out _ _ H.g HN).mono ?_
  rintro e y18 ⟨rfl, hg⟩
  replace H := H.grow hg
  clear hg
  clear HN
  refine hK.out _ _ ?_; clear hK K
  (try simp only [Act.put, List.getElem_toArray, List.getElem_cons_zero, List.getElem_cons_succ, List.setIfInBounds_toArray, List.set_cons_zero, List.set_cons_succ])
  (refine Kr.seqP (v := ?_) (by rfl) ?_ ?_; rotate_left; (focus (go_simp; first | done | rfl)); (try simp only [Act.put, List.getElem_toArray, List.getElem_cons_zero, List.getElem_cons_succ, List.setIfInBounds_toArray, List.set_cons_zero, List.set_cons_succ]))
  refine Kr.seqDone ?_
  go_upto_region 10 with fail
  refine Kr.seqStart ?_
  iterate 2 (refine Kr.seqP (v := ?_) (by rfl) ?_ ?_; rotate_left; (focus (go_simp; first | done | rfl)); (try simp only [Act.put, List.getElem_toArray, List.getElem_cons_zero, List.getElem_cons_succ, List.setIfInBounds_toArray, List.set_cons_zero, List.set_cons_succ]))
  refine Kr.seqDone ?_
  go_upto_region 12 with fail
  refine Kr.seqStart ?_
  have hk := H.c
  simp only [Kr.Cells] at hk
  iterate 2 (refine Kr.seqP (v := ?_) (by rfl) ?_ ?_; rotate_left; (focus (go_simp; first | done | rfl)); (try simp only [Act.put, List.getElem_toArray, List.getElem_cons_zero, List.getElem_cons_succ, List.setIfInBounds_toArray, List.set_cons_zero, List.set_cons_succ]))
  refine Kr.seqS (fun K hK => ?_)
  go_simp
  go_at_call 34
  refine (rinv3_v (H.nw 4 rfl) (H.nw 3 rfl) HX.out VY9.out).mono ?_
  rintro e y19 ⟨pj, nj, cj, z2, rfl, hI, hr, hg⟩
  rw [decide_eq_true HG1.out]
  have hz := inv_unique HI1.out (hI HG1.out)
  subst hz
  clear hk
  replace H := H.grow hg
  replace H := H.num hr
  clear hr hg hI
  refine hK.out _ _ ?_; clear hK K
  (try simp only [Act.put, List.getElem_toArray, List.getElem_cons_zero, List.getElem_cons_succ, List.setIfInBounds_toArray, List.set_cons_zero, List.set_cons_succ])
  iterate 3 (refine Kr.seqP (v := ?_) (by rfl) ?_ ?_; rotate_left; (focus (go_simp; first | done | rfl)); (try simp only [Act.put, List.getElem_toArray, List.getElem_cons_zero, List.getElem_cons_succ, List.setIfInBounds_toArray, List.set_cons_zero, List.set_cons_succ]))
  refine Kr.seqS (fun K hK => ?_)
  go_simp
  obtain ⟨y20, hy⟩ : ∃ y, y19.alloc (.cells #[.slice none 0 0] 24) = y := ⟨_, rfl⟩
  obtain ⟨bz, hb⟩ : ∃ b, y19.heap.size = b := ⟨_, rfl⟩
  rw [hy, hb]
  replace H := H.alloc hy hb rfl
  clear hy hb
  refine hK.out _ _ ?_; clear hK K
  (try simp only [Act.put, List.getElem_toArray, List.getElem_cons_zero, List.getElem_cons_succ, List.setIfInBounds_toArray, List.set_cons_zero, List.set_cons_succ])
  have hk := H.c
  simp only [Kr.Cells] at hk
  refine Kr.seqS (fun K hK => ?_)
  go_simp
  clear hk
  obtain ⟨y21, hy⟩ : ∃ y, y20.setCell ⟨bz, 0, none⟩ (.slice pj nj cj) = y := ⟨_, rfl⟩
  rw [hy]
  replace H := H.store 0 hy rfl rfl
  dsimp only [List.set] at H
  clear hy
  refine hK.out _ _ ?_; clear hK K
  (try simp only [Act.put, List.getElem_toArray, List.getElem_cons_zero, List.getElem_cons_succ, List.setIfInBounds_toArray, List.set_cons_zero, List.set_cons_succ])
  (refine Kr.seqP (v := ?_) (by rfl) ?_ ?_; rotate_left; (focus (go_simp; first | done | rfl)); (try simp only [Act.put, List.getElem_toArray, List.getElem_cons_zero, List.getElem_cons_succ, List.setIfInBounds_toArray, List.set_cons_zero, List.set_cons_succ]))
  refine Kr.seqDone ?_
  go_upto_region 13 with fail
  refine Kr.seqStart ?_
  iterate 2 (refine Kr.seqP (v := ?_) (by rfl) ?_ ?_; rotate_left; (focus (go_simp; first | done | rfl)); (try simp only [Act.put, List.getElem_toArray, List.getElem_cons_zero, List.getElem_cons_succ, List.setIfInBounds_toArray, List.set_cons_zero, List.set_cons_succ]))
  refine Kr.seqDone ?_
  go_upto_region 15 with fail
  refine Kr.seqStart ?_
  have hk := H.c
  simp only [Kr.Cells] at hk
  iterate 2 (refine Kr.seqP (v := ?_) (by rfl) ?_ ?_; rotate_left; (focus (go_simp; first | done | rfl)); (try simp only [Act.put, List.getElem_toArray, List.getElem_cons_zero, List.getElem_cons_succ, List.setIfInBounds_toArray, List.set_cons_zero, List.set_cons_succ]))
  refine Kr.seqS (fun K hK => ?_)
  go_simp
  go_at_call 23
  refine (same3_v (H.nw 2 rfl) (H.nw 0 rfl)).mono ?_
  rintro e y22 ⟨rfl, hg⟩
  rw [decide_eq_true rfl]
  clear hk
  replace H := H.grow hg
  clear hg
  refine hK.out _ _ ?_; clear hK K
  (try simp only [Act.put, List.getElem_toArray, List.getElem_cons_zero, List.getElem_cons_succ, List.setIfInBounds_toArray, List.set_cons_zero, List.set_cons_succ])
  iterate 5 (refine Kr.seqP (v := ?_) (by rfl) ?_ ?_; rotate_left; (focus (go_simp; first | done | rfl)); (try simp only [Act.put, List.getElem_toArray, List.getElem_cons_zero, List.getElem_cons_succ, List.setIfInBounds_toArray, List.set_cons_zero, List.set_cons_succ]))
  refine Kr.seqDone ?_
  go_wp2
  go_ret
  exact ⟨rfl, H.g⟩
set_option linter.unusedSimpArgs false in
set_option maxRecDepth 100000 in
set_option maxHeartbeats 16000000 in
theorem gcd_no {pa : Option Addr} {na ca : Nat} {pb : Option Addr} {nb cb : Nat} {x y : Nat} {w : World} (hs : ∀ x ∈ [(pa, na, ca), (pb, nb, cb)], x.2.1 ≤ 6) (ha : Nw w pa na ca (digs x)) (hb : Nw w pb nb cb (digs y)) (vx : x < pw 8) (vy : y < pw 8) (hf : Fst w (.agg #[.slice pb nb cb]) [(pa, na, ca)] 0) (hx : x < y) (hg1 : Nat.gcd x y ≠ 1) :
    Calls Try.prog 5 #[.agg #[.slice pa na ca], .agg #[.slice pb nb cb]] w fun e w' => e = .returned (.bool true) ∧ Gr w w' := by
  have HS := Lib.hid hs
  have HF := Lib.hid hf
  clear hs hf
  have VX : Hid (x < pw 64) := Lib.hid (Nat.lt_of_lt_of_le vx (pw_mono (by decide)))
  have VY : Hid (y < pw 64) := Lib.hid (Nat.lt_of_lt_of_le vy (pw_mono (by decide)))
  have VX9 : Hid (x < pw 900) := Lib.hid (Nat.lt_of_lt_of_le vx (pw_mono (by decide)))
  have VY9 : Hid (y < pw 900) := Lib.hid (Nat.lt_of_lt_of_le vy (pw_mono (by decide)))
  have VY3 : Hid (y < pw 32) := Lib.hid (Nat.lt_of_lt_of_le vy (pw_mono (by decide)))
  clear vx vy
  have HX := Lib.hid hx
  have HG1 := Lib.hid hg1
  clear hx hg1
  have H := Sta.start w
  replace H := H.num ha
  replace H := H.num hb
  go_enter Try.func5, Try.ntmps5
  go_upto_region 0 with fail
  refine Kr.seqStart ?_
  refine Kr.seqS (fun K hK => ?_)
  go_simp
  obtain ⟨y1, hy⟩ : ∃ y, w.alloc (.cells #[.slice pa na ca] 24) = y := ⟨_, rfl⟩
  obtain ⟨ba, hb⟩ : ∃ b, w.heap.size = b := ⟨_, rfl⟩
  rw [hy, hb]
  replace H := H.alloc hy hb rfl
  clear hy hb
  refine hK.out _ _ ?_; clear hK K
  (try simp only [Act.put, List.getElem_toArray, List.getElem_cons_zero, List.getElem_cons_succ, List.setIfInBounds_toArray, List.set_cons_zero, List.set_cons_succ])
  refine Kr.seqS (fun K hK => ?_)
  go_simp
  obtain ⟨y2, hy⟩ : ∃ y, y1.alloc (.cells #[.slice pb nb cb] 24) = y := ⟨_, rfl⟩
  obtain ⟨bb, hb⟩ : ∃ b, y1.heap.size = b := ⟨_, rfl⟩
  rw [hy, hb]
  replace H := H.alloc hy hb rfl
  clear hy hb
  refine hK.out _ _ ?_; clear hK K
  (try simp only [Act.put, List.getElem_toArray, List.getElem_cons_zero, List.getElem_cons_succ, List.setIfInBounds_toArray, List.set_cons_zero, List.set_cons_succ])
  (refine Kr.seqP (v := ?_) (by rfl) ?_ ?_; rotate_left; (focus (go_simp; first | done | rfl)); (try simp only [Act.put, List.getElem_toArray, List.getElem_cons_zero, List.getElem_cons_succ, List.setIfInBounds_toArray, List.set_cons_zero, List.set_cons_succ]))
  refine Kr.seqDone ?_
  go_upto_region 1 with fail
  refine Kr.seqStart ?_
  refine Kr.seqS (fun K hK => ?_)
  go_simp
  go_at_call 18
  refine (awake3 _).mono ?_
  rintro e y3 ⟨rfl, hg⟩
  replace H := H.grow hg
  clear hg
  refine hK.out _ _ ?_; clear hK K
  (try simp only [Act.put, List.getElem_toArray, List.getElem_cons_zero, List.getElem_cons_succ, List.setIfInBounds_toArray, List.set_cons_zero, List.set_cons_succ])
  iterate 2 (refine Kr.seqP (v := ?_) (by rfl) ?_ ?_; rotate_left; (focus (go_simp; first | done | rfl)); (try simp only [Act.put, List.getElem_toArray, List.getElem_cons_zero, List.getElem_cons_succ, List.setIfInBounds_toArray, List.set_cons_zero, List.set_cons_succ]))
  have hk := H.c
  simp only [Kr.Cells] at hk
  iterate 2 (refine Kr.seqP (v := ?_) (by rfl) ?_ ?_; rotate_left; (focus (go_simp; first | done | rfl)); (try simp only [Act.put, List.getElem_toArray, List.getElem_cons_zero, List.getElem_cons_succ, List.setIfInBounds_toArray, List.set_cons_zero, List.set_cons_succ]))
  refine Kr.seqS (fun K hK => ?_)
  go_simp
  clear hk
  obtain ⟨y4, hy⟩ : ∃ y, y3.alloc (.cells #[.slice pa na ca, .slice pb nb cb] 24) = y := ⟨_, rfl⟩
  obtain ⟨by4, hb⟩ : ∃ b, y3.heap.size = b := ⟨_, rfl⟩
  rw [hy, hb]
  have HN : Nats y4 by4 0 [(pa, na, ca), (pb, nb, cb)] := nats_mk hy hb
  have hg : Gr y3 y4 := hy ▸ (Gr.refl _).alloc _
  replace H := H.grow hg
  clear hg hy hb
  refine hK.out _ _ ?_; clear hK K
  (try simp only [Act.put, List.getElem_toArray, List.getElem_cons_zero, List.getElem_cons_succ, List.setIfInBounds_toArray, List.set_cons_zero, List.set_cons_succ])
  refine Kr.seqS (fun K hK => ?_)
  go_simp
  go_at_call 19
  refine (few_ok HN (by simp) HS.out).mono ?_
  rintro e y5 ⟨rfl, hg⟩
  replace H := H.grow hg
  clear hg
  clear HN
  refine hK.out _ _ ?_; clear hK K
  (try simp only [Act.put, List.getElem_toArray, List.getElem_cons_zero, List.getElem_cons_succ, List.setIfInBounds_toArray, List.set_cons_zero, List.set_cons_succ])
  iterate 2 (refine Kr.seqP (v := ?_) (by rfl) ?_ ?_; rotate_left; (focus (go_simp; first | done | rfl)); (try simp only [Act.put, List.getElem_toArray, List.getElem_cons_zero, List.getElem_cons_succ, List.setIfInBounds_toArray, List.set_cons_zero, List.set_cons_succ]))
  refine Kr.seqDone ?_
  go_upto_region 3 with fail
  refine Kr.seqStart ?_
  have hk := H.c
  simp only [Kr.Cells] at hk
  iterate 2 (refine Kr.seqP (v := ?_) (by rfl) ?_ ?_; rotate_left; (focus (go_simp; first | done | rfl)); (try simp only [Act.put, List.getElem_toArray, List.getElem_cons_zero, List.getElem_cons_succ, List.setIfInBounds_toArray, List.set_cons_zero, List.set_cons_succ]))
  refine Kr.seqS (fun K hK => ?_)
  go_simp
  go_at_call 31
  refine (mGcd_ok (H.nw 1 rfl) (H.nw 0 rfl) VX.out VY.out).mono ?_
  rintro e y6 ⟨p6, n6, c6, rfl, hr, hg⟩
  clear hk
  replace H := H.grow hg
  replace H := H.num hr.toNw
  clear hr hg
  refine hK.out _ _ ?_; clear hK K
  (try simp only [Act.put, List.getElem_toArray, List.getElem_cons_zero, List.getElem_cons_succ, List.setIfInBounds_toArray, List.set_cons_zero, List.set_cons_succ])
  iterate 3 (refine Kr.seqP (v := ?_) (by rfl) ?_ ?_; rotate_left; (focus (go_simp; first | done | rfl)); (try simp only [Act.put, List.getElem_toArray, List.getElem_cons_zero, List.getElem_cons_succ, List.setIfInBounds_toArray, List.set_cons_zero, List.set_cons_succ]))
  refine Kr.seqS (fun K hK => ?_)
  go_simp
  obtain ⟨y7, hy⟩ : ∃ y, y6.alloc (.cells #[.slice none 0 0] 24) = y := ⟨_, rfl⟩
  obtain ⟨bx, hb⟩ : ∃ b, y6.heap.size = b := ⟨_, rfl⟩
  rw [hy, hb]
  replace H := H.alloc hy hb rfl
  clear hy hb
  refine hK.out _ _ ?_; clear hK K
  (try simp only [Act.put, List.getElem_toArray, List.getElem_cons_zero, List.getElem_cons_succ, List.setIfInBounds_toArray, List.set_cons_zero, List.set_cons_succ])
  have hk := H.c
  simp only [Kr.Cells] at hk
  refine Kr.seqS (fun K hK => ?_)
  go_simp
  clear hk
  obtain ⟨y8, hy⟩ : ∃ y, y7.setCell ⟨bx, 0, none⟩ (.slice p6 n6 c6) = y := ⟨_, rfl⟩
  rw [hy]
  replace H := H.store 0 hy rfl rfl
  dsimp only [List.set] at H
  clear hy
  refine hK.out _ _ ?_; clear hK K
  (try simp only [Act.put, List.getElem_toArray, List.getElem_cons_zero, List.getElem_cons_succ, List.setIfInBounds_toArray, List.set_cons_zero, List.set_cons_succ])
  (refine Kr.seqP (v := ?_) (by rfl) ?_ ?_; rotate_left; (focus (go_simp; first | done | rfl)); (try simp only [Act.put, List.getElem_toArray, List.getElem_cons_zero, List.getElem_cons_succ, List.setIfInBounds_toArray, List.set_cons_zero, List.set_cons_succ]))
  refine Kr.seqDone ?_
  go_upto_region 4 with fail
  refine Kr.seqStart ?_
  have hk := H.c
  simp only [Kr.Cells] at hk
  iterate 2 (refine Kr.seqP (v := ?_) (by rfl) ?_ ?_; rotate_left; (focus (go_simp; first | done | rfl)); (try simp only [Act.put, List.getElem_toArray, List.getElem_cons_zero, List.getElem_cons_succ, List.setIfInBounds_toArray, List.set_cons_zero, List.set_cons_succ]))
  refine Kr.seqS (fun K hK => ?_)
  go_simp
  go_at_call 32
  refine (mInverse_no (H.nw 2 rfl) (H.nw 1 rfl) HX.out VY3.out HG1.out (chk_ok (H.nw 2 rfl) (H.nw 1 rfl) (nw_none _) (H.nw 1 rfl) HX.out (Nat.lt_of_le_of_lt (Nat.zero_le _) HX.out) VY3.out VY3.out)).mono ?_
  rintro e y9 ⟨p9, n9, c9, rfl, hr, hg⟩
  obtain rfl : n9 = 0 := by rw [← hr.len, digs_zero]; rfl
  clear hk
  replace H := H.grow hg
  clear hr hg
  refine hK.out _ _ ?_; clear hK K
  (try simp only [Act.put, List.getElem_toArray, List.getElem_cons_zero, List.getElem_cons_succ, List.setIfInBounds_toArray, List.set_cons_zero, List.set_cons_succ])
  iterate 3 (refine Kr.seqP (v := ?_) (by rfl) ?_ ?_; rotate_left; (focus (go_simp; first | done | rfl)); (try simp only [Act.put, List.getElem_toArray, List.getElem_cons_zero, List.getElem_cons_succ, List.setIfInBounds_toArray, List.set_cons_zero, List.set_cons_succ]))
  refine Kr.seqS (fun K hK => ?_)
  go_simp
  obtain ⟨y10, hy⟩ : ∃ y, y9.alloc (.cells #[.slice none 0 0] 24) = y := ⟨_, rfl⟩
  obtain ⟨b_y, hb⟩ : ∃ b, y9.heap.size = b := ⟨_, rfl⟩
  rw [hy, hb]
  replace H := H.alloc hy hb rfl
  clear hy hb
  refine hK.out _ _ ?_; clear hK K
  (try simp only [Act.put, List.getElem_toArray, List.getElem_cons_zero, List.getElem_cons_succ, List.setIfInBounds_toArray, List.set_cons_zero, List.set_cons_succ])
  have hk := H.c
  simp only [Kr.Cells] at hk
  refine Kr.seqS (fun K hK => ?_)
  go_simp
  clear hk
  obtain ⟨y11, hy⟩ : ∃ y, y10.setCell ⟨b_y, 0, none⟩ (.slice p9 0 c9) = y := ⟨_, rfl⟩
  rw [hy]
  replace H := H.store 0 hy rfl rfl
  dsimp only [List.set] at H
  clear hy
  refine hK.out _ _ ?_; clear hK K
  (try simp only [Act.put, List.getElem_toArray, List.getElem_cons_zero, List.getElem_cons_succ, List.setIfInBounds_toArray, List.set_cons_zero, List.set_cons_succ])
  (refine Kr.seqP (v := ?_) (by rfl) ?_ ?_; rotate_left; (focus (go_simp; first | done | rfl)); (try simp only [Act.put, List.getElem_toArray, List.getElem_cons_zero, List.getElem_cons_succ, List.setIfInBounds_toArray, List.set_cons_zero, List.set_cons_succ]))
  refine Kr.seqDone ?_
  go_upto_region 5 with fail
  refine Kr.seqStart ?_
  have hk := H.c
  simp only [Kr.Cells] at hk
  (refine Kr.seqP (v := ?_) (by rfl) ?_ ?_; rotate_left; (focus (go_simp; first | done | rfl)); (try simp only [Act.put, List.getElem_toArray, List.getElem_cons_zero, List.getElem_cons_succ, List.setIfInBounds_toArray, List.set_cons_zero, List.set_cons_succ]))
  refine Kr.seqS (fun K hK => ?_)
  go_simp
  go_at_call 29
  refine (valid3_any _ _ _ _ _ (H.nw 2 rfl)).mono ?_
  rintro e y12 ⟨rfl, hg⟩
  rw [dv VX.out]
  clear hk
  replace H := H.grow hg
  clear hg
  refine hK.out _ _ ?_; clear hK K
  (try simp only [Act.put, List.getElem_toArray, List.getElem_cons_zero, List.getElem_cons_succ, List.setIfInBounds_toArray, List.set_cons_zero, List.set_cons_succ])
  iterate 2 (refine Kr.seqP (v := ?_) (by rfl) ?_ ?_; rotate_left; (focus (go_simp; first | done | rfl)); (try simp only [Act.put, List.getElem_toArray, List.getElem_cons_zero, List.getElem_cons_succ, List.setIfInBounds_toArray, List.set_cons_zero, List.set_cons_succ]))
  have hk := H.c
  simp only [Kr.Cells] at hk
  (refine Kr.seqP (v := ?_) (by rfl) ?_ ?_; rotate_left; (focus (go_simp; first | done | rfl)); (try simp only [Act.put, List.getElem_toArray, List.getElem_cons_zero, List.getElem_cons_succ, List.setIfInBounds_toArray, List.set_cons_zero, List.set_cons_succ]))
  refine Kr.seqS (fun K hK => ?_)
  go_simp
  go_at_call 29
  refine (valid3_any _ _ _ _ _ (H.nw 1 rfl)).mono ?_
  rintro e y13 ⟨rfl, hg⟩
  rw [dv VY.out]
  clear hk
  replace H := H.grow hg
  clear hg
  refine hK.out _ _ ?_; clear hK K
  (try simp only [Act.put, List.getElem_toArray, List.getElem_cons_zero, List.getElem_cons_succ, List.setIfInBounds_toArray, List.set_cons_zero, List.set_cons_succ])
  iterate 2 (refine Kr.seqP (v := ?_) (by rfl) ?_ ?_; rotate_left; (focus (go_simp; first | done | rfl)); (try simp only [Act.put, List.getElem_toArray, List.getElem_cons_zero, List.getElem_cons_succ, List.setIfInBounds_toArray, List.set_cons_zero, List.set_cons_succ]))
  refine Kr.seqDone ?_
  go_upto_region 7 with fail
  refine Kr.startL (fun W' => Kr.Cells W' [(bx, 0, .slice p6 n6 c6), (ba, 0, .slice pa na ca), (bb, 0, .slice pb nb cb)]) [] (by kernel_rfl) ?_
  have gd : Gr y13 y13.drew := (Gr.refl _).drew
  generalize y13.drew = d14 at gd ⊢
  replace H := H.grow gd
  clear gd
  (refine Kr.tS 0 [] (v := ?_) rfl (by kernel_rfl) (fun _ _ _ h => h) (by rfl) (H.sub [1, 3, 2] rfl) (fun wx hSx => ?_) ?_; rotate_left; (focus (simp only [Kr.Cells] at hSx; go_simp; first | done | rfl)); (try simp only [Act.put, List.getElem_toArray, List.getElem_cons_zero, List.getElem_cons_succ, List.setIfInBounds_toArray, List.set_cons_zero, List.set_cons_succ]))
  (refine Kr.tS 1 [] (v := ?_) rfl (by kernel_rfl) (fun _ _ _ h => h) (by rfl) (H.sub [1, 3, 2] rfl) (fun wx hSx => ?_) ?_; rotate_left; (focus (simp only [Kr.Cells] at hSx; go_simp; first | done | rfl)); (try simp only [Act.put, List.getElem_toArray, List.getElem_cons_zero, List.getElem_cons_succ, List.setIfInBounds_toArray, List.set_cons_zero, List.set_cons_succ]))
  (refine Kr.tS 2 [] (v := ?_) rfl (by kernel_rfl) (fun _ _ _ h => h) (by rfl) (H.sub [1, 3, 2] rfl) (fun wx hSx => ?_) ?_; rotate_left; (focus (simp only [Kr.Cells] at hSx; go_simp; first | done | rfl)); (try simp only [Act.put, List.getElem_toArray, List.getElem_cons_zero, List.getElem_cons_succ, List.setIfInBounds_toArray, List.set_cons_zero, List.set_cons_succ]))
  refine Kr.readyL (rs := [3]) (by kernel_rfl) (by simp) ?_
  refine Kr.AllL.cons rfl (fun K hK => ?_) Kr.AllL.nil
  go_simp
  go_at_call 33
  refine (rgcd3_v (H.nw 2 rfl) (H.nw 1 rfl) VX9.out VY9.out).mono ?_
  rintro e y15 ⟨p15, n15, c15, rfl, hr, hg⟩
  replace H := H.grow hg
  replace H := H.num hr
  clear hr hg
  refine hK.out _ _ (fun _ => (H.sub [1, 3, 2] rfl)) ?_; clear hK K
  (try simp only [Act.put, List.getElem_toArray, List.getElem_cons_zero, List.getElem_cons_succ, List.setIfInBounds_toArray, List.set_cons_zero, List.set_cons_succ])
  refine Kr.readyL (rs := [4]) (by kernel_rfl) (by simp) ?_
  refine Kr.AllL.cons rfl (fun K hK => ?_) Kr.AllL.nil
  go_simp
  go_at_call 23
  refine (same3_v (H.nw 1 rfl) (H.nw 0 rfl)).mono ?_
  rintro e y16 ⟨rfl, hg⟩
  rw [decide_eq_true rfl]
  replace H := H.grow hg
  clear hg
  refine hK.out _ _ (fun _ => (H.sub [1, 3, 2] rfl)) ?_; clear hK K
  (try simp only [Act.put, List.getElem_toArray, List.getElem_cons_zero, List.getElem_cons_succ, List.setIfInBounds_toArray, List.set_cons_zero, List.set_cons_succ])
  (refine Kr.tP 5 (v := ?_) rfl (by kernel_rfl) (fun _ _ _ h => h) (by rfl) (fun _ => (H.sub [1, 3, 2] rfl)) (fun wx => ?_) ?_; rotate_left; (focus (go_simp; first | done | rfl)); (try simp only [Act.put, List.getElem_toArray, List.getElem_cons_zero, List.getElem_cons_succ, List.setIfInBounds_toArray, List.set_cons_zero, List.set_cons_succ]))
  (refine Kr.tP 6 (v := ?_) rfl (by kernel_rfl) (fun _ _ _ h => h) (by rfl) (fun _ => (H.sub [1, 3, 2] rfl)) (fun wx => ?_) ?_; rotate_left; (focus (go_simp; first | done | rfl)); (try simp only [Act.put, List.getElem_toArray, List.getElem_cons_zero, List.getElem_cons_succ, List.setIfInBounds_toArray, List.set_cons_zero, List.set_cons_succ]))
  (refine Kr.tP 7 (v := ?_) rfl (by kernel_rfl) (fun _ _ _ h => h) (by rfl) (fun _ => (H.sub [1, 3, 2] rfl)) (fun wx => ?_) ?_; rotate_left; (focus (go_simp; first | done | rfl)); (try simp only [Act.put, List.getElem_toArray, List.getElem_cons_zero, List.getElem_cons_succ, List.setIfInBounds_toArray, List.set_cons_zero, List.set_cons_succ]))
  (refine Kr.tP 8 (v := ?_) rfl (by kernel_rfl) (fun _ _ _ h => h) (by rfl) (fun _ => (H.sub [1, 3, 2] rfl)) (fun wx => ?_) ?_; rotate_left; (focus (go_simp; first | done | rfl)); (try simp only [Act.put, List.getElem_toArray, List.getElem_cons_zero, List.getElem_cons_succ, List.setIfInBounds_toArray, List.set_cons_zero, List.set_cons_succ]))
  (refine Kr.tP 9 (v := ?_) rfl (by kernel_rfl) (fun _ _ _ h => h) (by rfl) (fun _ => (H.sub [1, 3, 2] rfl)) (fun wx => ?_) ?_; rotate_left; (focus (go_simp; first | done | rfl)); (try simp only [Act.put, List.getElem_toArray, List.getElem_cons_zero, List.getElem_cons_succ, List.setIfInBounds_toArray, List.set_cons_zero, List.set_cons_succ]))
  refine Kr.doneL (by kernel_rfl) ?_ _
  go_upto_region 9 with fail
  refine Kr.seqStart ?_
  have hk := H.c
  simp only [Kr.Cells] at hk
  iterate 2 (refine Kr.seqP (v := ?_) (by rfl) ?_ ?_; rotate_left; (focus (go_simp; first | done | rfl)); (try simp only [Act.put, List.getElem_toArray, List.getElem_cons_zero, List.getElem_cons_succ, List.setIfInBounds_toArray, List.set_cons_zero, List.set_cons_succ]))
  refine Kr.seqS (fun K hK => ?_)
  go_simp
  clear hk
  obtain ⟨y17, hy⟩ : ∃ y, y16.alloc (.cells #[.slice pa na ca] 24) = y := ⟨_, rfl⟩
  obtain ⟨by17, hb⟩ : ∃ b, y16.heap.size = b := ⟨_, rfl⟩
  rw [hy, hb]
  have HN : Nats y17 by17 0 [(pa, na, ca)] := nats_mk hy hb
  have hg : Gr y16 y17 := hy ▸ (Gr.refl _).alloc _
  replace H := H.grow hg
  clear hg hy hb
  refine hK.out _ _ ?_; clear hK K
  (try simp only [Act.put, List.getElem_toArray, List.getElem_cons_zero, List.getElem_cons_succ, List.setIfInBounds_toArray, List.set_cons_zero, List.set_cons_succ])
  refine Kr.seqS (fun K hK => ?_)
  go_simp
  go_at_call 22
  refine (HF.out _ _ H.g HN).mono ?_
  rintro e y18 ⟨rfl, hg⟩
  replace H := H.grow hg
  clear hg
  clear HN
  refine hK.out _ _ ?_; clear hK K
  (try simp only [Act.put, List.getElem_toArray, List.getElem_cons_zero, List.getElem_cons_succ, List.setIfInBounds_toArray, List.set_cons_zero, List.set_cons_succ])
  (refine Kr.seqP (v := ?_) (by rfl) ?_ ?_; rotate_left; (focus (go_simp; first | done | rfl)); (try simp only [Act.put, List.getElem_toArray, List.getElem_cons_zero, List.getElem_cons_succ, List.setIfInBounds_toArray, List.set_cons_zero, List.set_cons_succ]))
  refine Kr.seqDone ?_
  go_upto_region 10 with fail
  refine Kr.seqStart ?_
  iterate 2 (refine Kr.seqP (v := ?_) (by rfl) ?_ ?_; rotate_left; (focus (go_simp; first | done | rfl)); (try simp only [Act.put, List.getElem_toArray, List.getElem_cons_zero, List.getElem_cons_succ, List.setIfInBounds_toArray, List.set_cons_zero, List.set_cons_succ]))
  refine Kr.seqDone ?_
  go_upto_region 12 with fail
  refine Kr.seqStart ?_
  have hk := H.c
  simp only [Kr.Cells] at hk
  iterate 2 (refine Kr.seqP (v := ?_) (by rfl) ?_ ?_; rotate_left; (focus (go_simp; first | done | rfl)); (try simp only [Act.put, List.getElem_toArray, List.getElem_cons_zero, List.getElem_cons_succ, List.setIfInBounds_toArray, List.set_cons_zero, List.set_cons_succ]))
  refine Kr.seqS (fun K hK => ?_)
  go_simp
  go_at_call 34
  refine (rinv3_v (H.nw 3 rfl) (H.nw 2 rfl) HX.out VY9.out).mono ?_
  rintro e y19 ⟨pj, nj, cj, z2, rfl, hI, hr, hg⟩
  rw [decide_eq_false HG1.out]
  clear hk
  replace H := H.grow hg
  replace H := H.num hr
  clear hr hg hI
  refine hK.out _ _ ?_; clear hK K
  (try simp only [Act.put, List.getElem_toArray, List.getElem_cons_zero, List.getElem_cons_succ, List.setIfInBounds_toArray, List.set_cons_zero, List.set_cons_succ])
  iterate 3 (refine Kr.seqP (v := ?_) (by rfl) ?_ ?_; rotate_left; (focus (go_simp; first | done | rfl)); (try simp only [Act.put, List.getElem_toArray, List.getElem_cons_zero, List.getElem_cons_succ, List.setIfInBounds_toArray, List.set_cons_zero, List.set_cons_succ]))
  refine Kr.seqS (fun K hK => ?_)
  go_simp
  obtain ⟨y20, hy⟩ : ∃ y, y19.alloc (.cells #[.slice none 0 0] 24) = y := ⟨_, rfl⟩
  obtain ⟨bz, hb⟩ : ∃ b, y19.heap.size = b := ⟨_, rfl⟩
  rw [hy, hb]
  replace H := H.alloc hy hb rfl
  clear hy hb
  refine hK.out _ _ ?_; clear hK K
  (try simp only [Act.put, List.getElem_toArray, List.getElem_cons_zero, List.getElem_cons_succ, List.setIfInBounds_toArray, List.set_cons_zero, List.set_cons_succ])
  have hk := H.c
  simp only [Kr.Cells] at hk
  refine Kr.seqS (fun K hK => ?_)
  go_simp
  clear hk
  obtain ⟨y21, hy⟩ : ∃ y, y20.setCell ⟨bz, 0, none⟩ (.slice pj nj cj) = y := ⟨_, rfl⟩
  rw [hy]
  replace H := H.store 0 hy rfl rfl
  dsimp only [List.set] at H
  clear hy
  refine hK.out _ _ ?_; clear hK K
  (try simp only [Act.put, List.getElem_toArray, List.getElem_cons_zero, List.getElem_cons_succ, List.setIfInBounds_toArray, List.set_cons_zero, List.set_cons_succ])
  (refine Kr.seqP (v := ?_) (by rfl) ?_ ?_; rotate_left; (focus (go_simp; first | done | rfl)); (try simp only [Act.put, List.getElem_toArray, List.getElem_cons_zero, List.getElem_cons_succ, List.setIfInBounds_toArray, List.set_cons_zero, List.set_cons_succ]))
  refine Kr.seqDone ?_
  go_upto_region 13 with fail
  refine Kr.seqStart ?_
  iterate 2 (refine Kr.seqP (v := ?_) (by rfl) ?_ ?_; rotate_left; (focus (go_simp; first | done | rfl)); (try simp only [Act.put, List.getElem_toArray, List.getElem_cons_zero, List.getElem_cons_succ, List.setIfInBounds_toArray, List.set_cons_zero, List.set_cons_succ]))
  refine Kr.seqDone ?_
  go_upto_region 14 with fail
  refine Kr.seqStart ?_
  (refine Kr.seqP (v := ?_) (by rfl) ?_ ?_; rotate_left; (focus (go_simp; first | done | rfl)); (try simp only [Act.put, List.getElem_toArray, List.getElem_cons_zero, List.getElem_cons_succ, List.setIfInBounds_toArray, List.set_cons_zero, List.set_cons_succ]))
  have hk := H.c
  simp only [Kr.Cells] at hk
  iterate 8 (refine Kr.seqP (v := ?_) (by rfl) ?_ ?_; rotate_left; (focus (go_simp; first | done | rfl)); (try simp only [Act.put, List.getElem_toArray, List.getElem_cons_zero, List.getElem_cons_succ, List.setIfInBounds_toArray, List.set_cons_zero, List.set_cons_succ]))
  clear hk
  refine Kr.seqDone ?_
  go_wp2
  go_ret
  exact ⟨rfl, H.g⟩
theorem NatmodGcd (w : World) (pa : Option Addr) (na ca : Nat) (pb : Option Addr) (nb cb : Nat) (h1 : Nin w pa na ca) (h2 : Nin w pb nb cb) :
    Calls Try.prog 5 #[.agg #[.slice pa na ca], .agg #[.slice pb nb cb]] w fun e w' => e = .returned (.bool true) ∧ Gr w w' := by
  by_cases g : ∃ x ∈ [(pa, na, ca), (pb, nb, cb)], 6 < x.2.1
  · exact gcd_g g
  have hs : ∀ x ∈ [(pa, na, ca), (pb, nb, cb)], x.2.1 ≤ 6 := fun x hx => Nat.le_of_not_lt fun h => g ⟨x, hx, h⟩
  have ea : na ≤ 6 := hs (pa, na, ca) (by simp)
  have eb : nb ≤ 6 := hs (pb, nb, cb) (by simp)
  obtain ⟨la, ha⟩ := h1.nw (by omega)
  obtain ⟨lb, hb⟩ := h2.nw (by omega)
  cases va : decide (valid la) with
  | false => exact gcd_bad_a hs ha hb va (by rw [va]; rfl) (chk_arg ha hb (nw_none w) hb (by rw [va]; rfl))
  | true =>
    cases vb : decide (valid lb) with
    | false => exact gcd_bad_b hs ha hb va vb (by rw [va, vb]; rfl) (chk_arg ha hb (nw_none w) hb (by rw [show im lb = false from decide_eq_false fun h => by rw [decide_eq_true h.1] at vb; cases vb]; simp))
    | true =>
      obtain ⟨x, hx, rfl⟩ := nw_value ha va
      obtain ⟨y, hy, rfl⟩ := nw_value hb vb
      have vx : x < pw 8 := Nat.lt_of_lt_of_le ((digs_length_le x 6).1 (by rw [ha.len]; exact ea)) (pw_mono (by decide))
      have vy : y < pw 8 := Nat.lt_of_lt_of_le ((digs_length_le y 6).1 (by rw [hb.len]; exact eb)) (pw_mono (by decide))
      obtain ⟨k, hf, hc, hk⟩ := code1 ha hb
      have hk' : (k = 1 ∨ k = 2) ∨ k = 0 ∧ ∃ x' y', digs x = digs x' ∧ digs y = digs y' ∧ x' < y' ∧ y' < pw 32 := by
        rcases hk with h | h | h
        · exact .inl (.inl h)
        · exact .inl (.inr h)
        · exact .inr h
      clear hk
      rcases hk' with hk | ⟨rfl, x', y', e1, e2, hlt, _⟩
      · refine gcd_err hs ha hb vx vy hk hf (fun W g => ?_)
        rcases hk with rfl | rfl
        · exact mInverse_err1 (fun W' g' => hc W' (g.trans g'))
        · exact mInverse_err2 (fun W' g' => hc W' (g.trans g'))
      · obtain rfl := digs_inj.1 e1
        obtain rfl := digs_inj.1 e2
        by_cases hg1 : Nat.gcd x y = 1
        · exact gcd_ok hs ha hb vx vy hf hlt hg1
        · exact gcd_no hs ha hb vx vy hf hlt hg1
end Go.Proofs.Ytlciocebbckdcaa.Ml
