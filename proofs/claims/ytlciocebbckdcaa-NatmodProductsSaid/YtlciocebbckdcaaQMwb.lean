/- The walk of NatmodProducts. -/
import Derived.Test.YtlciocebbckdcaaQMx
import Derived.Deep.Cut
namespace Go.Proofs.Ytlciocebbckdcaa.Ml
open Go.RowKit Go.Shelf Go.Proofs.Ytlciocebbckdcaa.Nm Go.Proofs.Ytlciocebbckdcaa.Ne Go.Proofs.Ytlciocebbckdcaa.Nf Go.Proofs.Ytlciocebbckdcaa.Nk Go.Proofs.Ytlciocebbckdcaa.Nv Go.Proofs.Ytlciocebbckdcaa.Nr2 Go.Proofs.Ytlciocebbckdcaa.Mo Go.Proofs.Ytlciocebbckdcaa.Mr Go.Proofs.Ytlciocebbckdcaa.Kr Go.Proofs.Ytlciocebbckdcaa.Nl

set_option linter.unusedSimpArgs false in
set_option maxRecDepth 100000 in
set_option maxHeartbeats 16000000 in
theorem prod_g1 {pa : Option Addr} {na ca : Nat} {pb : Option Addr} {nb cb : Nat} {pe : Option Addr} {ne ce : Nat} {pm : Option Addr} {nm cm : Nat} {w : World} (hg : ∃ x ∈ [(pa, na, ca), (pb, nb, cb), (pm, nm, cm)], 8 < x.2.1) :
    Calls Try.prog 4 #[.agg #[.slice pa na ca], .agg #[.slice pb nb cb], .agg #[.slice pe ne ce], .agg #[.slice pm nm cm]] w fun e w' => e = .returned (.bool true) ∧ Gr w w' := by
  have HG := Lib.hid hg
  clear hg
  have H := Sta.start w
  go_enter Try.func4, Try.ntmps4
  go_upto_region 0 with fail
  refine Kr.seqStart ?_
  refine Kr.seqS (fun K hK => ?_)
  go_simp
  obtain ⟨y1, hy⟩ : ∃ y, w.alloc (.cells #[.slice pa na ca] 24) = y := ⟨_, rfl⟩
  obtain ⟨b4, hb⟩ : ∃ b, w.heap.size = b := ⟨_, rfl⟩
  rw [hy, hb]
  replace H := H.alloc hy hb rfl
  clear hy hb
  refine hK.out _ _ ?_; clear hK K
  (try simp only [Act.put, List.getElem_toArray, List.getElem_cons_zero, List.getElem_cons_succ, List.setIfInBounds_toArray, List.set_cons_zero, List.set_cons_succ])
  refine Kr.seqS (fun K hK => ?_)
  go_simp
  obtain ⟨y2, hy⟩ : ∃ y, y1.alloc (.cells #[.slice pb nb cb] 24) = y := ⟨_, rfl⟩
  obtain ⟨b5, hb⟩ : ∃ b, y1.heap.size = b := ⟨_, rfl⟩
  rw [hy, hb]
  replace H := H.alloc hy hb rfl
  clear hy hb
  refine hK.out _ _ ?_; clear hK K
  (try simp only [Act.put, List.getElem_toArray, List.getElem_cons_zero, List.getElem_cons_succ, List.setIfInBounds_toArray, List.set_cons_zero, List.set_cons_succ])
  refine Kr.seqS (fun K hK => ?_)
  go_simp
  obtain ⟨y3, hy⟩ : ∃ y, y2.alloc (.cells #[.slice pe ne ce] 24) = y := ⟨_, rfl⟩
  obtain ⟨b6, hb⟩ : ∃ b, y2.heap.size = b := ⟨_, rfl⟩
  rw [hy, hb]
  replace H := H.alloc hy hb rfl
  clear hy hb
  refine hK.out _ _ ?_; clear hK K
  (try simp only [Act.put, List.getElem_toArray, List.getElem_cons_zero, List.getElem_cons_succ, List.setIfInBounds_toArray, List.set_cons_zero, List.set_cons_succ])
  refine Kr.seqS (fun K hK => ?_)
  go_simp
  obtain ⟨y4, hy⟩ : ∃ y, y3.alloc (.cells #[.slice pm nm cm] 24) = y := ⟨_, rfl⟩
  obtain ⟨b7, hb⟩ : ∃ b, y3.heap.size = b := ⟨_, rfl⟩
  rw [hy, hb]
  replace H := H.alloc hy hb rfl
  clear hy hb
  refine hK.out _ _ ?_; clear hK K
  (try simp only [Act.put, List.getElem_toArray, List.getElem_cons_zero, List.getElem_cons_succ, List.setIfInBounds_toArray, List.set_cons_zero, List.set_cons_succ])
  (refine Kr.seqP (v := ?_) (by rfl) ?_ ?_; rotate_left; (focus (go_simp; first | done | rfl)); (try simp only [Act.put, List.getElem_toArray, List.getElem_cons_zero, List.getElem_cons_succ, List.setIfInBounds_toArray, List.set_cons_zero, List.set_cons_succ]))
  refine Kr.seqDone ?_
  go_upto_region 1 with fail
  refine Kr.seqStart ?_
  refine Kr.seqS (fun K hK => ?_)
  go_simp
  go_at_call 18
  refine (awake3 _).mono ?_
  rintro e y5 ⟨rfl, hg⟩
  replace H := H.grow hg
  clear hg
  refine hK.out _ _ ?_; clear hK K
  (try simp only [Act.put, List.getElem_toArray, List.getElem_cons_zero, List.getElem_cons_succ, List.setIfInBounds_toArray, List.set_cons_zero, List.set_cons_succ])
  iterate 2 (refine Kr.seqP (v := ?_) (by rfl) ?_ ?_; rotate_left; (focus (go_simp; first | done | rfl)); (try simp only [Act.put, List.getElem_toArray, List.getElem_cons_zero, List.getElem_cons_succ, List.setIfInBounds_toArray, List.set_cons_zero, List.set_cons_succ]))
  have hk := H.c
  simp only [Kr.Cells] at hk
  iterate 3 (refine Kr.seqP (v := ?_) (by rfl) ?_ ?_; rotate_left; (focus (go_simp; first | done | rfl)); (try simp only [Act.put, List.getElem_toArray, List.getElem_cons_zero, List.getElem_cons_succ, List.setIfInBounds_toArray, List.set_cons_zero, List.set_cons_succ]))
  refine Kr.seqS (fun K hK => ?_)
  go_simp
  clear hk
  obtain ⟨y6, hy⟩ : ∃ y, y5.alloc (.cells #[.slice pa na ca, .slice pb nb cb, .slice pm nm cm] 24) = y := ⟨_, rfl⟩
  obtain ⟨by6, hb⟩ : ∃ b, y5.heap.size = b := ⟨_, rfl⟩
  rw [hy, hb]
  have HN : Nats y6 by6 0 [(pa, na, ca), (pb, nb, cb), (pm, nm, cm)] := nats_mk hy hb
  have hg : Gr y5 y6 := hy ▸ (Gr.refl _).alloc _
  replace H := H.grow hg
  clear hg hy hb
  refine hK.out _ _ ?_; clear hK K
  (try simp only [Act.put, List.getElem_toArray, List.getElem_cons_zero, List.getElem_cons_succ, List.setIfInBounds_toArray, List.set_cons_zero, List.set_cons_succ])
  refine Kr.seqS (fun K hK => ?_)
  go_simp
  go_at_call 19
  refine (few_no HN (by simp) HG.out).mono ?_
  rintro e y7 ⟨rfl, hg⟩
  replace H := H.grow hg
  clear hg
  clear HN
  refine hK.out _ _ ?_; clear hK K
  (try simp only [Act.put, List.getElem_toArray, List.getElem_cons_zero, List.getElem_cons_succ, List.setIfInBounds_toArray, List.set_cons_zero, List.set_cons_succ])
  iterate 3 (refine Kr.seqP (v := ?_) (by rfl) ?_ ?_; rotate_left; (focus (go_simp; first | done | rfl)); (try simp only [Act.put, List.getElem_toArray, List.getElem_cons_zero, List.getElem_cons_succ, List.setIfInBounds_toArray, List.set_cons_zero, List.set_cons_succ]))
  refine Kr.seqSkip (by rfl) ?_
  (try simp only [Act.put, List.getElem_toArray, List.getElem_cons_zero, List.getElem_cons_succ, List.setIfInBounds_toArray, List.set_cons_zero, List.set_cons_succ])
  refine Kr.seqSkip (by rfl) ?_
  (try simp only [Act.put, List.getElem_toArray, List.getElem_cons_zero, List.getElem_cons_succ, List.setIfInBounds_toArray, List.set_cons_zero, List.set_cons_succ])
  refine Kr.seqSkip (by rfl) ?_
  (try simp only [Act.put, List.getElem_toArray, List.getElem_cons_zero, List.getElem_cons_succ, List.setIfInBounds_toArray, List.set_cons_zero, List.set_cons_succ])
  refine Kr.seqSkip (by rfl) ?_
  (try simp only [Act.put, List.getElem_toArray, List.getElem_cons_zero, List.getElem_cons_succ, List.setIfInBounds_toArray, List.set_cons_zero, List.set_cons_succ])
  (refine Kr.seqP (v := ?_) (by rfl) ?_ ?_; rotate_left; (focus (go_simp; first | done | rfl)); (try simp only [Act.put, List.getElem_toArray, List.getElem_cons_zero, List.getElem_cons_succ, List.setIfInBounds_toArray, List.set_cons_zero, List.set_cons_succ]))
  refine Kr.seqDone ?_
  go_upto_region 2 with fail
  refine Kr.seqStart ?_
  refine Kr.seqS (fun K hK => ?_)
  go_simp
  go_at_call 18
  refine (awake3 _).mono ?_
  rintro e y8 ⟨rfl, hg⟩
  replace H := H.grow hg
  clear hg
  refine hK.out _ _ ?_; clear hK K
  (try simp only [Act.put, List.getElem_toArray, List.getElem_cons_zero, List.getElem_cons_succ, List.setIfInBounds_toArray, List.set_cons_zero, List.set_cons_succ])
  (refine Kr.seqP (v := ?_) (by rfl) ?_ ?_; rotate_left; (focus (go_simp; first | done | rfl)); (try simp only [Act.put, List.getElem_toArray, List.getElem_cons_zero, List.getElem_cons_succ, List.setIfInBounds_toArray, List.set_cons_zero, List.set_cons_succ]))
  refine Kr.seqDone ?_
  go_wp2
  go_ret
  exact ⟨rfl, H.g⟩
set_option linter.unusedSimpArgs false in
set_option maxRecDepth 100000 in
set_option maxHeartbeats 16000000 in
theorem prod_g2 {pa : Option Addr} {na ca : Nat} {pb : Option Addr} {nb cb : Nat} {pe : Option Addr} {ne ce : Nat} {pm : Option Addr} {nm cm : Nat} {w : World} (hs : ∀ x ∈ [(pa, na, ca), (pb, nb, cb), (pm, nm, cm)], x.2.1 ≤ 8) (hg : ∃ x ∈ [(pe, ne, ce)], 2 < x.2.1) :
    Calls Try.prog 4 #[.agg #[.slice pa na ca], .agg #[.slice pb nb cb], .agg #[.slice pe ne ce], .agg #[.slice pm nm cm]] w fun e w' => e = .returned (.bool true) ∧ Gr w w' := by
  have HS := Lib.hid hs
  have HG := Lib.hid hg
  clear hs hg
  have H := Sta.start w
  go_enter Try.func4, Try.ntmps4
  go_upto_region 0 with fail
  refine Kr.seqStart ?_
  refine Kr.seqS (fun K hK => ?_)
  go_simp
  obtain ⟨y1, hy⟩ : ∃ y, w.alloc (.cells #[.slice pa na ca] 24) = y := ⟨_, rfl⟩
  obtain ⟨b4, hb⟩ : ∃ b, w.heap.size = b := ⟨_, rfl⟩
  rw [hy, hb]
  replace H := H.alloc hy hb rfl
  clear hy hb
  refine hK.out _ _ ?_; clear hK K
  (try simp only [Act.put, List.getElem_toArray, List.getElem_cons_zero, List.getElem_cons_succ, List.setIfInBounds_toArray, List.set_cons_zero, List.set_cons_succ])
  refine Kr.seqS (fun K hK => ?_)
  go_simp
  obtain ⟨y2, hy⟩ : ∃ y, y1.alloc (.cells #[.slice pb nb cb] 24) = y := ⟨_, rfl⟩
  obtain ⟨b5, hb⟩ : ∃ b, y1.heap.size = b := ⟨_, rfl⟩
  rw [hy, hb]
  replace H := H.alloc hy hb rfl
  clear hy hb
  refine hK.out _ _ ?_; clear hK K
  (try simp only [Act.put, List.getElem_toArray, List.getElem_cons_zero, List.getElem_cons_succ, List.setIfInBounds_toArray, List.set_cons_zero, List.set_cons_succ])
  refine Kr.seqS (fun K hK => ?_)
  go_simp
  obtain ⟨y3, hy⟩ : ∃ y, y2.alloc (.cells #[.slice pe ne ce] 24) = y := ⟨_, rfl⟩
  obtain ⟨b6, hb⟩ : ∃ b, y2.heap.size = b := ⟨_, rfl⟩
  rw [hy, hb]
  replace H := H.alloc hy hb rfl
  clear hy hb
  refine hK.out _ _ ?_; clear hK K
  (try simp only [Act.put, List.getElem_toArray, List.getElem_cons_zero, List.getElem_cons_succ, List.setIfInBounds_toArray, List.set_cons_zero, List.set_cons_succ])
  refine Kr.seqS (fun K hK => ?_)
  go_simp
  obtain ⟨y4, hy⟩ : ∃ y, y3.alloc (.cells #[.slice pm nm cm] 24) = y := ⟨_, rfl⟩
  obtain ⟨b7, hb⟩ : ∃ b, y3.heap.size = b := ⟨_, rfl⟩
  rw [hy, hb]
  replace H := H.alloc hy hb rfl
  clear hy hb
  refine hK.out _ _ ?_; clear hK K
  (try simp only [Act.put, List.getElem_toArray, List.getElem_cons_zero, List.getElem_cons_succ, List.setIfInBounds_toArray, List.set_cons_zero, List.set_cons_succ])
  (refine Kr.seqP (v := ?_) (by rfl) ?_ ?_; rotate_left; (focus (go_simp; first | done | rfl)); (try simp only [Act.put, List.getElem_toArray, List.getElem_cons_zero, List.getElem_cons_succ, List.setIfInBounds_toArray, List.set_cons_zero, List.set_cons_succ]))
  refine Kr.seqDone ?_
  go_upto_region 1 with fail
  refine Kr.seqStart ?_
  refine Kr.seqS (fun K hK => ?_)
  go_simp
  go_at_call 18
  refine (awake3 _).mono ?_
  rintro e y5 ⟨rfl, hg⟩
  replace H := H.grow hg
  clear hg
  refine hK.out _ _ ?_; clear hK K
  (try simp only [Act.put, List.getElem_toArray, List.getElem_cons_zero, List.getElem_cons_succ, List.setIfInBounds_toArray, List.set_cons_zero, List.set_cons_succ])
  iterate 2 (refine Kr.seqP (v := ?_) (by rfl) ?_ ?_; rotate_left; (focus (go_simp; first | done | rfl)); (try simp only [Act.put, List.getElem_toArray, List.getElem_cons_zero, List.getElem_cons_succ, List.setIfInBounds_toArray, List.set_cons_zero, List.set_cons_succ]))
  have hk := H.c
  simp only [Kr.Cells] at hk
  iterate 3 (refine Kr.seqP (v := ?_) (by rfl) ?_ ?_; rotate_left; (focus (go_simp; first | done | rfl)); (try simp only [Act.put, List.getElem_toArray, List.getElem_cons_zero, List.getElem_cons_succ, List.setIfInBounds_toArray, List.set_cons_zero, List.set_cons_succ]))
  refine Kr.seqS (fun K hK => ?_)
  go_simp
  clear hk
  obtain ⟨y6, hy⟩ : ∃ y, y5.alloc (.cells #[.slice pa na ca, .slice pb nb cb, .slice pm nm cm] 24) = y := ⟨_, rfl⟩
  obtain ⟨by6, hb⟩ : ∃ b, y5.heap.size = b := ⟨_, rfl⟩
  rw [hy, hb]
  have HN : Nats y6 by6 0 [(pa, na, ca), (pb, nb, cb), (pm, nm, cm)] := nats_mk hy hb
  have hg : Gr y5 y6 := hy ▸ (Gr.refl _).alloc _
  replace H := H.grow hg
  clear hg hy hb
  refine hK.out _ _ ?_; clear hK K
  (try simp only [Act.put, List.getElem_toArray, List.getElem_cons_zero, List.getElem_cons_succ, List.setIfInBounds_toArray, List.set_cons_zero, List.set_cons_succ])
  refine Kr.seqS (fun K hK => ?_)
  go_simp
  go_at_call 19
  go_at_call 19
  refine (few_ok HN (by simp) HS.out).mono ?_
  rintro e y7 ⟨rfl, hg⟩
  replace H := H.grow hg
  clear hg
  clear HN
  refine hK.out _ _ ?_; clear hK K
  (try simp only [Act.put, List.getElem_toArray, List.getElem_cons_zero, List.getElem_cons_succ, List.setIfInBounds_toArray, List.set_cons_zero, List.set_cons_succ])
  iterate 3 (refine Kr.seqP (v := ?_) (by rfl) ?_ ?_; rotate_left; (focus (go_simp; first | done | rfl)); (try simp only [Act.put, List.getElem_toArray, List.getElem_cons_zero, List.getElem_cons_succ, List.setIfInBounds_toArray, List.set_cons_zero, List.set_cons_succ]))
  have hk := H.c
  simp only [Kr.Cells] at hk
  (refine Kr.seqP (v := ?_) (by rfl) ?_ ?_; rotate_left; (focus (go_simp; first | done | rfl)); (try simp only [Act.put, List.getElem_toArray, List.getElem_cons_zero, List.getElem_cons_succ, List.setIfInBounds_toArray, List.set_cons_zero, List.set_cons_succ]))
  refine Kr.seqS (fun K hK => ?_)
  go_simp
  clear hk
  obtain ⟨y8, hy⟩ : ∃ y, y7.alloc (.cells #[.slice pe ne ce] 24) = y := ⟨_, rfl⟩
  obtain ⟨by8, hb⟩ : ∃ b, y7.heap.size = b := ⟨_, rfl⟩
  rw [hy, hb]
  have HN : Nats y8 by8 0 [(pe, ne, ce)] := nats_mk hy hb
  have hg : Gr y7 y8 := hy ▸ (Gr.refl _).alloc _
  replace H := H.grow hg
  clear hg hy hb
  refine hK.out _ _ ?_; clear hK K
  (try simp only [Act.put, List.getElem_toArray, List.getElem_cons_zero, List.getElem_cons_succ, List.setIfInBounds_toArray, List.set_cons_zero, List.set_cons_succ])
  refine Kr.seqS (fun K hK => ?_)
  go_simp
  go_at_call 19
  go_at_call 19
  refine (few_no HN (by simp) HG.out).mono ?_
  rintro e y9 ⟨rfl, hg⟩
  replace H := H.grow hg
  clear hg
  clear HN
  refine hK.out _ _ ?_; clear hK K
  (try simp only [Act.put, List.getElem_toArray, List.getElem_cons_zero, List.getElem_cons_succ, List.setIfInBounds_toArray, List.set_cons_zero, List.set_cons_succ])
  iterate 2 (refine Kr.seqP (v := ?_) (by rfl) ?_ ?_; rotate_left; (focus (go_simp; first | done | rfl)); (try simp only [Act.put, List.getElem_toArray, List.getElem_cons_zero, List.getElem_cons_succ, List.setIfInBounds_toArray, List.set_cons_zero, List.set_cons_succ]))
  refine Kr.seqDone ?_
  go_upto_region 2 with fail
  refine Kr.seqStart ?_
  refine Kr.seqS (fun K hK => ?_)
  go_simp
  go_at_call 18
  refine (awake3 _).mono ?_
  rintro e y10 ⟨rfl, hg⟩
  replace H := H.grow hg
  clear hg
  refine hK.out _ _ ?_; clear hK K
  (try simp only [Act.put, List.getElem_toArray, List.getElem_cons_zero, List.getElem_cons_succ, List.setIfInBounds_toArray, List.set_cons_zero, List.set_cons_succ])
  (refine Kr.seqP (v := ?_) (by rfl) ?_ ?_; rotate_left; (focus (go_simp; first | done | rfl)); (try simp only [Act.put, List.getElem_toArray, List.getElem_cons_zero, List.getElem_cons_succ, List.setIfInBounds_toArray, List.set_cons_zero, List.set_cons_succ]))
  refine Kr.seqDone ?_
  go_wp2
  go_ret
  exact ⟨rfl, H.g⟩
set_option linter.unusedSimpArgs false in
set_option maxRecDepth 100000 in
set_option maxHeartbeats 16000000 in
theorem prod_err_inv {pa : Option Addr} {na ca : Nat} {pb : Option Addr} {nb cb : Nat} {pe : Option Addr} {ne ce : Nat} {pm : Option Addr} {nm cm : Nat} {k : Nat} {c : Nat} {le : List Nat} {w : World} (hs : ∀ x ∈ [(pa, na, ca), (pb, nb, cb), (pm, nm, cm)], x.2.1 ≤ 8) (hs2 : ∀ x ∈ [(pe, ne, ce)], x.2.1 ≤ 2) (hk : k = 1 ∨ k = 2) (hf : Fst w (.agg #[.slice pm nm cm]) [(pa, na, ca), (pb, nb, cb)] k) (hc : Chk w (.agg #[.slice pa na ca]) (.agg #[.slice pm nm cm]) (.agg #[.slice pb nb cb]) (.agg #[.slice pm nm cm]) (k : Int)) (he : Nw w pe ne ce le) (hv : decide (valid le) = false) (hf1 : Fst w (.agg #[.slice pm nm cm]) [(pa, na, ca)] c) (hp : ∀ W, Gr w W → Calls Try.prog 27 #[.agg #[.slice pa na ca], .agg #[.slice pe ne ce], .agg #[.slice pm nm cm]] W (HasE 0 1 W)) :
    Calls Try.prog 4 #[.agg #[.slice pa na ca], .agg #[.slice pb nb cb], .agg #[.slice pe ne ce], .agg #[.slice pm nm cm]] w fun e w' => e = .returned (.bool true) ∧ Gr w w' := by
  have HS := Lib.hid hs
  have HS2 := Lib.hid hs2
  have HF := Lib.hid hf
  have HF1 := Lib.hid hf1
  clear hs hs2 hf hf1
  have HK := Lib.hid hk
  have nk : ¬ (k : Int) = 0 := by rcases hk with rfl | rfl <;> decide
  have ek : ((k : Int) == 0) = false := by rcases hk with rfl | rfl <;> rfl
  clear hk
  have HC := Lib.hid hc
  clear hc
  have HV := Lib.hid hv
  have HP := Lib.hid hp
  clear hv hp
  have H := Sta.start w
  replace H := H.add (keepWs _ _ _ _) he
  go_enter Try.func4, Try.ntmps4
  go_upto_region 0 with fail
  refine Kr.seqStart ?_
  refine Kr.seqS (fun K hK => ?_)
  go_simp
  obtain ⟨y1, hy⟩ : ∃ y, w.alloc (.cells #[.slice pa na ca] 24) = y := ⟨_, rfl⟩
  obtain ⟨ba, hb⟩ : ∃ b, w.heap.size = b := ⟨_, rfl⟩
  rw [hy, hb]
  replace H := H.alloc hy hb rfl
  clear hy hb
  refine hK.out _ _ ?_; clear hK K
  (try simp only [Act.put, List.getElem_toArray, List.getElem_cons_zero, List.getElem_cons_succ, List.setIfInBounds_toArray, List.set_cons_zero, List.set_cons_succ])
  refine Kr.seqS (fun K hK => ?_)
  go_simp
  obtain ⟨y2, hy⟩ : ∃ y, y1.alloc (.cells #[.slice pb nb cb] 24) = y := ⟨_, rfl⟩
  obtain ⟨bb, hb⟩ : ∃ b, y1.heap.size = b := ⟨_, rfl⟩
  rw [hy, hb]
  replace H := H.alloc hy hb rfl
  clear hy hb
  refine hK.out _ _ ?_; clear hK K
  (try simp only [Act.put, List.getElem_toArray, List.getElem_cons_zero, List.getElem_cons_succ, List.setIfInBounds_toArray, List.set_cons_zero, List.set_cons_succ])
  refine Kr.seqS (fun K hK => ?_)
  go_simp
  obtain ⟨y3, hy⟩ : ∃ y, y2.alloc (.cells #[.slice pe ne ce] 24) = y := ⟨_, rfl⟩
  obtain ⟨be, hb⟩ : ∃ b, y2.heap.size = b := ⟨_, rfl⟩
  rw [hy, hb]
  replace H := H.alloc hy hb rfl
  clear hy hb
  refine hK.out _ _ ?_; clear hK K
  (try simp only [Act.put, List.getElem_toArray, List.getElem_cons_zero, List.getElem_cons_succ, List.setIfInBounds_toArray, List.set_cons_zero, List.set_cons_succ])
  refine Kr.seqS (fun K hK => ?_)
  go_simp
  obtain ⟨y4, hy⟩ : ∃ y, y3.alloc (.cells #[.slice pm nm cm] 24) = y := ⟨_, rfl⟩
  obtain ⟨bm, hb⟩ : ∃ b, y3.heap.size = b := ⟨_, rfl⟩
  rw [hy, hb]
  replace H := H.alloc hy hb rfl
  clear hy hb
  refine hK.out _ _ ?_; clear hK K
  (try simp only [Act.put, List.getElem_toArray, List.getElem_cons_zero, List.getElem_cons_succ, List.setIfInBounds_toArray, List.set_cons_zero, List.set_cons_succ])
  (refine Kr.seqP (v := ?_) (by rfl) ?_ ?_; rotate_left; (focus (go_simp; first | done | rfl)); (try simp only [Act.put, List.getElem_toArray, List.getElem_cons_zero, List.getElem_cons_succ, List.setIfInBounds_toArray, List.set_cons_zero, List.set_cons_succ]))
  refine Kr.seqDone ?_
  go_upto_region 1 with fail
  refine Kr.seqStart ?_
  refine Kr.seqS (fun K hK => ?_)
  go_simp
  go_at_call 18
  refine (awake3 _).mono ?_
  rintro e y5 ⟨rfl, hg⟩
  replace H := H.grow hg
  clear hg
  refine hK.out _ _ ?_; clear hK K
  (try simp only [Act.put, List.getElem_toArray, List.getElem_cons_zero, List.getElem_cons_succ, List.setIfInBounds_toArray, List.set_cons_zero, List.set_cons_succ])
  iterate 2 (refine Kr.seqP (v := ?_) (by rfl) ?_ ?_; rotate_left; (focus (go_simp; first | done | rfl)); (try simp only [Act.put, List.getElem_toArray, List.getElem_cons_zero, List.getElem_cons_succ, List.setIfInBounds_toArray, List.set_cons_zero, List.set_cons_succ]))
  have hk := H.c
  simp only [Kr.Cells] at hk
  iterate 3 (refine Kr.seqP (v := ?_) (by rfl) ?_ ?_; rotate_left; (focus (go_simp; first | done | rfl)); (try simp only [Act.put, List.getElem_toArray, List.getElem_cons_zero, List.getElem_cons_succ, List.setIfInBounds_toArray, List.set_cons_zero, List.set_cons_succ]))
  refine Kr.seqS (fun K hK => ?_)
  go_simp
  clear hk
  obtain ⟨y6, hy⟩ : ∃ y, y5.alloc (.cells #[.slice pa na ca, .slice pb nb cb, .slice pm nm cm] 24) = y := ⟨_, rfl⟩
  obtain ⟨by6, hb⟩ : ∃ b, y5.heap.size = b := ⟨_, rfl⟩
  rw [hy, hb]
  have HN : Nats y6 by6 0 [(pa, na, ca), (pb, nb, cb), (pm, nm, cm)] := nats_mk hy hb
  have hg : Gr y5 y6 := hy ▸ (Gr.refl _).alloc _
  replace H := H.grow hg
  clear hg hy hb
  refine hK.out _ _ ?_; clear hK K
  (try simp only [Act.put, List.getElem_toArray, List.getElem_cons_zero, List.getElem_cons_succ, List.setIfInBounds_toArray, List.set_cons_zero, List.set_cons_succ])
  refine Kr.seqS (fun K hK => ?_)
  go_simp
  go_at_call 19
  go_at_call 19
  refine (few_ok HN (by simp) HS.out).mono ?_
  rintro e y7 ⟨rfl, hg⟩
  replace H := H.grow hg
  clear hg
  clear HN
  refine hK.out _ _ ?_; clear hK K
  (try simp only [Act.put, List.getElem_toArray, List.getElem_cons_zero, List.getElem_cons_succ, List.setIfInBounds_toArray, List.set_cons_zero, List.set_cons_succ])
  iterate 3 (refine Kr.seqP (v := ?_) (by rfl) ?_ ?_; rotate_left; (focus (go_simp; first | done | rfl)); (try simp only [Act.put, List.getElem_toArray, List.getElem_cons_zero, List.getElem_cons_succ, List.setIfInBounds_toArray, List.set_cons_zero, List.set_cons_succ]))
  have hk := H.c
  simp only [Kr.Cells] at hk
  (refine Kr.seqP (v := ?_) (by rfl) ?_ ?_; rotate_left; (focus (go_simp; first | done | rfl)); (try simp only [Act.put, List.getElem_toArray, List.getElem_cons_zero, List.getElem_cons_succ, List.setIfInBounds_toArray, List.set_cons_zero, List.set_cons_succ]))
  refine Kr.seqS (fun K hK => ?_)
  go_simp
  clear hk
  obtain ⟨y8, hy⟩ : ∃ y, y7.alloc (.cells #[.slice pe ne ce] 24) = y := ⟨_, rfl⟩
  obtain ⟨by8, hb⟩ : ∃ b, y7.heap.size = b := ⟨_, rfl⟩
  rw [hy, hb]
  have HN : Nats y8 by8 0 [(pe, ne, ce)] := nats_mk hy hb
  have hg : Gr y7 y8 := hy ▸ (Gr.refl _).alloc _
  replace H := H.grow hg
  clear hg hy hb
  refine hK.out _ _ ?_; clear hK K
  (try simp only [Act.put, List.getElem_toArray, List.getElem_cons_zero, List.getElem_cons_succ, List.setIfInBounds_toArray, List.set_cons_zero, List.set_cons_succ])
  refine Kr.seqS (fun K hK => ?_)
  go_simp
  go_at_call 19
  go_at_call 19
  refine (few_ok HN (by simp) HS2.out).mono ?_
  rintro e y9 ⟨rfl, hg⟩
  replace H := H.grow hg
  clear hg
  clear HN
  refine hK.out _ _ ?_; clear hK K
  (try simp only [Act.put, List.getElem_toArray, List.getElem_cons_zero, List.getElem_cons_succ, List.setIfInBounds_toArray, List.set_cons_zero, List.set_cons_succ])
  iterate 2 (refine Kr.seqP (v := ?_) (by rfl) ?_ ?_; rotate_left; (focus (go_simp; first | done | rfl)); (try simp only [Act.put, List.getElem_toArray, List.getElem_cons_zero, List.getElem_cons_succ, List.setIfInBounds_toArray, List.set_cons_zero, List.set_cons_succ]))
  refine Kr.seqDone ?_
  go_upto_region 3 with fail
  refine Kr.seqStart ?_
  have hk := H.c
  simp only [Kr.Cells] at hk
  iterate 3 (refine Kr.seqP (v := ?_) (by rfl) ?_ ?_; rotate_left; (focus (go_simp; first | done | rfl)); (try simp only [Act.put, List.getElem_toArray, List.getElem_cons_zero, List.getElem_cons_succ, List.setIfInBounds_toArray, List.set_cons_zero, List.set_cons_succ]))
  refine Kr.seqS (fun K hK => ?_)
  go_simp
  go_at_call 26
  refine (gives_has_c (mMul_err HK.out (fun W g => HC.out W (H.g.trans g)))).mono ?_
  rintro e y10 ⟨p10, n10, c10, rfl, hr, hg⟩
  obtain rfl : n10 = 0 := by rw [← hr.len, digs_zero]; rfl
  clear hk
  replace H := H.grow hg
  clear hr hg
  refine hK.out _ _ ?_; clear hK K
  (try simp only [Act.put, List.getElem_toArray, List.getElem_cons_zero, List.getElem_cons_succ, List.setIfInBounds_toArray, List.set_cons_zero, List.set_cons_succ])
  iterate 3 (refine Kr.seqP (v := ?_) (by rfl) ?_ ?_; rotate_left; (focus (go_simp; first | done | rfl)); (try simp only [Act.put, List.getElem_toArray, List.getElem_cons_zero, List.getElem_cons_succ, List.setIfInBounds_toArray, List.set_cons_zero, List.set_cons_succ]))
  refine Kr.seqS (fun K hK => ?_)
  go_simp
  obtain ⟨y11, hy⟩ : ∃ y, y10.alloc (.cells #[.slice none 0 0] 24) = y := ⟨_, rfl⟩
  obtain ⟨bx, hb⟩ : ∃ b, y10.heap.size = b := ⟨_, rfl⟩
  rw [hy, hb]
  replace H := H.alloc hy hb rfl
  clear hy hb
  refine hK.out _ _ ?_; clear hK K
  (try simp only [Act.put, List.getElem_toArray, List.getElem_cons_zero, List.getElem_cons_succ, List.setIfInBounds_toArray, List.set_cons_zero, List.set_cons_succ])
  have hk := H.c
  simp only [Kr.Cells] at hk
  refine Kr.seqS (fun K hK => ?_)
  go_simp
  clear hk
  obtain ⟨y12, hy⟩ : ∃ y, y11.setCell ⟨bx, 0, none⟩ (.slice p10 0 c10) = y := ⟨_, rfl⟩
  rw [hy]
  replace H := H.store 0 hy rfl rfl
  dsimp only [List.set] at H
  clear hy
  refine hK.out _ _ ?_; clear hK K
  (try simp only [Act.put, List.getElem_toArray, List.getElem_cons_zero, List.getElem_cons_succ, List.setIfInBounds_toArray, List.set_cons_zero, List.set_cons_succ])
  (refine Kr.seqP (v := ?_) (by rfl) ?_ ?_; rotate_left; (focus (go_simp; first | done | rfl)); (try simp only [Act.put, List.getElem_toArray, List.getElem_cons_zero, List.getElem_cons_succ, List.setIfInBounds_toArray, List.set_cons_zero, List.set_cons_succ]))
  refine Kr.seqDone ?_
  go_upto_region 4 with fail
  refine Kr.seqStart ?_
  have hk := H.c
  simp only [Kr.Cells] at hk
  iterate 3 (refine Kr.seqP (v := ?_) (by rfl) ?_ ?_; rotate_left; (focus (go_simp; first | done | rfl)); (try simp only [Act.put, List.getElem_toArray, List.getElem_cons_zero, List.getElem_cons_succ, List.setIfInBounds_toArray, List.set_cons_zero, List.set_cons_succ]))
  refine Kr.seqS (fun K hK => ?_)
  go_simp
  go_at_call 27
  refine (HP.out _ H.g).mono ?_
  rintro e y13 ⟨p13, n13, c13, rfl, hr, hg⟩
  obtain rfl : n13 = 0 := by rw [← hr.len, digs_zero]; rfl
  clear hk
  replace H := H.grow hg
  clear hr hg
  refine hK.out _ _ ?_; clear hK K
  (try simp only [Act.put, List.getElem_toArray, List.getElem_cons_zero, List.getElem_cons_succ, List.setIfInBounds_toArray, List.set_cons_zero, List.set_cons_succ])
  iterate 3 (refine Kr.seqP (v := ?_) (by rfl) ?_ ?_; rotate_left; (focus (go_simp; first | done | rfl)); (try simp only [Act.put, List.getElem_toArray, List.getElem_cons_zero, List.getElem_cons_succ, List.setIfInBounds_toArray, List.set_cons_zero, List.set_cons_succ]))
  refine Kr.seqS (fun K hK => ?_)
  go_simp
  obtain ⟨y14, hy⟩ : ∃ y, y13.alloc (.cells #[.slice none 0 0] 24) = y := ⟨_, rfl⟩
  obtain ⟨b_y, hb⟩ : ∃ b, y13.heap.size = b := ⟨_, rfl⟩
  rw [hy, hb]
  replace H := H.alloc hy hb rfl
  clear hy hb
  refine hK.out _ _ ?_; clear hK K
  (try simp only [Act.put, List.getElem_toArray, List.getElem_cons_zero, List.getElem_cons_succ, List.setIfInBounds_toArray, List.set_cons_zero, List.set_cons_succ])
  have hk := H.c
  simp only [Kr.Cells] at hk
  refine Kr.seqS (fun K hK => ?_)
  go_simp
  clear hk
  obtain ⟨y15, hy⟩ : ∃ y, y14.setCell ⟨b_y, 0, none⟩ (.slice p13 0 c13) = y := ⟨_, rfl⟩
  rw [hy]
  replace H := H.store 0 hy rfl rfl
  dsimp only [List.set] at H
  clear hy
  refine hK.out _ _ ?_; clear hK K
  (try simp only [Act.put, List.getElem_toArray, List.getElem_cons_zero, List.getElem_cons_succ, List.setIfInBounds_toArray, List.set_cons_zero, List.set_cons_succ])
  (refine Kr.seqP (v := ?_) (by rfl) ?_ ?_; rotate_left; (focus (go_simp; first | done | rfl)); (try simp only [Act.put, List.getElem_toArray, List.getElem_cons_zero, List.getElem_cons_succ, List.setIfInBounds_toArray, List.set_cons_zero, List.set_cons_succ]))
  refine Kr.seqDone ?_
  go_upto_region 5 with fail
  refine Kr.seqStart ?_
  have hk := H.c
  simp only [Kr.Cells] at hk
  iterate 3 (refine Kr.seqP (v := ?_) (by rfl) ?_ ?_; rotate_left; (focus (go_simp; first | done | rfl)); (try simp only [Act.put, List.getElem_toArray, List.getElem_cons_zero, List.getElem_cons_succ, List.setIfInBounds_toArray, List.set_cons_zero, List.set_cons_succ]))
  refine Kr.seqS (fun K hK => ?_)
  go_simp
  clear hk
  obtain ⟨y16, hy⟩ : ∃ y, y15.alloc (.cells #[.slice pa na ca, .slice pb nb cb] 24) = y := ⟨_, rfl⟩
  obtain ⟨by16, hb⟩ : ∃ b, y15.heap.size = b := ⟨_, rfl⟩
  rw [hy, hb]
  have HN : Nats y16 by16 0 [(pa, na, ca), (pb, nb, cb)] := nats_mk hy hb
  have hg : Gr y15 y16 := hy ▸ (Gr.refl _).alloc _
  replace H := H.grow hg
  clear hg hy hb
  refine hK.out _ _ ?_; clear hK K
  (try simp only [Act.put, List.getElem_toArray, List.getElem_cons_zero, List.getElem_cons_succ, List.setIfInBounds_toArray, List.set_cons_zero, List.set_cons_succ])
  refine Kr.seqS (fun K hK => ?_)
  go_simp
  go_at_call 22
  refine (HF.out _ _ H.g HN).mono ?_
  rintro e y17 ⟨rfl, hg⟩
  replace H := H.grow hg
  clear hg
  clear HN
  refine hK.out _ _ ?_; clear hK K
  (try simp only [Act.put, List.getElem_toArray, List.getElem_cons_zero, List.getElem_cons_succ, List.setIfInBounds_toArray, List.set_cons_zero, List.set_cons_succ])
  (refine Kr.seqP (v := ?_) (by rfl) ?_ ?_; rotate_left; (focus (go_simp; first | done | rfl)); (try simp only [Act.put, List.getElem_toArray, List.getElem_cons_zero, List.getElem_cons_succ, List.setIfInBounds_toArray, List.set_cons_zero, List.set_cons_succ]))
  refine Kr.seqDone ?_
  go_upto_region 6 with fail
  refine Kr.seqStart ?_
  iterate 2 (refine Kr.seqP (v := ?_) (by rfl) ?_ ?_; rotate_left; (focus (go_simp; first | done | rfl)); (try simp only [Act.put, List.getElem_toArray, List.getElem_cons_zero, List.getElem_cons_succ, List.setIfInBounds_toArray, List.set_cons_zero, List.set_cons_succ]))
  refine Kr.seqDone ?_
  go_upto_region 7 with fail
  refine Kr.seqStart ?_
  (refine Kr.seqP (v := ?_) (by rfl) ?_ ?_; rotate_left; (focus (go_simp; first | done | rfl)); (try simp only [Act.put, List.getElem_toArray, List.getElem_cons_zero, List.getElem_cons_succ, List.setIfInBounds_toArray, List.set_cons_zero, List.set_cons_succ]))
  have hk := H.c
  simp only [Kr.Cells] at hk
  iterate 8 (refine Kr.seqP (v := ?_) (by rfl) ?_ ?_; rotate_left; (focus (go_simp; first | done | rfl)); (try simp only [Act.put, List.getElem_toArray, List.getElem_cons_zero, List.getElem_cons_succ, List.setIfInBounds_toArray, List.set_cons_zero, List.set_cons_succ]))
  clear hk
  refine Kr.seqDone ?_
  go_upto_region 11 with fail
  refine Kr.seqStart ?_
  have hk := H.c
  simp only [Kr.Cells] at hk
  iterate 2 (refine Kr.seqP (v := ?_) (by rfl) ?_ ?_; rotate_left; (focus (go_simp; first | done | rfl)); (try simp only [Act.put, List.getElem_toArray, List.getElem_cons_zero, List.getElem_cons_succ, List.setIfInBounds_toArray, List.set_cons_zero, List.set_cons_succ]))
  refine Kr.seqS (fun K hK => ?_)
  go_simp
  clear hk
  obtain ⟨y18, hy⟩ : ∃ y, y17.alloc (.cells #[.slice pa na ca] 24) = y := ⟨_, rfl⟩
  obtain ⟨by18, hb⟩ : ∃ b, y17.heap.size = b := ⟨_, rfl⟩
  rw [hy, hb]
  have HN : Nats y18 by18 0 [(pa, na, ca)] := nats_mk hy hb
  have hg : Gr y17 y18 := hy ▸ (Gr.refl _).alloc _
  replace H := H.grow hg
  clear hg hy hb
  refine hK.out _ _ ?_; clear hK K
  (try simp only [Act.put, List.getElem_toArray, List.getElem_cons_zero, List.getElem_cons_succ, List.setIfInBounds_toArray, List.set_cons_zero, List.set_cons_succ])
  refine Kr.seqS (fun K hK => ?_)
  go_simp
  go_at_call 22
  refine (HF1.out _ _ H.g HN).mono ?_
  rintro e y19 ⟨rfl, hg⟩
  replace H := H.grow hg
  clear hg
  clear HN
  refine hK.out _ _ ?_; clear hK K
  (try simp only [Act.put, List.getElem_toArray, List.getElem_cons_zero, List.getElem_cons_succ, List.setIfInBounds_toArray, List.set_cons_zero, List.set_cons_succ])
  (refine Kr.seqP (v := ?_) (by rfl) ?_ ?_; rotate_left; (focus (go_simp; first | done | rfl)); (try simp only [Act.put, List.getElem_toArray, List.getElem_cons_zero, List.getElem_cons_succ, List.setIfInBounds_toArray, List.set_cons_zero, List.set_cons_succ]))
  refine Kr.seqDone ?_
  go_upto_region 12 with fail
  refine Kr.seqStart ?_
  have hk := H.c
  simp only [Kr.Cells] at hk
  (refine Kr.seqP (v := ?_) (by rfl) ?_ ?_; rotate_left; (focus (go_simp; first | done | rfl)); (try simp only [Act.put, List.getElem_toArray, List.getElem_cons_zero, List.getElem_cons_succ, List.setIfInBounds_toArray, List.set_cons_zero, List.set_cons_succ]))
  refine Kr.seqS (fun K hK => ?_)
  go_simp
  go_at_call 29
  refine (valid3_any _ _ _ _ _ (H.ws 0 rfl)).mono ?_
  rintro e y20 ⟨rfl, hg⟩
  rw [HV.out]
  clear hk
  replace H := H.grow hg
  clear hg
  refine hK.out _ _ ?_; clear hK K
  (try simp only [Act.put, List.getElem_toArray, List.getElem_cons_zero, List.getElem_cons_succ, List.setIfInBounds_toArray, List.set_cons_zero, List.set_cons_succ])
  (refine Kr.seqP (v := ?_) (by rfl) ?_ ?_; rotate_left; (focus (go_simp; first | done | rfl)); (try simp only [Act.put, List.getElem_toArray, List.getElem_cons_zero, List.getElem_cons_succ, List.setIfInBounds_toArray, List.set_cons_zero, List.set_cons_succ]))
  refine Kr.seqDone ?_
  go_upto_region 13 with fail
  refine Kr.seqStart ?_
  (refine Kr.seqP (v := ?_) (by rfl) ?_ ?_; rotate_left; (focus (go_simp; first | done | rfl)); (try simp only [Act.put, List.getElem_toArray, List.getElem_cons_zero, List.getElem_cons_succ, List.setIfInBounds_toArray, List.set_cons_zero, List.set_cons_succ]))
  refine Kr.seqDone ?_
  go_upto_region 14 with fail
  refine Kr.seqStart ?_
  iterate 2 (refine Kr.seqP (v := ?_) (by rfl) ?_ ?_; rotate_left; (focus (go_simp; first | done | rfl)); (try simp only [Act.put, List.getElem_toArray, List.getElem_cons_zero, List.getElem_cons_succ, List.setIfInBounds_toArray, List.set_cons_zero, List.set_cons_succ]))
  refine Kr.seqDone ?_
  go_upto_region 15 with fail
  refine Kr.seqStart ?_
  (refine Kr.seqP (v := ?_) (by rfl) ?_ ?_; rotate_left; (focus (go_simp; first | done | rfl)); (try simp only [Act.put, List.getElem_toArray, List.getElem_cons_zero, List.getElem_cons_succ, List.setIfInBounds_toArray, List.set_cons_zero, List.set_cons_succ]))
  have hk := H.c
  simp only [Kr.Cells] at hk
  iterate 9 (refine Kr.seqP (v := ?_) (by rfl) ?_ ?_; rotate_left; (focus (go_simp; first | done | rfl)); (try simp only [Act.put, List.getElem_toArray, List.getElem_cons_zero, List.getElem_cons_succ, List.setIfInBounds_toArray, List.set_cons_zero, List.set_cons_succ]))
  clear hk
  refine Kr.seqDone ?_
  go_wp2
  go_ret
  exact ⟨rfl, H.g⟩
set_option linter.unusedSimpArgs false in
set_option maxRecDepth 100000 in
set_option maxHeartbeats 16000000 in
theorem prod_err_err {pa : Option Addr} {na ca : Nat} {pb : Option Addr} {nb cb : Nat} {pe : Option Addr} {ne ce : Nat} {pm : Option Addr} {nm cm : Nat} {k : Nat} {c : Nat} {le : List Nat} {w : World} (hs : ∀ x ∈ [(pa, na, ca), (pb, nb, cb), (pm, nm, cm)], x.2.1 ≤ 8) (hs2 : ∀ x ∈ [(pe, ne, ce)], x.2.1 ≤ 2) (hk : k = 1 ∨ k = 2) (hf : Fst w (.agg #[.slice pm nm cm]) [(pa, na, ca), (pb, nb, cb)] k) (hc : Chk w (.agg #[.slice pa na ca]) (.agg #[.slice pm nm cm]) (.agg #[.slice pb nb cb]) (.agg #[.slice pm nm cm]) (k : Int)) (he : Nw w pe ne ce le) (hv : decide (valid le) = true) (hk1 : c = 1 ∨ c = 2) (hf1 : Fst w (.agg #[.slice pm nm cm]) [(pa, na, ca)] c) (hp : ∀ W, Gr w W → Calls Try.prog 27 #[.agg #[.slice pa na ca], .agg #[.slice pe ne ce], .agg #[.slice pm nm cm]] W (HasE 0 c W)) :
    Calls Try.prog 4 #[.agg #[.slice pa na ca], .agg #[.slice pb nb cb], .agg #[.slice pe ne ce], .agg #[.slice pm nm cm]] w fun e w' => e = .returned (.bool true) ∧ Gr w w' := by
  have HS := Lib.hid hs
  have HS2 := Lib.hid hs2
  have HF := Lib.hid hf
  have HF1 := Lib.hid hf1
  clear hs hs2 hf hf1
  have HK := Lib.hid hk
  have nk : ¬ (k : Int) = 0 := by rcases hk with rfl | rfl <;> decide
  have ek : ((k : Int) == 0) = false := by rcases hk with rfl | rfl <;> rfl
  clear hk
  have HC := Lib.hid hc
  clear hc
  have HK1 := Lib.hid hk1
  have nc : ¬ (c : Int) = 0 := by rcases hk1 with rfl | rfl <;> decide
  have ec : ((c : Int) == 0) = false := by rcases hk1 with rfl | rfl <;> rfl
  clear hk1
  have HV := Lib.hid hv
  have HP := Lib.hid hp
  clear hv hp
  have H := Sta.start w
  replace H := H.add (keepWs _ _ _ _) he
  go_enter Try.func4, Try.ntmps4
  go_upto_region 0 with fail
  refine Kr.seqStart ?_
  refine Kr.seqS (fun K hK => ?_)
  go_simp
  obtain ⟨y1, hy⟩ : ∃ y, w.alloc (.cells #[.slice pa na ca] 24) = y := ⟨_, rfl⟩
  obtain ⟨ba, hb⟩ : ∃ b, w.heap.size = b := ⟨_, rfl⟩
  rw [hy, hb]
  replace H := H.alloc hy hb rfl
  clear hy hb
  refine hK.out _ _ ?_; clear hK K
  (try simp only [Act.put, List.getElem_toArray, List.getElem_cons_zero, List.getElem_cons_succ, List.setIfInBounds_toArray, List.set_cons_zero, List.set_cons_succ])
  refine Kr.seqS (fun K hK => ?_)
  go_simp
  obtain ⟨y2, hy⟩ : ∃ y, y1.alloc (.cells #[.slice pb nb cb] 24) = y := ⟨_, rfl⟩
  obtain ⟨bb, hb⟩ : ∃ b, y1.heap.size = b := ⟨_, rfl⟩
  rw [hy, hb]
  replace H := H.alloc hy hb rfl
  clear hy hb
  refine hK.out _ _ ?_; clear hK K
  (try simp only [Act.put, List.getElem_toArray, List.getElem_cons_zero, List.getElem_cons_succ, List.setIfInBounds_toArray, List.set_cons_zero, List.set_cons_succ])
  refine Kr.seqS (fun K hK => ?_)
  go_simp
  obtain ⟨y3, hy⟩ : ∃ y, y2.alloc (.cells #[.slice pe ne ce] 24) = y := ⟨_, rfl⟩
  obtain ⟨be, hb⟩ : ∃ b, y2.heap.size = b := ⟨_, rfl⟩
  rw [hy, hb]
  replace H := H.alloc hy hb rfl
  clear hy hb
  refine hK.out _ _ ?_; clear hK K
  (try simp only [Act.put, List.getElem_toArray, List.getElem_cons_zero, List.getElem_cons_succ, List.setIfInBounds_toArray, List.set_cons_zero, List.set_cons_succ])
  refine Kr.seqS (fun K hK => ?_)
  go_simp
  obtain ⟨y4, hy⟩ : ∃ y, y3.alloc (.cells #[.slice pm nm cm] 24) = y := ⟨_, rfl⟩
  obtain ⟨bm, hb⟩ : ∃ b, y3.heap.size = b := ⟨_, rfl⟩
  rw [hy, hb]
  replace H := H.alloc hy hb rfl
  clear hy hb
  refine hK.out _ _ ?_; clear hK K
  (try simp only [Act.put, List.getElem_toArray, List.getElem_cons_zero, List.getElem_cons_succ, List.setIfInBounds_toArray, List.set_cons_zero, List.set_cons_succ])
  (refine Kr.seqP (v := ?_) (by rfl) ?_ ?_; rotate_left; (focus (go_simp; first | done | rfl)); (try simp only [Act.put, List.getElem_toArray, List.getElem_cons_zero, List.getElem_cons_succ, List.setIfInBounds_toArray, List.set_cons_zero, List.set_cons_succ]))
  refine Kr.seqDone ?_
  go_upto_region 1 with fail
  refine Kr.seqStart ?_
  refine Kr.seqS (fun K hK => ?_)
  go_simp
  go_at_call 18
  refine (awake3 _).mono ?_
  rintro e y5 ⟨rfl, hg⟩
  replace H := H.grow hg
  clear hg
  refine hK.out _ _ ?_; clear hK K
  (try simp only [Act.put, List.getElem_toArray, List.getElem_cons_zero, List.getElem_cons_succ, List.setIfInBounds_toArray, List.set_cons_zero, List.set_cons_succ])
  iterate 2 (refine Kr.seqP (v := ?_) (by rfl) ?_ ?_; rotate_left; (focus (go_simp; first | done | rfl)); (try simp only [Act.put, List.getElem_toArray, List.getElem_cons_zero, List.getElem_cons_succ, List.setIfInBounds_toArray, List.set_cons_zero, List.set_cons_succ]))
  have hk := H.c
  simp only [Kr.Cells] at hk
  iterate 3 (refine Kr.seqP (v := ?_) (by rfl) ?_ ?_; rotate_left; (focus (go_simp; first | done | rfl)); (try simp only [Act.put, List.getElem_toArray, List.getElem_cons_zero, List.getElem_cons_succ, List.setIfInBounds_toArray, List.set_cons_zero, List.set_cons_succ]))
  refine Kr.seqS (fun K hK => ?_)
  go_simp
  clear hk
  obtain ⟨y6, hy⟩ : ∃ y, y5.alloc (.cells #[.slice pa na ca, .slice pb nb cb, .slice pm nm cm] 24) = y := ⟨_, rfl⟩
  obtain ⟨by6, hb⟩ : ∃ b, y5.heap.size = b := ⟨_, rfl⟩
  rw [hy, hb]
  have HN : Nats y6 by6 0 [(pa, na, ca), (pb, nb, cb), (pm, nm, cm)] := nats_mk hy hb
  have hg : Gr y5 y6 := hy ▸ (Gr.refl _).alloc _
  replace H := H.grow hg
  clear hg hy hb
  refine hK.out _ _ ?_; clear hK K
  (try simp only [Act.put, List.getElem_toArray, List.getElem_cons_zero, List.getElem_cons_succ, List.setIfInBounds_toArray, List.set_cons_zero, List.set_cons_succ])
  refine Kr.seqS (fun K hK => ?_)
  go_simp
  go_at_call 19
  go_at_call 19
  refine (few_ok HN (by simp) HS.out).mono ?_
  rintro e y7 ⟨rfl, hg⟩
  replace H := H.grow hg
  clear hg
  clear HN
  refine hK.out _ _ ?_; clear hK K
  (try simp only [Act.put, List.getElem_toArray, List.getElem_cons_zero, List.getElem_cons_succ, List.setIfInBounds_toArray, List.set_cons_zero, List.set_cons_succ])
  iterate 3 (refine Kr.seqP (v := ?_) (by rfl) ?_ ?_; rotate_left; (focus (go_simp; first | done | rfl)); (try simp only [Act.put, List.getElem_toArray, List.getElem_cons_zero, List.getElem_cons_succ, List.setIfInBounds_toArray, List.set_cons_zero, List.set_cons_succ]))
  have hk := H.c
  simp only [Kr.Cells] at hk
  (refine Kr.seqP (v := ?_) (by rfl) ?_ ?_; rotate_left; (focus (go_simp; first | done | rfl)); (try simp only [Act.put, List.getElem_toArray, List.getElem_cons_zero, List.getElem_cons_succ, List.setIfInBounds_toArray, List.set_cons_zero, List.set_cons_succ]))
  refine Kr.seqS (fun K hK => ?_)
  go_simp
  clear hk
  obtain ⟨y8, hy⟩ : ∃ y, y7.alloc (.cells #[.slice pe ne ce] 24) = y := ⟨_, rfl⟩
  obtain ⟨by8, hb⟩ : ∃ b, y7.heap.size = b := ⟨_, rfl⟩
  rw [hy, hb]
  have HN : Nats y8 by8 0 [(pe, ne, ce)] := nats_mk hy hb
  have hg : Gr y7 y8 := hy ▸ (Gr.refl _).alloc _
  replace H := H.grow hg
  clear hg hy hb
  refine hK.out _ _ ?_; clear hK K
  (try simp only [Act.put, List.getElem_toArray, List.getElem_cons_zero, List.getElem_cons_succ, List.setIfInBounds_toArray, List.set_cons_zero, List.set_cons_succ])
  refine Kr.seqS (fun K hK => ?_)
  go_simp
  go_at_call 19
  go_at_call 19
  refine (few_ok HN (by simp) HS2.out).mono ?_
  rintro e y9 ⟨rfl, hg⟩
  replace H := H.grow hg
  clear hg
  clear HN
  refine hK.out _ _ ?_; clear hK K
  (try simp only [Act.put, List.getElem_toArray, List.getElem_cons_zero, List.getElem_cons_succ, List.setIfInBounds_toArray, List.set_cons_zero, List.set_cons_succ])
  iterate 2 (refine Kr.seqP (v := ?_) (by rfl) ?_ ?_; rotate_left; (focus (go_simp; first | done | rfl)); (try simp only [Act.put, List.getElem_toArray, List.getElem_cons_zero, List.getElem_cons_succ, List.setIfInBounds_toArray, List.set_cons_zero, List.set_cons_succ]))
  refine Kr.seqDone ?_
  go_upto_region 3 with fail
  refine Kr.seqStart ?_
  have hk := H.c
  simp only [Kr.Cells] at hk
  iterate 3 (refine Kr.seqP (v := ?_) (by rfl) ?_ ?_; rotate_left; (focus (go_simp; first | done | rfl)); (try simp only [Act.put, List.getElem_toArray, List.getElem_cons_zero, List.getElem_cons_succ, List.setIfInBounds_toArray, List.set_cons_zero, List.set_cons_succ]))
  refine Kr.seqS (fun K hK => ?_)
  go_simp
  go_at_call 26
  refine (gives_has_c (mMul_err HK.out (fun W g => HC.out W (H.g.trans g)))).mono ?_
  rintro e y10 ⟨p10, n10, c10, rfl, hr, hg⟩
  obtain rfl : n10 = 0 := by rw [← hr.len, digs_zero]; rfl
  clear hk
  replace H := H.grow hg
  clear hr hg
  refine hK.out _ _ ?_; clear hK K
  (try simp only [Act.put, List.getElem_toArray, List.getElem_cons_zero, List.getElem_cons_succ, List.setIfInBounds_toArray, List.set_cons_zero, List.set_cons_succ])
  iterate 3 (refine Kr.seqP (v := ?_) (by rfl) ?_ ?_; rotate_left; (focus (go_simp; first | done | rfl)); (try simp only [Act.put, List.getElem_toArray, List.getElem_cons_zero, List.getElem_cons_succ, List.setIfInBounds_toArray, List.set_cons_zero, List.set_cons_succ]))
  refine Kr.seqS (fun K hK => ?_)
  go_simp
  obtain ⟨y11, hy⟩ : ∃ y, y10.alloc (.cells #[.slice none 0 0] 24) = y := ⟨_, rfl⟩
  obtain ⟨bx, hb⟩ : ∃ b, y10.heap.size = b := ⟨_, rfl⟩
  rw [hy, hb]
  replace H := H.alloc hy hb rfl
  clear hy hb
  refine hK.out _ _ ?_; clear hK K
  (try simp only [Act.put, List.getElem_toArray, List.getElem_cons_zero, List.getElem_cons_succ, List.setIfInBounds_toArray, List.set_cons_zero, List.set_cons_succ])
  have hk := H.c
  simp only [Kr.Cells] at hk
  refine Kr.seqS (fun K hK => ?_)
  go_simp
  clear hk
  obtain ⟨y12, hy⟩ : ∃ y, y11.setCell ⟨bx, 0, none⟩ (.slice p10 0 c10) = y := ⟨_, rfl⟩
  rw [hy]
  replace H := H.store 0 hy rfl rfl
  dsimp only [List.set] at H
  clear hy
  refine hK.out _ _ ?_; clear hK K
  (try simp only [Act.put, List.getElem_toArray, List.getElem_cons_zero, List.getElem_cons_succ, List.setIfInBounds_toArray, List.set_cons_zero, List.set_cons_succ])
  (refine Kr.seqP (v := ?_) (by rfl) ?_ ?_; rotate_left; (focus (go_simp; first | done | rfl)); (try simp only [Act.put, List.getElem_toArray, List.getElem_cons_zero, List.getElem_cons_succ, List.setIfInBounds_toArray, List.set_cons_zero, List.set_cons_succ]))
  refine Kr.seqDone ?_
  go_upto_region 4 with fail
  refine Kr.seqStart ?_
  have hk := H.c
  simp only [Kr.Cells] at hk
  iterate 3 (refine Kr.seqP (v := ?_) (by rfl) ?_ ?_; rotate_left; (focus (go_simp; first | done | rfl)); (try simp only [Act.put, List.getElem_toArray, List.getElem_cons_zero, List.getElem_cons_succ, List.setIfInBounds_toArray, List.set_cons_zero, List.set_cons_succ]))
  refine Kr.seqS (fun K hK => ?_)
  go_simp
  go_at_call 27
  refine (HP.out _ H.g).mono ?_
  rintro e y13 ⟨p13, n13, c13, rfl, hr, hg⟩
  obtain rfl : n13 = 0 := by rw [← hr.len, digs_zero]; rfl
  clear hk
  replace H := H.grow hg
  clear hr hg
  refine hK.out _ _ ?_; clear hK K
  (try simp only [Act.put, List.getElem_toArray, List.getElem_cons_zero, List.getElem_cons_succ, List.setIfInBounds_toArray, List.set_cons_zero, List.set_cons_succ])
  iterate 3 (refine Kr.seqP (v := ?_) (by rfl) ?_ ?_; rotate_left; (focus (go_simp; first | done | rfl)); (try simp only [Act.put, List.getElem_toArray, List.getElem_cons_zero, List.getElem_cons_succ, List.setIfInBounds_toArray, List.set_cons_zero, List.set_cons_succ]))
  refine Kr.seqS (fun K hK => ?_)
  go_simp
  obtain ⟨y14, hy⟩ : ∃ y, y13.alloc (.cells #[.slice none 0 0] 24) = y := ⟨_, rfl⟩
  obtain ⟨b_y, hb⟩ : ∃ b, y13.heap.size = b := ⟨_, rfl⟩
  rw [hy, hb]
  replace H := H.alloc hy hb rfl
  clear hy hb
  refine hK.out _ _ ?_; clear hK K
  (try simp only [Act.put, List.getElem_toArray, List.getElem_cons_zero, List.getElem_cons_succ, List.setIfInBounds_toArray, List.set_cons_zero, List.set_cons_succ])
  have hk := H.c
  simp only [Kr.Cells] at hk
  refine Kr.seqS (fun K hK => ?_)
  go_simp
  clear hk
  obtain ⟨y15, hy⟩ : ∃ y, y14.setCell ⟨b_y, 0, none⟩ (.slice p13 0 c13) = y := ⟨_, rfl⟩
  rw [hy]
  replace H := H.store 0 hy rfl rfl
  dsimp only [List.set] at H
  clear hy
  refine hK.out _ _ ?_; clear hK K
  (try simp only [Act.put, List.getElem_toArray, List.getElem_cons_zero, List.getElem_cons_succ, List.setIfInBounds_toArray, List.set_cons_zero, List.set_cons_succ])
  (refine Kr.seqP (v := ?_) (by rfl) ?_ ?_; rotate_left; (focus (go_simp; first | done | rfl)); (try simp only [Act.put, List.getElem_toArray, List.getElem_cons_zero, List.getElem_cons_succ, List.setIfInBounds_toArray, List.set_cons_zero, List.set_cons_succ]))
  refine Kr.seqDone ?_
  go_upto_region 5 with fail
  refine Kr.seqStart ?_
  have hk := H.c
  simp only [Kr.Cells] at hk
  iterate 3 (refine Kr.seqP (v := ?_) (by rfl) ?_ ?_; rotate_left; (focus (go_simp; first | done | rfl)); (try simp only [Act.put, List.getElem_toArray, List.getElem_cons_zero, List.getElem_cons_succ, List.setIfInBounds_toArray, List.set_cons_zero, List.set_cons_succ]))
  refine Kr.seqS (fun K hK => ?_)
  go_simp
  clear hk
  obtain ⟨y16, hy⟩ : ∃ y, y15.alloc (.cells #[.slice pa na ca, .slice pb nb cb] 24) = y := ⟨_, rfl⟩
  obtain ⟨by16, hb⟩ : ∃ b, y15.heap.size = b := ⟨_, rfl⟩
  rw [hy, hb]
  have HN : Nats y16 by16 0 [(pa, na, ca), (pb, nb, cb)] := nats_mk hy hb
  have hg : Gr y15 y16 := hy ▸ (Gr.refl _).alloc _
  replace H := H.grow hg
  clear hg hy hb
  refine hK.out _ _ ?_; clear hK K
  (try simp only [Act.put, List.getElem_toArray, List.getElem_cons_zero, List.getElem_cons_succ, List.setIfInBounds_toArray, List.set_cons_zero, List.set_cons_succ])
  refine Kr.seqS (fun K hK => ?_)
  go_simp
  go_at_call 22
  refine (HF.out _ _ H.g HN).mono ?_
  rintro e y17 ⟨rfl, hg⟩
  replace H := H.grow hg
  clear hg
  clear HN
  refine hK.out _ _ ?_; clear hK K
  (try simp only [Act.put, List.getElem_toArray, List.getElem_cons_zero, List.getElem_cons_succ, List.setIfInBounds_toArray, List.set_cons_zero, List.set_cons_succ])
  (refine Kr.seqP (v := ?_) (by rfl) ?_ ?_; rotate_left; (focus (go_simp; first | done | rfl)); (try simp only [Act.put, List.getElem_toArray, List.getElem_cons_zero, List.getElem_cons_succ, List.setIfInBounds_toArray, List.set_cons_zero, List.set_cons_succ]))
  refine Kr.seqDone ?_
  go_upto_region 6 with fail
  refine Kr.seqStart ?_
  iterate 2 (refine Kr.seqP (v := ?_) (by rfl) ?_ ?_; rotate_left; (focus (go_simp; first | done | rfl)); (try simp only [Act.put, List.getElem_toArray, List.getElem_cons_zero, List.getElem_cons_succ, List.setIfInBounds_toArray, List.set_cons_zero, List.set_cons_succ]))
  refine Kr.seqDone ?_
  go_upto_region 7 with fail
  refine Kr.seqStart ?_
  (refine Kr.seqP (v := ?_) (by rfl) ?_ ?_; rotate_left; (focus (go_simp; first | done | rfl)); (try simp only [Act.put, List.getElem_toArray, List.getElem_cons_zero, List.getElem_cons_succ, List.setIfInBounds_toArray, List.set_cons_zero, List.set_cons_succ]))
  have hk := H.c
  simp only [Kr.Cells] at hk
  iterate 8 (refine Kr.seqP (v := ?_) (by rfl) ?_ ?_; rotate_left; (focus (go_simp; first | done | rfl)); (try simp only [Act.put, List.getElem_toArray, List.getElem_cons_zero, List.getElem_cons_succ, List.setIfInBounds_toArray, List.set_cons_zero, List.set_cons_succ]))
  clear hk
  refine Kr.seqDone ?_
  go_upto_region 11 with fail
  refine Kr.seqStart ?_
  have hk := H.c
  simp only [Kr.Cells] at hk
  iterate 2 (refine Kr.seqP (v := ?_) (by rfl) ?_ ?_; rotate_left; (focus (go_simp; first | done | rfl)); (try simp only [Act.put, List.getElem_toArray, List.getElem_cons_zero, List.getElem_cons_succ, List.setIfInBounds_toArray, List.set_cons_zero, List.set_cons_succ]))
  refine Kr.seqS (fun K hK => ?_)
  go_simp
  clear hk
  obtain ⟨y18, hy⟩ : ∃ y, y17.alloc (.cells #[.slice pa na ca] 24) = y := ⟨_, rfl⟩
  obtain ⟨by18, hb⟩ : ∃ b, y17.heap.size = b := ⟨_, rfl⟩
  rw [hy, hb]
  have HN : Nats y18 by18 0 [(pa, na, ca)] := nats_mk hy hb
  have hg : Gr y17 y18 := hy ▸ (Gr.refl _).alloc _
  replace H := H.grow hg
  clear hg hy hb
  refine hK.out _ _ ?_; clear hK K
  (try simp only [Act.put, List.getElem_toArray, List.getElem_cons_zero, List.getElem_cons_succ, List.setIfInBounds_toArray, List.set_cons_zero, List.set_cons_succ])
  refine Kr.seqS (fun K hK => ?_)
  go_simp
  go_at_call 22
  refine (HF1.out _ _ H.g HN).mono ?_
  rintro e y19 ⟨rfl, hg⟩
  replace H := H.grow hg
  clear hg
  clear HN
  refine hK.out _ _ ?_; clear hK K
  (try simp only [Act.put, List.getElem_toArray, List.getElem_cons_zero, List.getElem_cons_succ, List.setIfInBounds_toArray, List.set_cons_zero, List.set_cons_succ])
  (refine Kr.seqP (v := ?_) (by rfl) ?_ ?_; rotate_left; (focus (go_simp; first | done | rfl)); (try simp only [Act.put, List.getElem_toArray, List.getElem_cons_zero, List.getElem_cons_succ, List.setIfInBounds_toArray, List.set_cons_zero, List.set_cons_succ]))
  refine Kr.seqDone ?_
  go_upto_region 12 with fail
  refine Kr.seqStart ?_
  have hk := H.c
  simp only [Kr.Cells] at hk
  (refine Kr.seqP (v := ?_) (by rfl) ?_ ?_; rotate_left; (focus (go_simp; first | done | rfl)); (try simp only [Act.put, List.getElem_toArray, List.getElem_cons_zero, List.getElem_cons_succ, List.setIfInBounds_toArray, List.set_cons_zero, List.set_cons_succ]))
  refine Kr.seqS (fun K hK => ?_)
  go_simp
  go_at_call 29
  refine (valid3_any _ _ _ _ _ (H.ws 0 rfl)).mono ?_
  rintro e y20 ⟨rfl, hg⟩
  rw [HV.out]
  clear hk
  replace H := H.grow hg
  clear hg
  refine hK.out _ _ ?_; clear hK K
  (try simp only [Act.put, List.getElem_toArray, List.getElem_cons_zero, List.getElem_cons_succ, List.setIfInBounds_toArray, List.set_cons_zero, List.set_cons_succ])
  (refine Kr.seqP (v := ?_) (by rfl) ?_ ?_; rotate_left; (focus (go_simp; first | done | rfl)); (try simp only [Act.put, List.getElem_toArray, List.getElem_cons_zero, List.getElem_cons_succ, List.setIfInBounds_toArray, List.set_cons_zero, List.set_cons_succ]))
  refine Kr.seqDone ?_
  go_upto_region 14 with fail
  refine Kr.seqStart ?_
  iterate 2 (refine Kr.seqP (v := ?_) (by rfl) ?_ ?_; rotate_left; (focus (go_simp; first | done | rfl)); (try simp only [Act.put, List.getElem_toArray, List.getElem_cons_zero, List.getElem_cons_succ, List.setIfInBounds_toArray, List.set_cons_zero, List.set_cons_succ]))
  refine Kr.seqDone ?_
  go_upto_region 15 with fail
  refine Kr.seqStart ?_
  (refine Kr.seqP (v := ?_) (by rfl) ?_ ?_; rotate_left; (focus (go_simp; first | done | rfl)); (try simp only [Act.put, List.getElem_toArray, List.getElem_cons_zero, List.getElem_cons_succ, List.setIfInBounds_toArray, List.set_cons_zero, List.set_cons_succ]))
  have hk := H.c
  simp only [Kr.Cells] at hk
  iterate 9 (refine Kr.seqP (v := ?_) (by rfl) ?_ ?_; rotate_left; (focus (go_simp; first | done | rfl)); (try simp only [Act.put, List.getElem_toArray, List.getElem_cons_zero, List.getElem_cons_succ, List.setIfInBounds_toArray, List.set_cons_zero, List.set_cons_succ]))
  clear hk
  refine Kr.seqDone ?_
  go_wp2
  go_ret
  exact ⟨rfl, H.g⟩
set_option linter.unusedSimpArgs false in
set_option maxRecDepth 100000 in
set_option maxHeartbeats 16000000 in
theorem prod_err_ok {pa : Option Addr} {na ca : Nat} {pb : Option Addr} {nb cb : Nat} {pe : Option Addr} {ne ce : Nat} {pm : Option Addr} {nm cm : Nat} {x m : Nat} {k : Nat} {z : Nat} {w : World} (hs : ∀ x ∈ [(pa, na, ca), (pb, nb, cb), (pm, nm, cm)], x.2.1 ≤ 8) (hs2 : ∀ x ∈ [(pe, ne, ce)], x.2.1 ≤ 2) (ha : Nw w pa na ca (digs x)) (hm : Nw w pm nm cm (digs m)) (hx : x < m) (vm : m < pw 32) (hk : k = 1 ∨ k = 2) (hf : Fst w (.agg #[.slice pm nm cm]) [(pa, na, ca), (pb, nb, cb)] k) (hc : Chk w (.agg #[.slice pa na ca]) (.agg #[.slice pm nm cm]) (.agg #[.slice pb nb cb]) (.agg #[.slice pm nm cm]) (k : Int)) (he : Nw w pe ne ce (digs z)) (ve : z < pw 64) (hf1 : Fst w (.agg #[.slice pm nm cm]) [(pa, na, ca)] 0) :
    Calls Try.prog 4 #[.agg #[.slice pa na ca], .agg #[.slice pb nb cb], .agg #[.slice pe ne ce], .agg #[.slice pm nm cm]] w fun e w' => e = .returned (.bool true) ∧ Gr w w' := by
  have HS := Lib.hid hs
  have HS2 := Lib.hid hs2
  have HF := Lib.hid hf
  have HF1 := Lib.hid hf1
  clear hs hs2 hf hf1
  have HX := Lib.hid hx
  have VM := Lib.hid vm
  clear hx vm
  have VM9 : Hid (m < pw 900) := Lib.hid (Nat.lt_of_lt_of_le VM.out (pw_mono (by decide)))
  have HK := Lib.hid hk
  have nk : ¬ (k : Int) = 0 := by rcases hk with rfl | rfl <;> decide
  have ek : ((k : Int) == 0) = false := by rcases hk with rfl | rfl <;> rfl
  clear hk
  have HC := Lib.hid hc
  clear hc
  have VE := Lib.hid ve
  clear ve
  have H := Sta.start w
  replace H := H.num ha
  replace H := H.num hm
  replace H := H.num he
  go_enter Try.func4, Try.ntmps4
  go_upto_region 0 with fail
  refine Kr.seqStart ?_
  refine Kr.seqS (fun K hK => ?_)
  go_simp
  obtain ⟨y1, hy⟩ : ∃ y, w.alloc (.cells #[.slice pa na ca] 24) = y := ⟨_, rfl⟩
  obtain ⟨ba, hb⟩ : ∃ b, w.heap.size = b := ⟨_, rfl⟩
  rw [hy, hb]
  replace H := H.alloc hy hb rfl
  clear hy hb
  refine hK.out _ _ ?_; clear hK K
  (try simp only [Act.put, List.getElem_toArray, List.getElem_cons_zero, List.getElem_cons_succ, List.setIfInBounds_toArray, List.set_cons_zero, List.set_cons_succ])
  refine Kr.seqS (fun K hK => ?_)
  go_simp
  obtain ⟨y2, hy⟩ : ∃ y, y1.alloc (.cells #[.slice pb nb cb] 24) = y := ⟨_, rfl⟩
  obtain ⟨bb, hb⟩ : ∃ b, y1.heap.size = b := ⟨_, rfl⟩
  rw [hy, hb]
  replace H := H.alloc hy hb rfl
  clear hy hb
  refine hK.out _ _ ?_; clear hK K
  (try simp only [Act.put, List.getElem_toArray, List.getElem_cons_zero, List.getElem_cons_succ, List.setIfInBounds_toArray, List.set_cons_zero, List.set_cons_succ])
  refine Kr.seqS (fun K hK => ?_)
  go_simp
  obtain ⟨y3, hy⟩ : ∃ y, y2.alloc (.cells #[.slice pe ne ce] 24) = y := ⟨_, rfl⟩
  obtain ⟨be, hb⟩ : ∃ b, y2.heap.size = b := ⟨_, rfl⟩
  rw [hy, hb]
  replace H := H.alloc hy hb rfl
  clear hy hb
  refine hK.out _ _ ?_; clear hK K
  (try simp only [Act.put, List.getElem_toArray, List.getElem_cons_zero, List.getElem_cons_succ, List.setIfInBounds_toArray, List.set_cons_zero, List.set_cons_succ])
  refine Kr.seqS (fun K hK => ?_)
  go_simp
  obtain ⟨y4, hy⟩ : ∃ y, y3.alloc (.cells #[.slice pm nm cm] 24) = y := ⟨_, rfl⟩
  obtain ⟨bm, hb⟩ : ∃ b, y3.heap.size = b := ⟨_, rfl⟩
  rw [hy, hb]
  replace H := H.alloc hy hb rfl
  clear hy hb
  refine hK.out _ _ ?_; clear hK K
  (try simp only [Act.put, List.getElem_toArray, List.getElem_cons_zero, List.getElem_cons_succ, List.setIfInBounds_toArray, List.set_cons_zero, List.set_cons_succ])
  (refine Kr.seqP (v := ?_) (by rfl) ?_ ?_; rotate_left; (focus (go_simp; first | done | rfl)); (try simp only [Act.put, List.getElem_toArray, List.getElem_cons_zero, List.getElem_cons_succ, List.setIfInBounds_toArray, List.set_cons_zero, List.set_cons_succ]))
  refine Kr.seqDone ?_
  go_upto_region 1 with fail
  refine Kr.seqStart ?_
  refine Kr.seqS (fun K hK => ?_)
  go_simp
  go_at_call 18
  refine (awake3 _).mono ?_
  rintro e y5 ⟨rfl, hg⟩
  replace H := H.grow hg
  clear hg
  refine hK.out _ _ ?_; clear hK K
  (try simp only [Act.put, List.getElem_toArray, List.getElem_cons_zero, List.getElem_cons_succ, List.setIfInBounds_toArray, List.set_cons_zero, List.set_cons_succ])
  iterate 2 (refine Kr.seqP (v := ?_) (by rfl) ?_ ?_; rotate_left; (focus (go_simp; first | done | rfl)); (try simp only [Act.put, List.getElem_toArray, List.getElem_cons_zero, List.getElem_cons_succ, List.setIfInBounds_toArray, List.set_cons_zero, List.set_cons_succ]))
  have hk := H.c
  simp only [Kr.Cells] at hk
  iterate 3 (refine Kr.seqP (v := ?_) (by rfl) ?_ ?_; rotate_left; (focus (go_simp; first | done | rfl)); (try simp only [Act.put, List.getElem_toArray, List.getElem_cons_zero, List.getElem_cons_succ, List.setIfInBounds_toArray, List.set_cons_zero, List.set_cons_succ]))
  refine Kr.seqS (fun K hK => ?_)
  go_simp
  clear hk
  obtain ⟨y6, hy⟩ : ∃ y, y5.alloc (.cells #[.slice pa na ca, .slice pb nb cb, .slice pm nm cm] 24) = y := ⟨_, rfl⟩
  obtain ⟨by6, hb⟩ : ∃ b, y5.heap.size = b := ⟨_, rfl⟩
  rw [hy, hb]
  have HN : Nats y6 by6 0 [(pa, na, ca), (pb, nb, cb), (pm, nm, cm)] := nats_mk hy hb
  have hg : Gr y5 y6 := hy ▸ (Gr.refl _).alloc _
  replace H := H.grow hg
  clear hg hy hb
  refine hK.out _ _ ?_; clear hK K
  (try simp only [Act.put, List.getElem_toArray, List.getElem_cons_zero, List.getElem_cons_succ, List.setIfInBounds_toArray, List.set_cons_zero, List.set_cons_succ])
  refine Kr.seqS (fun K hK => ?_)
  go_simp
  go_at_call 19
  go_at_call 19
  refine (few_ok HN (by simp) HS.out).mono ?_
  rintro e y7 ⟨rfl, hg⟩
  replace H := H.grow hg
  clear hg
  clear HN
  refine hK.out _ _ ?_; clear hK K
  (try simp only [Act.put, List.getElem_toArray, List.getElem_cons_zero, List.getElem_cons_succ, List.setIfInBounds_toArray, List.set_cons_zero, List.set_cons_succ])
  iterate 3 (refine Kr.seqP (v := ?_) (by rfl) ?_ ?_; rotate_left; (focus (go_simp; first | done | rfl)); (try simp only [Act.put, List.getElem_toArray, List.getElem_cons_zero, List.getElem_cons_succ, List.setIfInBounds_toArray, List.set_cons_zero, List.set_cons_succ]))
  have hk := H.c
  simp only [Kr.Cells] at hk
  (refine Kr.seqP (v := ?_) (by rfl) ?_ ?_; rotate_left; (focus (go_simp; first | done | rfl)); (try simp only [Act.put, List.getElem_toArray, List.getElem_cons_zero, List.getElem_cons_succ, List.setIfInBounds_toArray, List.set_cons_zero, List.set_cons_succ]))
  refine Kr.seqS (fun K hK => ?_)
  go_simp
  clear hk
  obtain ⟨y8, hy⟩ : ∃ y, y7.alloc (.cells #[.slice pe ne ce] 24) = y := ⟨_, rfl⟩
  obtain ⟨by8, hb⟩ : ∃ b, y7.heap.size = b := ⟨_, rfl⟩
  rw [hy, hb]
  have HN : Nats y8 by8 0 [(pe, ne, ce)] := nats_mk hy hb
  have hg : Gr y7 y8 := hy ▸ (Gr.refl _).alloc _
  replace H := H.grow hg
  clear hg hy hb
  refine hK.out _ _ ?_; clear hK K
  (try simp only [Act.put, List.getElem_toArray, List.getElem_cons_zero, List.getElem_cons_succ, List.setIfInBounds_toArray, List.set_cons_zero, List.set_cons_succ])
  refine Kr.seqS (fun K hK => ?_)
  go_simp
  go_at_call 19
  go_at_call 19
  refine (few_ok HN (by simp) HS2.out).mono ?_
  rintro e y9 ⟨rfl, hg⟩
  replace H := H.grow hg
  clear hg
  clear HN
  refine hK.out _ _ ?_; clear hK K
  (try simp only [Act.put, List.getElem_toArray, List.getElem_cons_zero, List.getElem_cons_succ, List.setIfInBounds_toArray, List.set_cons_zero, List.set_cons_succ])
  iterate 2 (refine Kr.seqP (v := ?_) (by rfl) ?_ ?_; rotate_left; (focus (go_simp; first | done | rfl)); (try simp only [Act.put, List.getElem_toArray, List.getElem_cons_zero, List.getElem_cons_succ, List.setIfInBounds_toArray, List.set_cons_zero, List.set_cons_succ]))
  refine Kr.seqDone ?_
  go_upto_region 3 with fail
  refine Kr.seqStart ?_
  have hk := H.c
  simp only [Kr.Cells] at hk
  iterate 3 (refine Kr.seqP (v := ?_) (by rfl) ?_ ?_; rotate_left; (focus (go_simp; first | done | rfl)); (try simp only [Act.put, List.getElem_toArray, List.getElem_cons_zero, List.getElem_cons_succ, List.setIfInBounds_toArray, List.set_cons_zero, List.set_cons_succ]))
  refine Kr.seqS (fun K hK => ?_)
  go_simp
  go_at_call 26
  refine (gives_has_c (mMul_err HK.out (fun W g => HC.out W (H.g.trans g)))).mono ?_
  rintro e y10 ⟨p10, n10, c10, rfl, hr, hg⟩
  obtain rfl : n10 = 0 := by rw [← hr.len, digs_zero]; rfl
  clear hk
  replace H := H.grow hg
  clear hr hg
  refine hK.out _ _ ?_; clear hK K
  (try simp only [Act.put, List.getElem_toArray, List.getElem_cons_zero, List.getElem_cons_succ, List.setIfInBounds_toArray, List.set_cons_zero, List.set_cons_succ])
  iterate 3 (refine Kr.seqP (v := ?_) (by rfl) ?_ ?_; rotate_left; (focus (go_simp; first | done | rfl)); (try simp only [Act.put, List.getElem_toArray, List.getElem_cons_zero, List.getElem_cons_succ, List.setIfInBounds_toArray, List.set_cons_zero, List.set_cons_succ]))
  refine Kr.seqS (fun K hK => ?_)
  go_simp
  obtain ⟨y11, hy⟩ : ∃ y, y10.alloc (.cells #[.slice none 0 0] 24) = y := ⟨_, rfl⟩
  obtain ⟨bx, hb⟩ : ∃ b, y10.heap.size = b := ⟨_, rfl⟩
  rw [hy, hb]
  replace H := H.alloc hy hb rfl
  clear hy hb
  refine hK.out _ _ ?_; clear hK K
  (try simp only [Act.put, List.getElem_toArray, List.getElem_cons_zero, List.getElem_cons_succ, List.setIfInBounds_toArray, List.set_cons_zero, List.set_cons_succ])
  have hk := H.c
  simp only [Kr.Cells] at hk
  refine Kr.seqS (fun K hK => ?_)
  go_simp
  clear hk
  obtain ⟨y12, hy⟩ : ∃ y, y11.setCell ⟨bx, 0, none⟩ (.slice p10 0 c10) = y := ⟨_, rfl⟩
  rw [hy]
  replace H := H.store 0 hy rfl rfl
  dsimp only [List.set] at H
  clear hy
  refine hK.out _ _ ?_; clear hK K
  (try simp only [Act.put, List.getElem_toArray, List.getElem_cons_zero, List.getElem_cons_succ, List.setIfInBounds_toArray, List.set_cons_zero, List.set_cons_succ])
  (refine Kr.seqP (v := ?_) (by rfl) ?_ ?_; rotate_left; (focus (go_simp; first | done | rfl)); (try simp only [Act.put, List.getElem_toArray, List.getElem_cons_zero, List.getElem_cons_succ, List.setIfInBounds_toArray, List.set_cons_zero, List.set_cons_succ]))
  refine Kr.seqDone ?_
  go_upto_region 4 with fail
  refine Kr.seqStart ?_
  have hk := H.c
  simp only [Kr.Cells] at hk
  iterate 3 (refine Kr.seqP (v := ?_) (by rfl) ?_ ?_; rotate_left; (focus (go_simp; first | done | rfl)); (try simp only [Act.put, List.getElem_toArray, List.getElem_cons_zero, List.getElem_cons_succ, List.setIfInBounds_toArray, List.set_cons_zero, List.set_cons_succ]))
  refine Kr.seqS (fun K hK => ?_)
  go_simp
  go_at_call 27
  refine (mPow_ok (H.nw 2 rfl) (H.nw 0 rfl) (H.nw 1 rfl) HX.out VE.out VM.out).mono ?_
  rintro e y13 ⟨p13, n13, c13, rfl, hr, hg⟩
  clear hk
  replace H := H.grow hg
  replace H := H.num hr
  clear hr hg
  refine hK.out _ _ ?_; clear hK K
  (try simp only [Act.put, List.getElem_toArray, List.getElem_cons_zero, List.getElem_cons_succ, List.setIfInBounds_toArray, List.set_cons_zero, List.set_cons_succ])
  iterate 3 (refine Kr.seqP (v := ?_) (by rfl) ?_ ?_; rotate_left; (focus (go_simp; first | done | rfl)); (try simp only [Act.put, List.getElem_toArray, List.getElem_cons_zero, List.getElem_cons_succ, List.setIfInBounds_toArray, List.set_cons_zero, List.set_cons_succ]))
  refine Kr.seqS (fun K hK => ?_)
  go_simp
  obtain ⟨y14, hy⟩ : ∃ y, y13.alloc (.cells #[.slice none 0 0] 24) = y := ⟨_, rfl⟩
  obtain ⟨b_y, hb⟩ : ∃ b, y13.heap.size = b := ⟨_, rfl⟩
  rw [hy, hb]
  replace H := H.alloc hy hb rfl
  clear hy hb
  refine hK.out _ _ ?_; clear hK K
  (try simp only [Act.put, List.getElem_toArray, List.getElem_cons_zero, List.getElem_cons_succ, List.setIfInBounds_toArray, List.set_cons_zero, List.set_cons_succ])
  have hk := H.c
  simp only [Kr.Cells] at hk
  refine Kr.seqS (fun K hK => ?_)
  go_simp
  clear hk
  obtain ⟨y15, hy⟩ : ∃ y, y14.setCell ⟨b_y, 0, none⟩ (.slice p13 n13 c13) = y := ⟨_, rfl⟩
  rw [hy]
  replace H := H.store 0 hy rfl rfl
  dsimp only [List.set] at H
  clear hy
  refine hK.out _ _ ?_; clear hK K
  (try simp only [Act.put, List.getElem_toArray, List.getElem_cons_zero, List.getElem_cons_succ, List.setIfInBounds_toArray, List.set_cons_zero, List.set_cons_succ])
  (refine Kr.seqP (v := ?_) (by rfl) ?_ ?_; rotate_left; (focus (go_simp; first | done | rfl)); (try simp only [Act.put, List.getElem_toArray, List.getElem_cons_zero, List.getElem_cons_succ, List.setIfInBounds_toArray, List.set_cons_zero, List.set_cons_succ]))
  refine Kr.seqDone ?_
  go_upto_region 5 with fail
  refine Kr.seqStart ?_
  have hk := H.c
  simp only [Kr.Cells] at hk
  iterate 3 (refine Kr.seqP (v := ?_) (by rfl) ?_ ?_; rotate_left; (focus (go_simp; first | done | rfl)); (try simp only [Act.put, List.getElem_toArray, List.getElem_cons_zero, List.getElem_cons_succ, List.setIfInBounds_toArray, List.set_cons_zero, List.set_cons_succ]))
  refine Kr.seqS (fun K hK => ?_)
  go_simp
  clear hk
  obtain ⟨y16, hy⟩ : ∃ y, y15.alloc (.cells #[.slice pa na ca, .slice pb nb cb] 24) = y := ⟨_, rfl⟩
  obtain ⟨by16, hb⟩ : ∃ b, y15.heap.size = b := ⟨_, rfl⟩
  rw [hy, hb]
  have HN : Nats y16 by16 0 [(pa, na, ca), (pb, nb, cb)] := nats_mk hy hb
  have hg : Gr y15 y16 := hy ▸ (Gr.refl _).alloc _
  replace H := H.grow hg
  clear hg hy hb
  refine hK.out _ _ ?_; clear hK K
  (try simp only [Act.put, List.getElem_toArray, List.getElem_cons_zero, List.getElem_cons_succ, List.setIfInBounds_toArray, List.set_cons_zero, List.set_cons_succ])
  refine Kr.seqS (fun K hK => ?_)
  go_simp
  go_at_call 22
  refine (HF.out _ _ H.g HN).mono ?_
  rintro e y17 ⟨rfl, hg⟩
  replace H := H.grow hg
  clear hg
  clear HN
  refine hK.out _ _ ?_; clear hK K
  (try simp only [Act.put, List.getElem_toArray, List.getElem_cons_zero, List.getElem_cons_succ, List.setIfInBounds_toArray, List.set_cons_zero, List.set_cons_succ])
  (refine Kr.seqP (v := ?_) (by rfl) ?_ ?_; rotate_left; (focus (go_simp; first | done | rfl)); (try simp only [Act.put, List.getElem_toArray, List.getElem_cons_zero, List.getElem_cons_succ, List.setIfInBounds_toArray, List.set_cons_zero, List.set_cons_succ]))
  refine Kr.seqDone ?_
  go_upto_region 6 with fail
  refine Kr.seqStart ?_
  iterate 2 (refine Kr.seqP (v := ?_) (by rfl) ?_ ?_; rotate_left; (focus (go_simp; first | done | rfl)); (try simp only [Act.put, List.getElem_toArray, List.getElem_cons_zero, List.getElem_cons_succ, List.setIfInBounds_toArray, List.set_cons_zero, List.set_cons_succ]))
  refine Kr.seqDone ?_
  go_upto_region 7 with fail
  refine Kr.seqStart ?_
  (refine Kr.seqP (v := ?_) (by rfl) ?_ ?_; rotate_left; (focus (go_simp; first | done | rfl)); (try simp only [Act.put, List.getElem_toArray, List.getElem_cons_zero, List.getElem_cons_succ, List.setIfInBounds_toArray, List.set_cons_zero, List.set_cons_succ]))
  have hk := H.c
  simp only [Kr.Cells] at hk
  iterate 8 (refine Kr.seqP (v := ?_) (by rfl) ?_ ?_; rotate_left; (focus (go_simp; first | done | rfl)); (try simp only [Act.put, List.getElem_toArray, List.getElem_cons_zero, List.getElem_cons_succ, List.setIfInBounds_toArray, List.set_cons_zero, List.set_cons_succ]))
  clear hk
  refine Kr.seqDone ?_
  go_upto_region 11 with fail
  refine Kr.seqStart ?_
  have hk := H.c
  simp only [Kr.Cells] at hk
  iterate 2 (refine Kr.seqP (v := ?_) (by rfl) ?_ ?_; rotate_left; (focus (go_simp; first | done | rfl)); (try simp only [Act.put, List.getElem_toArray, List.getElem_cons_zero, List.getElem_cons_succ, List.setIfInBounds_toArray, List.set_cons_zero, List.set_cons_succ]))
  refine Kr.seqS (fun K hK => ?_)
  go_simp
  clear hk
  obtain ⟨y18, hy⟩ : ∃ y, y17.alloc (.cells #[.slice pa na ca] 24) = y := ⟨_, rfl⟩
  obtain ⟨by18, hb⟩ : ∃ b, y17.heap.size = b := ⟨_, rfl⟩
  rw [hy, hb]
  have HN : Nats y18 by18 0 [(pa, na, ca)] := nats_mk hy hb
  have hg : Gr y17 y18 := hy ▸ (Gr.refl _).alloc _
  replace H := H.grow hg
  clear hg hy hb
  refine hK.out _ _ ?_; clear hK K
  (try simp only [Act.put, List.getElem_toArray, List.getElem_cons_zero, List.getElem_cons_succ, List.setIfInBounds_toArray, List.set_cons_zero, List.set_cons_succ])
  refine Kr.seqS (fun K hK => ?_)
  go_simp
  go_at_call 22
  refine (HF1.out _ _ H.g HN).mono ?_
  rintro e y19 ⟨rfl, hg⟩
  replace H := H.grow hg
  clear hg
  clear HN
  refine hK.out _ _ ?_; clear hK K
  (try simp only [Act.put, List.getElem_toArray, List.getElem_cons_zero, List.getElem_cons_succ, List.setIfInBounds_toArray, List.set_cons_zero, List.set_cons_succ])
  (refine Kr.seqP (v := ?_) (by rfl) ?_ ?_; rotate_left; (focus (go_simp; first | done | rfl)); (try simp only [Act.put, List.getElem_toArray, List.getElem_cons_zero, List.getElem_cons_succ, List.setIfInBounds_toArray, List.set_cons_zero, List.set_cons_succ]))
  refine Kr.seqDone ?_
  go_upto_region 12 with fail
  refine Kr.seqStart ?_
  have hk := H.c
  simp only [Kr.Cells] at hk
  (refine Kr.seqP (v := ?_) (by rfl) ?_ ?_; rotate_left; (focus (go_simp; first | done | rfl)); (try simp only [Act.put, List.getElem_toArray, List.getElem_cons_zero, List.getElem_cons_succ, List.setIfInBounds_toArray, List.set_cons_zero, List.set_cons_succ]))
  refine Kr.seqS (fun K hK => ?_)
  go_simp
  go_at_call 29
  refine (valid3_any _ _ _ _ _ (H.nw 1 rfl)).mono ?_
  rintro e y20 ⟨rfl, hg⟩
  rw [dv VE.out]
  clear hk
  replace H := H.grow hg
  clear hg
  refine hK.out _ _ ?_; clear hK K
  (try simp only [Act.put, List.getElem_toArray, List.getElem_cons_zero, List.getElem_cons_succ, List.setIfInBounds_toArray, List.set_cons_zero, List.set_cons_succ])
  (refine Kr.seqP (v := ?_) (by rfl) ?_ ?_; rotate_left; (focus (go_simp; first | done | rfl)); (try simp only [Act.put, List.getElem_toArray, List.getElem_cons_zero, List.getElem_cons_succ, List.setIfInBounds_toArray, List.set_cons_zero, List.set_cons_succ]))
  refine Kr.seqDone ?_
  go_upto_region 14 with fail
  refine Kr.seqStart ?_
  iterate 2 (refine Kr.seqP (v := ?_) (by rfl) ?_ ?_; rotate_left; (focus (go_simp; first | done | rfl)); (try simp only [Act.put, List.getElem_toArray, List.getElem_cons_zero, List.getElem_cons_succ, List.setIfInBounds_toArray, List.set_cons_zero, List.set_cons_succ]))
  refine Kr.seqDone ?_
  go_upto_region 16 with fail
  refine Kr.startL (fun W' => Kr.Cells W' [(b_y, 0, .slice p13 n13 c13), (ba, 0, .slice pa na ca), (be, 0, .slice pe ne ce), (bm, 0, .slice pm nm cm)]) [] (by kernel_rfl) ?_
  have gd : Gr y20 y20.drew := (Gr.refl _).drew
  generalize y20.drew = d21 at gd ⊢
  replace H := H.grow gd
  clear gd
  (refine Kr.tS 0 [] (v := ?_) rfl (by kernel_rfl) (fun _ _ _ h => h) (by rfl) (H.sub [0, 5, 3, 2] rfl) (fun wx hSx => ?_) ?_; rotate_left; (focus (simp only [Kr.Cells] at hSx; go_simp; first | done | rfl)); (try simp only [Act.put, List.getElem_toArray, List.getElem_cons_zero, List.getElem_cons_succ, List.setIfInBounds_toArray, List.set_cons_zero, List.set_cons_succ]))
  (refine Kr.tS 1 [] (v := ?_) rfl (by kernel_rfl) (fun _ _ _ h => h) (by rfl) (H.sub [0, 5, 3, 2] rfl) (fun wx hSx => ?_) ?_; rotate_left; (focus (simp only [Kr.Cells] at hSx; go_simp; first | done | rfl)); (try simp only [Act.put, List.getElem_toArray, List.getElem_cons_zero, List.getElem_cons_succ, List.setIfInBounds_toArray, List.set_cons_zero, List.set_cons_succ]))
  (refine Kr.tS 2 [] (v := ?_) rfl (by kernel_rfl) (fun _ _ _ h => h) (by rfl) (H.sub [0, 5, 3, 2] rfl) (fun wx hSx => ?_) ?_; rotate_left; (focus (simp only [Kr.Cells] at hSx; go_simp; first | done | rfl)); (try simp only [Act.put, List.getElem_toArray, List.getElem_cons_zero, List.getElem_cons_succ, List.setIfInBounds_toArray, List.set_cons_zero, List.set_cons_succ]))
  (refine Kr.tS 3 [] (v := ?_) rfl (by kernel_rfl) (fun _ _ _ h => h) (by rfl) (H.sub [0, 5, 3, 2] rfl) (fun wx hSx => ?_) ?_; rotate_left; (focus (simp only [Kr.Cells] at hSx; go_simp; first | done | rfl)); (try simp only [Act.put, List.getElem_toArray, List.getElem_cons_zero, List.getElem_cons_succ, List.setIfInBounds_toArray, List.set_cons_zero, List.set_cons_succ]))
  refine Kr.readyL (rs := [4]) (by kernel_rfl) (by simp) ?_
  refine Kr.AllL.cons rfl (fun K hK => ?_) Kr.AllL.nil
  go_simp
  go_at_call 30
  refine (rpow3_v (H.nw 3 rfl) (H.nw 1 rfl) (H.nw 2 rfl) HX.out (Nat.lt_of_lt_of_le VE.out (pw_mono (by decide))) VM9.out).mono ?_
  rintro e y22 ⟨p22, n22, c22, rfl, hr, hg⟩
  replace H := H.grow hg
  replace H := H.num hr
  clear hr hg
  refine hK.out _ _ (fun _ => (H.sub [0, 5, 3, 2] rfl)) ?_; clear hK K
  (try simp only [Act.put, List.getElem_toArray, List.getElem_cons_zero, List.getElem_cons_succ, List.setIfInBounds_toArray, List.set_cons_zero, List.set_cons_succ])
  refine Kr.readyL (rs := [5]) (by kernel_rfl) (by simp) ?_
  refine Kr.AllL.cons rfl (fun K hK => ?_) Kr.AllL.nil
  go_simp
  go_at_call 23
  refine (same3_v (H.nw 1 rfl) (H.nw 0 rfl)).mono ?_
  rintro e y23 ⟨rfl, hg⟩
  rw [decide_eq_true rfl]
  replace H := H.grow hg
  clear hg
  refine hK.out _ _ (fun _ => (H.sub [0, 5, 3, 2] rfl)) ?_; clear hK K
  (try simp only [Act.put, List.getElem_toArray, List.getElem_cons_zero, List.getElem_cons_succ, List.setIfInBounds_toArray, List.set_cons_zero, List.set_cons_succ])
  (refine Kr.tP 6 (v := ?_) rfl (by kernel_rfl) (fun _ _ _ h => h) (by rfl) (fun _ => (H.sub [0, 5, 3, 2] rfl)) (fun wx => ?_) ?_; rotate_left; (focus (go_simp; first | done | rfl)); (try simp only [Act.put, List.getElem_toArray, List.getElem_cons_zero, List.getElem_cons_succ, List.setIfInBounds_toArray, List.set_cons_zero, List.set_cons_succ]))
  (refine Kr.tP 7 (v := ?_) rfl (by kernel_rfl) (fun _ _ _ h => h) (by rfl) (fun _ => (H.sub [0, 5, 3, 2] rfl)) (fun wx => ?_) ?_; rotate_left; (focus (go_simp; first | done | rfl)); (try simp only [Act.put, List.getElem_toArray, List.getElem_cons_zero, List.getElem_cons_succ, List.setIfInBounds_toArray, List.set_cons_zero, List.set_cons_succ]))
  (refine Kr.tP 8 (v := ?_) rfl (by kernel_rfl) (fun _ _ _ h => h) (by rfl) (fun _ => (H.sub [0, 5, 3, 2] rfl)) (fun wx => ?_) ?_; rotate_left; (focus (go_simp; first | done | rfl)); (try simp only [Act.put, List.getElem_toArray, List.getElem_cons_zero, List.getElem_cons_succ, List.setIfInBounds_toArray, List.set_cons_zero, List.set_cons_succ]))
  (refine Kr.tP 9 (v := ?_) rfl (by kernel_rfl) (fun _ _ _ h => h) (by rfl) (fun _ => (H.sub [0, 5, 3, 2] rfl)) (fun wx => ?_) ?_; rotate_left; (focus (go_simp; first | done | rfl)); (try simp only [Act.put, List.getElem_toArray, List.getElem_cons_zero, List.getElem_cons_succ, List.setIfInBounds_toArray, List.set_cons_zero, List.set_cons_succ]))
  (refine Kr.tP 10 (v := ?_) rfl (by kernel_rfl) (fun _ _ _ h => h) (by rfl) (fun _ => (H.sub [0, 5, 3, 2] rfl)) (fun wx => ?_) ?_; rotate_left; (focus (go_simp; first | done | rfl)); (try simp only [Act.put, List.getElem_toArray, List.getElem_cons_zero, List.getElem_cons_succ, List.setIfInBounds_toArray, List.set_cons_zero, List.set_cons_succ]))
  refine Kr.doneL (by kernel_rfl) ?_ _
  go_wp2
  go_ret
  exact ⟨rfl, H.g⟩
set_option linter.unusedSimpArgs false in
set_option maxRecDepth 100000 in
set_option maxHeartbeats 16000000 in
theorem prod_ok_inv {pa : Option Addr} {na ca : Nat} {pb : Option Addr} {nb cb : Nat} {pe : Option Addr} {ne ce : Nat} {pm : Option Addr} {nm cm : Nat} {x m : Nat} {y : Nat} {c : Nat} {le : List Nat} {w : World} (hs : ∀ x ∈ [(pa, na, ca), (pb, nb, cb), (pm, nm, cm)], x.2.1 ≤ 8) (hs2 : ∀ x ∈ [(pe, ne, ce)], x.2.1 ≤ 2) (ha : Nw w pa na ca (digs x)) (hm : Nw w pm nm cm (digs m)) (hx : x < m) (vm : m < pw 32) (hb : Nw w pb nb cb (digs y)) (hy : y < m) (hf : Fst w (.agg #[.slice pm nm cm]) [(pa, na, ca), (pb, nb, cb)] 0) (he : Nw w pe ne ce le) (hv : decide (valid le) = false) (hf1 : Fst w (.agg #[.slice pm nm cm]) [(pa, na, ca)] c) (hp : ∀ W, Gr w W → Calls Try.prog 27 #[.agg #[.slice pa na ca], .agg #[.slice pe ne ce], .agg #[.slice pm nm cm]] W (HasE 0 1 W)) :
    Calls Try.prog 4 #[.agg #[.slice pa na ca], .agg #[.slice pb nb cb], .agg #[.slice pe ne ce], .agg #[.slice pm nm cm]] w fun e w' => e = .returned (.bool true) ∧ Gr w w' := by
  have HS := Lib.hid hs
  have HS2 := Lib.hid hs2
  have HF := Lib.hid hf
  have HF1 := Lib.hid hf1
  clear hs hs2 hf hf1
  have HX := Lib.hid hx
  have VM := Lib.hid vm
  clear hx vm
  have VM9 : Hid (m < pw 900) := Lib.hid (Nat.lt_of_lt_of_le VM.out (pw_mono (by decide)))
  have HY := Lib.hid hy
  clear hy
  have HV := Lib.hid hv
  have HP := Lib.hid hp
  clear hv hp
  have H := Sta.start w
  replace H := H.num ha
  replace H := H.num hm
  replace H := H.num hb
  replace H := H.add (keepWs _ _ _ _) he
  go_enter Try.func4, Try.ntmps4
  go_upto_region 0 with fail
  refine Kr.seqStart ?_
  refine Kr.seqS (fun K hK => ?_)
  go_simp
  obtain ⟨y1, hy⟩ : ∃ y, w.alloc (.cells #[.slice pa na ca] 24) = y := ⟨_, rfl⟩
  obtain ⟨ba, hb⟩ : ∃ b, w.heap.size = b := ⟨_, rfl⟩
  rw [hy, hb]
  replace H := H.alloc hy hb rfl
  clear hy hb
  refine hK.out _ _ ?_; clear hK K
  (try simp only [Act.put, List.getElem_toArray, List.getElem_cons_zero, List.getElem_cons_succ, List.setIfInBounds_toArray, List.set_cons_zero, List.set_cons_succ])
  refine Kr.seqS (fun K hK => ?_)
  go_simp
  obtain ⟨y2, hy⟩ : ∃ y, y1.alloc (.cells #[.slice pb nb cb] 24) = y := ⟨_, rfl⟩
  obtain ⟨bb, hb⟩ : ∃ b, y1.heap.size = b := ⟨_, rfl⟩
  rw [hy, hb]
  replace H := H.alloc hy hb rfl
  clear hy hb
  refine hK.out _ _ ?_; clear hK K
  (try simp only [Act.put, List.getElem_toArray, List.getElem_cons_zero, List.getElem_cons_succ, List.setIfInBounds_toArray, List.set_cons_zero, List.set_cons_succ])
  refine Kr.seqS (fun K hK => ?_)
  go_simp
  obtain ⟨y3, hy⟩ : ∃ y, y2.alloc (.cells #[.slice pe ne ce] 24) = y := ⟨_, rfl⟩
  obtain ⟨be, hb⟩ : ∃ b, y2.heap.size = b := ⟨_, rfl⟩
  rw [hy, hb]
  replace H := H.alloc hy hb rfl
  clear hy hb
  refine hK.out _ _ ?_; clear hK K
  (try simp only [Act.put, List.getElem_toArray, List.getElem_cons_zero, List.getElem_cons_succ, List.setIfInBounds_toArray, List.set_cons_zero, List.set_cons_succ])
  refine Kr.seqS (fun K hK => ?_)
  go_simp
  obtain ⟨y4, hy⟩ : ∃ y, y3.alloc (.cells #[.slice pm nm cm] 24) = y := ⟨_, rfl⟩
  obtain ⟨bm, hb⟩ : ∃ b, y3.heap.size = b := ⟨_, rfl⟩
  rw [hy, hb]
  replace H := H.alloc hy hb rfl
  clear hy hb
  refine hK.out _ _ ?_; clear hK K
  (try simp only [Act.put, List.getElem_toArray, List.getElem_cons_zero, List.getElem_cons_succ, List.setIfInBounds_toArray, List.set_cons_zero, List.set_cons_succ])
  (refine Kr.seqP (v := ?_) (by rfl) ?_ ?_; rotate_left; (focus (go_simp; first | done | rfl)); (try simp only [Act.put, List.getElem_toArray, List.getElem_cons_zero, List.getElem_cons_succ, List.setIfInBounds_toArray, List.set_cons_zero, List.set_cons_succ]))
  refine Kr.seqDone ?_
  go_upto_region 1 with fail
  refine Kr.seqStart ?_
  refine Kr.seqS (fun K hK => ?_)
  go_simp
  go_at_call 18
  refine (awake3 _).mono ?_
  rintro e y5 ⟨rfl, hg⟩
  replace H := H.grow hg
  clear hg
  refine hK.out _ _ ?_; clear hK K
  (try simp only [Act.put, List.getElem_toArray, List.getElem_cons_zero, List.getElem_cons_succ, List.setIfInBounds_toArray, List.set_cons_zero, List.set_cons_succ])
  iterate 2 (refine Kr.seqP (v := ?_) (by rfl) ?_ ?_; rotate_left; (focus (go_simp; first | done | rfl)); (try simp only [Act.put, List.getElem_toArray, List.getElem_cons_zero, List.getElem_cons_succ, List.setIfInBounds_toArray, List.set_cons_zero, List.set_cons_succ]))
  have hk := H.c
  simp only [Kr.Cells] at hk
  iterate 3 (refine Kr.seqP (v := ?_) (by rfl) ?_ ?_; rotate_left; (focus (go_simp; first | done | rfl)); (try simp only [Act.put, List.getElem_toArray, List.getElem_cons_zero, List.getElem_cons_succ, List.setIfInBounds_toArray, List.set_cons_zero, List.set_cons_succ]))
  refine Kr.seqS (fun K hK => ?_)
  go_simp
  clear hk
  obtain ⟨y6, hy⟩ : ∃ y, y5.alloc (.cells #[.slice pa na ca, .slice pb nb cb, .slice pm nm cm] 24) = y := ⟨_, rfl⟩
  obtain ⟨by6, hb⟩ : ∃ b, y5.heap.size = b := ⟨_, rfl⟩
  rw [hy, hb]
  have HN : Nats y6 by6 0 [(pa, na, ca), (pb, nb, cb), (pm, nm, cm)] := nats_mk hy hb
  have hg : Gr y5 y6 := hy ▸ (Gr.refl _).alloc _
  replace H := H.grow hg
  clear hg hy hb
  refine hK.out _ _ ?_; clear hK K
  (try simp only [Act.put, List.getElem_toArray, List.getElem_cons_zero, List.getElem_cons_succ, List.setIfInBounds_toArray, List.set_cons_zero, List.set_cons_succ])
  refine Kr.seqS (fun K hK => ?_)
  go_simp
  go_at_call 19
  go_at_call 19
  refine (few_ok HN (by simp) HS.out).mono ?_
  rintro e y7 ⟨rfl, hg⟩
  replace H := H.grow hg
  clear hg
  clear HN
  refine hK.out _ _ ?_; clear hK K
  (try simp only [Act.put, List.getElem_toArray, List.getElem_cons_zero, List.getElem_cons_succ, List.setIfInBounds_toArray, List.set_cons_zero, List.set_cons_succ])
  iterate 3 (refine Kr.seqP (v := ?_) (by rfl) ?_ ?_; rotate_left; (focus (go_simp; first | done | rfl)); (try simp only [Act.put, List.getElem_toArray, List.getElem_cons_zero, List.getElem_cons_succ, List.setIfInBounds_toArray, List.set_cons_zero, List.set_cons_succ]))
  have hk := H.c
  simp only [Kr.Cells] at hk
  (refine Kr.seqP (v := ?_) (by rfl) ?_ ?_; rotate_left; (focus (go_simp; first | done | rfl)); (try simp only [Act.put, List.getElem_toArray, List.getElem_cons_zero, List.getElem_cons_succ, List.setIfInBounds_toArray, List.set_cons_zero, List.set_cons_succ]))
  refine Kr.seqS (fun K hK => ?_)
  go_simp
  clear hk
  obtain ⟨y8, hy⟩ : ∃ y, y7.alloc (.cells #[.slice pe ne ce] 24) = y := ⟨_, rfl⟩
  obtain ⟨by8, hb⟩ : ∃ b, y7.heap.size = b := ⟨_, rfl⟩
  rw [hy, hb]
  have HN : Nats y8 by8 0 [(pe, ne, ce)] := nats_mk hy hb
  have hg : Gr y7 y8 := hy ▸ (Gr.refl _).alloc _
  replace H := H.grow hg
  clear hg hy hb
  refine hK.out _ _ ?_; clear hK K
  (try simp only [Act.put, List.getElem_toArray, List.getElem_cons_zero, List.getElem_cons_succ, List.setIfInBounds_toArray, List.set_cons_zero, List.set_cons_succ])
  refine Kr.seqS (fun K hK => ?_)
  go_simp
  go_at_call 19
  go_at_call 19
  refine (few_ok HN (by simp) HS2.out).mono ?_
  rintro e y9 ⟨rfl, hg⟩
  replace H := H.grow hg
  clear hg
  clear HN
  refine hK.out _ _ ?_; clear hK K
  (try simp only [Act.put, List.getElem_toArray, List.getElem_cons_zero, List.getElem_cons_succ, List.setIfInBounds_toArray, List.set_cons_zero, List.set_cons_succ])
  iterate 2 (refine Kr.seqP (v := ?_) (by rfl) ?_ ?_; rotate_left; (focus (go_simp; first | done | rfl)); (try simp only [Act.put, List.getElem_toArray, List.getElem_cons_zero, List.getElem_cons_succ, List.setIfInBounds_toArray, List.set_cons_zero, List.set_cons_succ]))
  refine Kr.seqDone ?_
  go_upto_region 3 with fail
  refine Kr.seqStart ?_
  have hk := H.c
  simp only [Kr.Cells] at hk
  iterate 3 (refine Kr.seqP (v := ?_) (by rfl) ?_ ?_; rotate_left; (focus (go_simp; first | done | rfl)); (try simp only [Act.put, List.getElem_toArray, List.getElem_cons_zero, List.getElem_cons_succ, List.setIfInBounds_toArray, List.set_cons_zero, List.set_cons_succ]))
  refine Kr.seqS (fun K hK => ?_)
  go_simp
  go_at_call 26
  refine (mMul_v (H.nw 3 rfl) (H.nw 1 rfl) (H.nw 2 rfl) HX.out HY.out VM.out).mono ?_
  rintro e y10 ⟨p10, n10, c10, rfl, hr, hg⟩
  clear hk
  replace H := H.grow hg
  replace H := H.num hr.toNw
  clear hr hg
  refine hK.out _ _ ?_; clear hK K
  (try simp only [Act.put, List.getElem_toArray, List.getElem_cons_zero, List.getElem_cons_succ, List.setIfInBounds_toArray, List.set_cons_zero, List.set_cons_succ])
  iterate 3 (refine Kr.seqP (v := ?_) (by rfl) ?_ ?_; rotate_left; (focus (go_simp; first | done | rfl)); (try simp only [Act.put, List.getElem_toArray, List.getElem_cons_zero, List.getElem_cons_succ, List.setIfInBounds_toArray, List.set_cons_zero, List.set_cons_succ]))
  refine Kr.seqS (fun K hK => ?_)
  go_simp
  obtain ⟨y11, hy⟩ : ∃ y, y10.alloc (.cells #[.slice none 0 0] 24) = y := ⟨_, rfl⟩
  obtain ⟨bx, hb⟩ : ∃ b, y10.heap.size = b := ⟨_, rfl⟩
  rw [hy, hb]
  replace H := H.alloc hy hb rfl
  clear hy hb
  refine hK.out _ _ ?_; clear hK K
  (try simp only [Act.put, List.getElem_toArray, List.getElem_cons_zero, List.getElem_cons_succ, List.setIfInBounds_toArray, List.set_cons_zero, List.set_cons_succ])
  have hk := H.c
  simp only [Kr.Cells] at hk
  refine Kr.seqS (fun K hK => ?_)
  go_simp
  clear hk
  obtain ⟨y12, hy⟩ : ∃ y, y11.setCell ⟨bx, 0, none⟩ (.slice p10 n10 c10) = y := ⟨_, rfl⟩
  rw [hy]
  replace H := H.store 0 hy rfl rfl
  dsimp only [List.set] at H
  clear hy
  refine hK.out _ _ ?_; clear hK K
  (try simp only [Act.put, List.getElem_toArray, List.getElem_cons_zero, List.getElem_cons_succ, List.setIfInBounds_toArray, List.set_cons_zero, List.set_cons_succ])
  (refine Kr.seqP (v := ?_) (by rfl) ?_ ?_; rotate_left; (focus (go_simp; first | done | rfl)); (try simp only [Act.put, List.getElem_toArray, List.getElem_cons_zero, List.getElem_cons_succ, List.setIfInBounds_toArray, List.set_cons_zero, List.set_cons_succ]))
  refine Kr.seqDone ?_
  go_upto_region 4 with fail
  refine Kr.seqStart ?_
  have hk := H.c
  simp only [Kr.Cells] at hk
  iterate 3 (refine Kr.seqP (v := ?_) (by rfl) ?_ ?_; rotate_left; (focus (go_simp; first | done | rfl)); (try simp only [Act.put, List.getElem_toArray, List.getElem_cons_zero, List.getElem_cons_succ, List.setIfInBounds_toArray, List.set_cons_zero, List.set_cons_succ]))
  refine Kr.seqS (fun K hK => ?_)
  go_simp
  go_at_call 27
  refine (HP.out _ H.g).mono ?_
  rintro e y13 ⟨p13, n13, c13, rfl, hr, hg⟩
  obtain rfl : n13 = 0 := by rw [← hr.len, digs_zero]; rfl
  clear hk
  replace H := H.grow hg
  clear hr hg
  refine hK.out _ _ ?_; clear hK K
  (try simp only [Act.put, List.getElem_toArray, List.getElem_cons_zero, List.getElem_cons_succ, List.setIfInBounds_toArray, List.set_cons_zero, List.set_cons_succ])
  iterate 3 (refine Kr.seqP (v := ?_) (by rfl) ?_ ?_; rotate_left; (focus (go_simp; first | done | rfl)); (try simp only [Act.put, List.getElem_toArray, List.getElem_cons_zero, List.getElem_cons_succ, List.setIfInBounds_toArray, List.set_cons_zero, List.set_cons_succ]))
  refine Kr.seqS (fun K hK => ?_)
  go_simp
  obtain ⟨y14, hy⟩ : ∃ y, y13.alloc (.cells #[.slice none 0 0] 24) = y := ⟨_, rfl⟩
  obtain ⟨b_y, hb⟩ : ∃ b, y13.heap.size = b := ⟨_, rfl⟩
  rw [hy, hb]
  replace H := H.alloc hy hb rfl
  clear hy hb
  refine hK.out _ _ ?_; clear hK K
  (try simp only [Act.put, List.getElem_toArray, List.getElem_cons_zero, List.getElem_cons_succ, List.setIfInBounds_toArray, List.set_cons_zero, List.set_cons_succ])
  have hk := H.c
  simp only [Kr.Cells] at hk
  refine Kr.seqS (fun K hK => ?_)
  go_simp
  clear hk
  obtain ⟨y15, hy⟩ : ∃ y, y14.setCell ⟨b_y, 0, none⟩ (.slice p13 0 c13) = y := ⟨_, rfl⟩
  rw [hy]
  replace H := H.store 0 hy rfl rfl
  dsimp only [List.set] at H
  clear hy
  refine hK.out _ _ ?_; clear hK K
  (try simp only [Act.put, List.getElem_toArray, List.getElem_cons_zero, List.getElem_cons_succ, List.setIfInBounds_toArray, List.set_cons_zero, List.set_cons_succ])
  (refine Kr.seqP (v := ?_) (by rfl) ?_ ?_; rotate_left; (focus (go_simp; first | done | rfl)); (try simp only [Act.put, List.getElem_toArray, List.getElem_cons_zero, List.getElem_cons_succ, List.setIfInBounds_toArray, List.set_cons_zero, List.set_cons_succ]))
  refine Kr.seqDone ?_
  go_upto_region 5 with fail
  refine Kr.seqStart ?_
  have hk := H.c
  simp only [Kr.Cells] at hk
  iterate 3 (refine Kr.seqP (v := ?_) (by rfl) ?_ ?_; rotate_left; (focus (go_simp; first | done | rfl)); (try simp only [Act.put, List.getElem_toArray, List.getElem_cons_zero, List.getElem_cons_succ, List.setIfInBounds_toArray, List.set_cons_zero, List.set_cons_succ]))
  refine Kr.seqS (fun K hK => ?_)
  go_simp
  clear hk
  obtain ⟨y16, hy⟩ : ∃ y, y15.alloc (.cells #[.slice pa na ca, .slice pb nb cb] 24) = y := ⟨_, rfl⟩
  obtain ⟨by16, hb⟩ : ∃ b, y15.heap.size = b := ⟨_, rfl⟩
  rw [hy, hb]
  have HN : Nats y16 by16 0 [(pa, na, ca), (pb, nb, cb)] := nats_mk hy hb
  have hg : Gr y15 y16 := hy ▸ (Gr.refl _).alloc _
  replace H := H.grow hg
  clear hg hy hb
  refine hK.out _ _ ?_; clear hK K
  (try simp only [Act.put, List.getElem_toArray, List.getElem_cons_zero, List.getElem_cons_succ, List.setIfInBounds_toArray, List.set_cons_zero, List.set_cons_succ])
  refine Kr.seqS (fun K hK => ?_)
  go_simp
  go_at_call 22
  refine (HF.out _ _ H.g HN).mono ?_
  rintro e y17 ⟨rfl, hg⟩
  replace H := H.grow hg
  clear hg
  clear HN
  refine hK.out _ _ ?_; clear hK K
  (try simp only [Act.put, List.getElem_toArray, List.getElem_cons_zero, List.getElem_cons_succ, List.setIfInBounds_toArray, List.set_cons_zero, List.set_cons_succ])
  (refine Kr.seqP (v := ?_) (by rfl) ?_ ?_; rotate_left; (focus (go_simp; first | done | rfl)); (try simp only [Act.put, List.getElem_toArray, List.getElem_cons_zero, List.getElem_cons_succ, List.setIfInBounds_toArray, List.set_cons_zero, List.set_cons_succ]))
  refine Kr.seqDone ?_
  go_upto_region 6 with fail
  refine Kr.seqStart ?_
  iterate 2 (refine Kr.seqP (v := ?_) (by rfl) ?_ ?_; rotate_left; (focus (go_simp; first | done | rfl)); (try simp only [Act.put, List.getElem_toArray, List.getElem_cons_zero, List.getElem_cons_succ, List.setIfInBounds_toArray, List.set_cons_zero, List.set_cons_succ]))
  refine Kr.seqDone ?_
  go_upto_region 9 with fail
  refine Kr.startL (fun W' => Kr.Cells W' [(bx, 0, .slice p10 n10 c10), (ba, 0, .slice pa na ca), (bb, 0, .slice pb nb cb), (bm, 0, .slice pm nm cm)]) [] (by kernel_rfl) ?_
  have gd : Gr y17 y17.drew := (Gr.refl _).drew
  generalize y17.drew = d18 at gd ⊢
  replace H := H.grow gd
  clear gd
  (refine Kr.tS 0 [] (v := ?_) rfl (by kernel_rfl) (fun _ _ _ h => h) (by rfl) (H.sub [1, 5, 4, 2] rfl) (fun wx hSx => ?_) ?_; rotate_left; (focus (simp only [Kr.Cells] at hSx; go_simp; first | done | rfl)); (try simp only [Act.put, List.getElem_toArray, List.getElem_cons_zero, List.getElem_cons_succ, List.setIfInBounds_toArray, List.set_cons_zero, List.set_cons_succ]))
  (refine Kr.tS 1 [] (v := ?_) rfl (by kernel_rfl) (fun _ _ _ h => h) (by rfl) (H.sub [1, 5, 4, 2] rfl) (fun wx hSx => ?_) ?_; rotate_left; (focus (simp only [Kr.Cells] at hSx; go_simp; first | done | rfl)); (try simp only [Act.put, List.getElem_toArray, List.getElem_cons_zero, List.getElem_cons_succ, List.setIfInBounds_toArray, List.set_cons_zero, List.set_cons_succ]))
  (refine Kr.tS 2 [] (v := ?_) rfl (by kernel_rfl) (fun _ _ _ h => h) (by rfl) (H.sub [1, 5, 4, 2] rfl) (fun wx hSx => ?_) ?_; rotate_left; (focus (simp only [Kr.Cells] at hSx; go_simp; first | done | rfl)); (try simp only [Act.put, List.getElem_toArray, List.getElem_cons_zero, List.getElem_cons_succ, List.setIfInBounds_toArray, List.set_cons_zero, List.set_cons_succ]))
  (refine Kr.tS 3 [] (v := ?_) rfl (by kernel_rfl) (fun _ _ _ h => h) (by rfl) (H.sub [1, 5, 4, 2] rfl) (fun wx hSx => ?_) ?_; rotate_left; (focus (simp only [Kr.Cells] at hSx; go_simp; first | done | rfl)); (try simp only [Act.put, List.getElem_toArray, List.getElem_cons_zero, List.getElem_cons_succ, List.setIfInBounds_toArray, List.set_cons_zero, List.set_cons_succ]))
  refine Kr.readyL (rs := [4]) (by kernel_rfl) (by simp) ?_
  refine Kr.AllL.cons rfl (fun K hK => ?_) Kr.AllL.nil
  go_simp
  go_at_call 28
  refine (rmul3_v (H.nw 4 rfl) (H.nw 2 rfl) (H.nw 3 rfl) HX.out HY.out VM9.out).mono ?_
  rintro e y19 ⟨p19, n19, c19, rfl, hr, hg⟩
  replace H := H.grow hg
  replace H := H.num hr
  clear hr hg
  refine hK.out _ _ (fun _ => (H.sub [1, 5, 4, 2] rfl)) ?_; clear hK K
  (try simp only [Act.put, List.getElem_toArray, List.getElem_cons_zero, List.getElem_cons_succ, List.setIfInBounds_toArray, List.set_cons_zero, List.set_cons_succ])
  refine Kr.readyL (rs := [5]) (by kernel_rfl) (by simp) ?_
  refine Kr.AllL.cons rfl (fun K hK => ?_) Kr.AllL.nil
  go_simp
  go_at_call 23
  refine (same3_v (H.nw 1 rfl) (H.nw 0 rfl)).mono ?_
  rintro e y20 ⟨rfl, hg⟩
  rw [decide_eq_true rfl]
  replace H := H.grow hg
  clear hg
  refine hK.out _ _ (fun _ => (H.sub [1, 5, 4, 2] rfl)) ?_; clear hK K
  (try simp only [Act.put, List.getElem_toArray, List.getElem_cons_zero, List.getElem_cons_succ, List.setIfInBounds_toArray, List.set_cons_zero, List.set_cons_succ])
  (refine Kr.tP 6 (v := ?_) rfl (by kernel_rfl) (fun _ _ _ h => h) (by rfl) (fun _ => (H.sub [1, 5, 4, 2] rfl)) (fun wx => ?_) ?_; rotate_left; (focus (go_simp; first | done | rfl)); (try simp only [Act.put, List.getElem_toArray, List.getElem_cons_zero, List.getElem_cons_succ, List.setIfInBounds_toArray, List.set_cons_zero, List.set_cons_succ]))
  (refine Kr.tP 7 (v := ?_) rfl (by kernel_rfl) (fun _ _ _ h => h) (by rfl) (fun _ => (H.sub [1, 5, 4, 2] rfl)) (fun wx => ?_) ?_; rotate_left; (focus (go_simp; first | done | rfl)); (try simp only [Act.put, List.getElem_toArray, List.getElem_cons_zero, List.getElem_cons_succ, List.setIfInBounds_toArray, List.set_cons_zero, List.set_cons_succ]))
  (refine Kr.tP 8 (v := ?_) rfl (by kernel_rfl) (fun _ _ _ h => h) (by rfl) (fun _ => (H.sub [1, 5, 4, 2] rfl)) (fun wx => ?_) ?_; rotate_left; (focus (go_simp; first | done | rfl)); (try simp only [Act.put, List.getElem_toArray, List.getElem_cons_zero, List.getElem_cons_succ, List.setIfInBounds_toArray, List.set_cons_zero, List.set_cons_succ]))
  (refine Kr.tP 9 (v := ?_) rfl (by kernel_rfl) (fun _ _ _ h => h) (by rfl) (fun _ => (H.sub [1, 5, 4, 2] rfl)) (fun wx => ?_) ?_; rotate_left; (focus (go_simp; first | done | rfl)); (try simp only [Act.put, List.getElem_toArray, List.getElem_cons_zero, List.getElem_cons_succ, List.setIfInBounds_toArray, List.set_cons_zero, List.set_cons_succ]))
  (refine Kr.tP 10 (v := ?_) rfl (by kernel_rfl) (fun _ _ _ h => h) (by rfl) (fun _ => (H.sub [1, 5, 4, 2] rfl)) (fun wx => ?_) ?_; rotate_left; (focus (go_simp; first | done | rfl)); (try simp only [Act.put, List.getElem_toArray, List.getElem_cons_zero, List.getElem_cons_succ, List.setIfInBounds_toArray, List.set_cons_zero, List.set_cons_succ]))
  refine Kr.doneL (by kernel_rfl) ?_ _
  go_upto_region 11 with fail
  refine Kr.seqStart ?_
  have hk := H.c
  simp only [Kr.Cells] at hk
  iterate 2 (refine Kr.seqP (v := ?_) (by rfl) ?_ ?_; rotate_left; (focus (go_simp; first | done | rfl)); (try simp only [Act.put, List.getElem_toArray, List.getElem_cons_zero, List.getElem_cons_succ, List.setIfInBounds_toArray, List.set_cons_zero, List.set_cons_succ]))
  refine Kr.seqS (fun K hK => ?_)
  go_simp
  clear hk
  obtain ⟨y21, hy⟩ : ∃ y, y20.alloc (.cells #[.slice pa na ca] 24) = y := ⟨_, rfl⟩
  obtain ⟨by21, hb⟩ : ∃ b, y20.heap.size = b := ⟨_, rfl⟩
  rw [hy, hb]
  have HN : Nats y21 by21 0 [(pa, na, ca)] := nats_mk hy hb
  have hg : Gr y20 y21 := hy ▸ (Gr.refl _).alloc _
  replace H := H.grow hg
  clear hg hy hb
  refine hK.out _ _ ?_; clear hK K
  (try simp only [Act.put, List.getElem_toArray, List.getElem_cons_zero, List.getElem_cons_succ, List.setIfInBounds_toArray, List.set_cons_zero, List.set_cons_succ])
  refine Kr.seqS (fun K hK => ?_)
  go_simp
  go_at_call 22
  refine (HF1.out _ _ H.g HN).mono ?_
  rintro e y22 ⟨rfl, hg⟩
  replace H := H.grow hg
  clear hg
  clear HN
  refine hK.out _ _ ?_; clear hK K
  (try simp only [Act.put, List.getElem_toArray, List.getElem_cons_zero, List.getElem_cons_succ, List.setIfInBounds_toArray, List.set_cons_zero, List.set_cons_succ])
  (refine Kr.seqP (v := ?_) (by rfl) ?_ ?_; rotate_left; (focus (go_simp; first | done | rfl)); (try simp only [Act.put, List.getElem_toArray, List.getElem_cons_zero, List.getElem_cons_succ, List.setIfInBounds_toArray, List.set_cons_zero, List.set_cons_succ]))
  refine Kr.seqDone ?_
  go_upto_region 12 with fail
  refine Kr.seqStart ?_
  have hk := H.c
  simp only [Kr.Cells] at hk
  (refine Kr.seqP (v := ?_) (by rfl) ?_ ?_; rotate_left; (focus (go_simp; first | done | rfl)); (try simp only [Act.put, List.getElem_toArray, List.getElem_cons_zero, List.getElem_cons_succ, List.setIfInBounds_toArray, List.set_cons_zero, List.set_cons_succ]))
  refine Kr.seqS (fun K hK => ?_)
  go_simp
  go_at_call 29
  refine (valid3_any _ _ _ _ _ (H.ws 2 rfl)).mono ?_
  rintro e y23 ⟨rfl, hg⟩
  rw [HV.out]
  clear hk
  replace H := H.grow hg
  clear hg
  refine hK.out _ _ ?_; clear hK K
  (try simp only [Act.put, List.getElem_toArray, List.getElem_cons_zero, List.getElem_cons_succ, List.setIfInBounds_toArray, List.set_cons_zero, List.set_cons_succ])
  (refine Kr.seqP (v := ?_) (by rfl) ?_ ?_; rotate_left; (focus (go_simp; first | done | rfl)); (try simp only [Act.put, List.getElem_toArray, List.getElem_cons_zero, List.getElem_cons_succ, List.setIfInBounds_toArray, List.set_cons_zero, List.set_cons_succ]))
  refine Kr.seqDone ?_
  go_upto_region 13 with fail
  refine Kr.seqStart ?_
  (refine Kr.seqP (v := ?_) (by rfl) ?_ ?_; rotate_left; (focus (go_simp; first | done | rfl)); (try simp only [Act.put, List.getElem_toArray, List.getElem_cons_zero, List.getElem_cons_succ, List.setIfInBounds_toArray, List.set_cons_zero, List.set_cons_succ]))
  refine Kr.seqDone ?_
  go_upto_region 14 with fail
  refine Kr.seqStart ?_
  iterate 2 (refine Kr.seqP (v := ?_) (by rfl) ?_ ?_; rotate_left; (focus (go_simp; first | done | rfl)); (try simp only [Act.put, List.getElem_toArray, List.getElem_cons_zero, List.getElem_cons_succ, List.setIfInBounds_toArray, List.set_cons_zero, List.set_cons_succ]))
  refine Kr.seqDone ?_
  go_upto_region 15 with fail
  refine Kr.seqStart ?_
  (refine Kr.seqP (v := ?_) (by rfl) ?_ ?_; rotate_left; (focus (go_simp; first | done | rfl)); (try simp only [Act.put, List.getElem_toArray, List.getElem_cons_zero, List.getElem_cons_succ, List.setIfInBounds_toArray, List.set_cons_zero, List.set_cons_succ]))
  have hk := H.c
  simp only [Kr.Cells] at hk
  iterate 9 (refine Kr.seqP (v := ?_) (by rfl) ?_ ?_; rotate_left; (focus (go_simp; first | done | rfl)); (try simp only [Act.put, List.getElem_toArray, List.getElem_cons_zero, List.getElem_cons_succ, List.setIfInBounds_toArray, List.set_cons_zero, List.set_cons_succ]))
  clear hk
  refine Kr.seqDone ?_
  go_wp2
  go_ret
  exact ⟨rfl, H.g⟩
set_option linter.unusedSimpArgs false in
set_option maxRecDepth 100000 in
set_option maxHeartbeats 16000000 in
theorem prod_ok_ok {pa : Option Addr} {na ca : Nat} {pb : Option Addr} {nb cb : Nat} {pe : Option Addr} {ne ce : Nat} {pm : Option Addr} {nm cm : Nat} {x m : Nat} {y : Nat} {z : Nat} {w : World} (hs : ∀ x ∈ [(pa, na, ca), (pb, nb, cb), (pm, nm, cm)], x.2.1 ≤ 8) (hs2 : ∀ x ∈ [(pe, ne, ce)], x.2.1 ≤ 2) (ha : Nw w pa na ca (digs x)) (hm : Nw w pm nm cm (digs m)) (hx : x < m) (vm : m < pw 32) (hb : Nw w pb nb cb (digs y)) (hy : y < m) (hf : Fst w (.agg #[.slice pm nm cm]) [(pa, na, ca), (pb, nb, cb)] 0) (he : Nw w pe ne ce (digs z)) (ve : z < pw 64) (hf1 : Fst w (.agg #[.slice pm nm cm]) [(pa, na, ca)] 0) :
    Calls Try.prog 4 #[.agg #[.slice pa na ca], .agg #[.slice pb nb cb], .agg #[.slice pe ne ce], .agg #[.slice pm nm cm]] w fun e w' => e = .returned (.bool true) ∧ Gr w w' := by
  have HS := Lib.hid hs
  have HS2 := Lib.hid hs2
  have HF := Lib.hid hf
  have HF1 := Lib.hid hf1
  clear hs hs2 hf hf1
  have HX := Lib.hid hx
  have VM := Lib.hid vm
  clear hx vm
  have VM9 : Hid (m < pw 900) := Lib.hid (Nat.lt_of_lt_of_le VM.out (pw_mono (by decide)))
  have HY := Lib.hid hy
  clear hy
  have VE := Lib.hid ve
  clear ve
  have H := Sta.start w
  replace H := H.num ha
  replace H := H.num hm
  replace H := H.num hb
  replace H := H.num he
  go_enter Try.func4, Try.ntmps4
  go_upto_region 0 with fail
  refine Kr.seqStart ?_
  refine Kr.seqS (fun K hK => ?_)
  go_simp
  obtain ⟨y1, hy⟩ : ∃ y, w.alloc (.cells #[.slice pa na ca] 24) = y := ⟨_, rfl⟩
  obtain ⟨ba, hb⟩ : ∃ b, w.heap.size = b := ⟨_, rfl⟩
  rw [hy, hb]
  replace H := H.alloc hy hb rfl
  clear hy hb
  refine hK.out _ _ ?_; clear hK K
  (try simp only [Act.put, List.getElem_toArray, List.getElem_cons_zero, List.getElem_cons_succ, List.setIfInBounds_toArray, List.set_cons_zero, List.set_cons_succ])
  refine Kr.seqS (fun K hK => ?_)
  go_simp
  obtain ⟨y2, hy⟩ : ∃ y, y1.alloc (.cells #[.slice pb nb cb] 24) = y := ⟨_, rfl⟩
  obtain ⟨bb, hb⟩ : ∃ b, y1.heap.size = b := ⟨_, rfl⟩
  rw [hy, hb]
  replace H := H.alloc hy hb rfl
  clear hy hb
  refine hK.out _ _ ?_; clear hK K
  (try simp only [Act.put, List.getElem_toArray, List.getElem_cons_zero, List.getElem_cons_succ, List.setIfInBounds_toArray, List.set_cons_zero, List.set_cons_succ])
  refine Kr.seqS (fun K hK => ?_)
  go_simp
  obtain ⟨y3, hy⟩ : ∃ y, y2.alloc (.cells #[.slice pe ne ce] 24) = y := ⟨_, rfl⟩
  obtain ⟨be, hb⟩ : ∃ b, y2.heap.size = b := ⟨_, rfl⟩
  rw [hy, hb]
  replace H := H.alloc hy hb rfl
  clear hy hb
  refine hK.out _ _ ?_; clear hK K
  (try simp only [Act.put, List.getElem_toArray, List.getElem_cons_zero, List.getElem_cons_succ, List.setIfInBounds_toArray, List.set_cons_zero, List.set_cons_succ])
  refine Kr.seqS (fun K hK => ?_)
  go_simp
  obtain ⟨y4, hy⟩ : ∃ y, y3.alloc (.cells #[.slice pm nm cm] 24) = y := ⟨_, rfl⟩
  obtain ⟨bm, hb⟩ : ∃ b, y3.heap.size = b := ⟨_, rfl⟩
  rw [hy, hb]
  replace H := H.alloc hy hb rfl
  clear hy hb
  refine hK.out _ _ ?_; clear hK K
  (try simp only [Act.put, List.getElem_toArray, List.getElem_cons_zero, List.getElem_cons_succ, List.setIfInBounds_toArray, List.set_cons_zero, List.set_cons_succ])
  (refine Kr.seqP (v := ?_) (by rfl) ?_ ?_; rotate_left; (focus (go_simp; first | done | rfl)); (try simp only [Act.put, List.getElem_toArray, List.getElem_cons_zero, List.getElem_cons_succ, List.setIfInBounds_toArray, List.set_cons_zero, List.set_cons_succ]))
  refine Kr.seqDone ?_
  go_upto_region 1 with fail
  refine Kr.seqStart ?_
  refine Kr.seqS (fun K hK => ?_)
  go_simp
  go_at_call 18
  refine (awake3 _).mono ?_
  rintro e y5 ⟨rfl, hg⟩
  replace H := H.grow hg
  clear hg
  refine hK.out _ _ ?_; clear hK K
  (try simp only [Act.put, List.getElem_toArray, List.getElem_cons_zero, List.getElem_cons_succ, List.setIfInBounds_toArray, List.set_cons_zero, List.set_cons_succ])
  iterate 2 (refine Kr.seqP (v := ?_) (by rfl) ?_ ?_; rotate_left; (focus (go_simp; first | done | rfl)); (try simp only [Act.put, List.getElem_toArray, List.getElem_cons_zero, List.getElem_cons_succ, List.setIfInBounds_toArray, List.set_cons_zero, List.set_cons_succ]))
  have hk := H.c
  simp only [Kr.Cells] at hk
  iterate 3 (refine Kr.seqP (v := ?_) (by rfl) ?_ ?_; rotate_left; (focus (go_simp; first | done | rfl)); (try simp only [Act.put, List.getElem_toArray, List.getElem_cons_zero, List.getElem_cons_succ, List.setIfInBounds_toArray, List.set_cons_zero, List.set_cons_succ]))
  refine Kr.seqS (fun K hK => ?_)
  go_simp
  clear hk
  obtain ⟨y6, hy⟩ : ∃ y, y5.alloc (.cells #[.slice pa na ca, .slice pb nb cb, .slice pm nm cm] 24) = y := ⟨_, rfl⟩
  obtain ⟨by6, hb⟩ : ∃ b, y5.heap.size = b := ⟨_, rfl⟩
  rw [hy, hb]
  have HN : Nats y6 by6 0 [(pa, na, ca), (pb, nb, cb), (pm, nm, cm)] := nats_mk hy hb
  have hg : Gr y5 y6 := hy ▸ (Gr.refl _).alloc _
  replace H := H.grow hg
  clear hg hy hb
  refine hK.out _ _ ?_; clear hK K
  (try simp only [Act.put, List.getElem_toArray, List.getElem_cons_zero, List.getElem_cons_succ, List.setIfInBounds_toArray, List.set_cons_zero, List.set_cons_succ])
  refine Kr.seqS (fun K hK => ?_)
  go_simp
  go_at_call 19
  go_at_call 19
  refine (few_ok HN (by simp) HS.out).mono ?_
  rintro e y7 ⟨rfl, hg⟩
  replace H := H.grow hg
  clear hg
  clear HN
  refine hK.out _ _ ?_; clear hK K
  (try simp only [Act.put, List.getElem_toArray, List.getElem_cons_zero, List.getElem_cons_succ, List.setIfInBounds_toArray, List.set_cons_zero, List.set_cons_succ])
  iterate 3 (refine Kr.seqP (v := ?_) (by rfl) ?_ ?_; rotate_left; (focus (go_simp; first | done | rfl)); (try simp only [Act.put, List.getElem_toArray, List.getElem_cons_zero, List.getElem_cons_succ, List.setIfInBounds_toArray, List.set_cons_zero, List.set_cons_succ]))
  have hk := H.c
  simp only [Kr.Cells] at hk
  (refine Kr.seqP (v := ?_) (by rfl) ?_ ?_; rotate_left; (focus (go_simp; first | done | rfl)); (try simp only [Act.put, List.getElem_toArray, List.getElem_cons_zero, List.getElem_cons_succ, List.setIfInBounds_toArray, List.set_cons_zero, List.set_cons_succ]))
  refine Kr.seqS (fun K hK => ?_)
  go_simp
  clear hk
  obtain ⟨y8, hy⟩ : ∃ y, y7.alloc (.cells #[.slice pe ne ce] 24) = y := ⟨_, rfl⟩
  obtain ⟨by8, hb⟩ : ∃ b, y7.heap.size = b := ⟨_, rfl⟩
  rw [hy, hb]
  have HN : Nats y8 by8 0 [(pe, ne, ce)] := nats_mk hy hb
  have hg : Gr y7 y8 := hy ▸ (Gr.refl _).alloc _
  replace H := H.grow hg
  clear hg hy hb
  refine hK.out _ _ ?_; clear hK K
  (try simp only [Act.put, List.getElem_toArray, List.getElem_cons_zero, List.getElem_cons_succ, List.setIfInBounds_toArray, List.set_cons_zero, List.set_cons_succ])
  refine Kr.seqS (fun K hK => ?_)
  go_simp
  go_at_call 19
  go_at_call 19
  refine (few_ok HN (by simp) HS2.out).mono ?_
  rintro e y9 ⟨rfl, hg⟩
  replace H := H.grow hg
  clear hg
  clear HN
  refine hK.out _ _ ?_; clear hK K
  (try simp only [Act.put, List.getElem_toArray, List.getElem_cons_zero, List.getElem_cons_succ, List.setIfInBounds_toArray, List.set_cons_zero, List.set_cons_succ])
  iterate 2 (refine Kr.seqP (v := ?_) (by rfl) ?_ ?_; rotate_left; (focus (go_simp; first | done | rfl)); (try simp only [Act.put, List.getElem_toArray, List.getElem_cons_zero, List.getElem_cons_succ, List.setIfInBounds_toArray, List.set_cons_zero, List.set_cons_succ]))
  refine Kr.seqDone ?_
  go_upto_region 3 with fail
  refine Kr.seqStart ?_
  have hk := H.c
  simp only [Kr.Cells] at hk
  iterate 3 (refine Kr.seqP (v := ?_) (by rfl) ?_ ?_; rotate_left; (focus (go_simp; first | done | rfl)); (try simp only [Act.put, List.getElem_toArray, List.getElem_cons_zero, List.getElem_cons_succ, List.setIfInBounds_toArray, List.set_cons_zero, List.set_cons_succ]))
  refine Kr.seqS (fun K hK => ?_)
  go_simp
  go_at_call 26
  refine (mMul_v (H.nw 3 rfl) (H.nw 1 rfl) (H.nw 2 rfl) HX.out HY.out VM.out).mono ?_
  rintro e y10 ⟨p10, n10, c10, rfl, hr, hg⟩
  clear hk
  replace H := H.grow hg
  replace H := H.num hr.toNw
  clear hr hg
  refine hK.out _ _ ?_; clear hK K
  (try simp only [Act.put, List.getElem_toArray, List.getElem_cons_zero, List.getElem_cons_succ, List.setIfInBounds_toArray, List.set_cons_zero, List.set_cons_succ])
  iterate 3 (refine Kr.seqP (v := ?_) (by rfl) ?_ ?_; rotate_left; (focus (go_simp; first | done | rfl)); (try simp only [Act.put, List.getElem_toArray, List.getElem_cons_zero, List.getElem_cons_succ, List.setIfInBounds_toArray, List.set_cons_zero, List.set_cons_succ]))
  refine Kr.seqS (fun K hK => ?_)
  go_simp
  obtain ⟨y11, hy⟩ : ∃ y, y10.alloc (.cells #[.slice none 0 0] 24) = y := ⟨_, rfl⟩
  obtain ⟨bx, hb⟩ : ∃ b, y10.heap.size = b := ⟨_, rfl⟩
  rw [hy, hb]
  replace H := H.alloc hy hb rfl
  clear hy hb
  refine hK.out _ _ ?_; clear hK K
  (try simp only [Act.put, List.getElem_toArray, List.getElem_cons_zero, List.getElem_cons_succ, List.setIfInBounds_toArray, List.set_cons_zero, List.set_cons_succ])
  have hk := H.c
  simp only [Kr.Cells] at hk
  refine Kr.seqS (fun K hK => ?_)
  go_simp
  clear hk
  obtain ⟨y12, hy⟩ : ∃ y, y11.setCell ⟨bx, 0, none⟩ (.slice p10 n10 c10) = y := ⟨_, rfl⟩
  rw [hy]
  replace H := H.store 0 hy rfl rfl
  dsimp only [List.set] at H
  clear hy
  refine hK.out _ _ ?_; clear hK K
  (try simp only [Act.put, List.getElem_toArray, List.getElem_cons_zero, List.getElem_cons_succ, List.setIfInBounds_toArray, List.set_cons_zero, List.set_cons_succ])
  (refine Kr.seqP (v := ?_) (by rfl) ?_ ?_; rotate_left; (focus (go_simp; first | done | rfl)); (try simp only [Act.put, List.getElem_toArray, List.getElem_cons_zero, List.getElem_cons_succ, List.setIfInBounds_toArray, List.set_cons_zero, List.set_cons_succ]))
  refine Kr.seqDone ?_
  go_upto_region 4 with fail
  refine Kr.seqStart ?_
  have hk := H.c
  simp only [Kr.Cells] at hk
  iterate 3 (refine Kr.seqP (v := ?_) (by rfl) ?_ ?_; rotate_left; (focus (go_simp; first | done | rfl)); (try simp only [Act.put, List.getElem_toArray, List.getElem_cons_zero, List.getElem_cons_succ, List.setIfInBounds_toArray, List.set_cons_zero, List.set_cons_succ]))
  refine Kr.seqS (fun K hK => ?_)
  go_simp
  go_at_call 27
  refine (mPow_ok (H.nw 4 rfl) (H.nw 1 rfl) (H.nw 3 rfl) HX.out VE.out VM.out).mono ?_
  rintro e y13 ⟨p13, n13, c13, rfl, hr, hg⟩
  clear hk
  replace H := H.grow hg
  replace H := H.num hr
  clear hr hg
  refine hK.out _ _ ?_; clear hK K
  (try simp only [Act.put, List.getElem_toArray, List.getElem_cons_zero, List.getElem_cons_succ, List.setIfInBounds_toArray, List.set_cons_zero, List.set_cons_succ])
  iterate 3 (refine Kr.seqP (v := ?_) (by rfl) ?_ ?_; rotate_left; (focus (go_simp; first | done | rfl)); (try simp only [Act.put, List.getElem_toArray, List.getElem_cons_zero, List.getElem_cons_succ, List.setIfInBounds_toArray, List.set_cons_zero, List.set_cons_succ]))
  refine Kr.seqS (fun K hK => ?_)
  go_simp
  obtain ⟨y14, hy⟩ : ∃ y, y13.alloc (.cells #[.slice none 0 0] 24) = y := ⟨_, rfl⟩
  obtain ⟨b_y, hb⟩ : ∃ b, y13.heap.size = b := ⟨_, rfl⟩
  rw [hy, hb]
  replace H := H.alloc hy hb rfl
  clear hy hb
  refine hK.out _ _ ?_; clear hK K
  (try simp only [Act.put, List.getElem_toArray, List.getElem_cons_zero, List.getElem_cons_succ, List.setIfInBounds_toArray, List.set_cons_zero, List.set_cons_succ])
  have hk := H.c
  simp only [Kr.Cells] at hk
  refine Kr.seqS (fun K hK => ?_)
  go_simp
  clear hk
  obtain ⟨y15, hy⟩ : ∃ y, y14.setCell ⟨b_y, 0, none⟩ (.slice p13 n13 c13) = y := ⟨_, rfl⟩
  rw [hy]
  replace H := H.store 0 hy rfl rfl
  dsimp only [List.set] at H
  clear hy
  refine hK.out _ _ ?_; clear hK K
  (try simp only [Act.put, List.getElem_toArray, List.getElem_cons_zero, List.getElem_cons_succ, List.setIfInBounds_toArray, List.set_cons_zero, List.set_cons_succ])
  (refine Kr.seqP (v := ?_) (by rfl) ?_ ?_; rotate_left; (focus (go_simp; first | done | rfl)); (try simp only [Act.put, List.getElem_toArray, List.getElem_cons_zero, List.getElem_cons_succ, List.setIfInBounds_toArray, List.set_cons_zero, List.set_cons_succ]))
  refine Kr.seqDone ?_
  go_upto_region 5 with fail
  refine Kr.seqStart ?_
  have hk := H.c
  simp only [Kr.Cells] at hk
  iterate 3 (refine Kr.seqP (v := ?_) (by rfl) ?_ ?_; rotate_left; (focus (go_simp; first | done | rfl)); (try simp only [Act.put, List.getElem_toArray, List.getElem_cons_zero, List.getElem_cons_succ, List.setIfInBounds_toArray, List.set_cons_zero, List.set_cons_succ]))
  refine Kr.seqS (fun K hK => ?_)
  go_simp
  clear hk
  obtain ⟨y16, hy⟩ : ∃ y, y15.alloc (.cells #[.slice pa na ca, .slice pb nb cb] 24) = y := ⟨_, rfl⟩
  obtain ⟨by16, hb⟩ : ∃ b, y15.heap.size = b := ⟨_, rfl⟩
  rw [hy, hb]
  have HN : Nats y16 by16 0 [(pa, na, ca), (pb, nb, cb)] := nats_mk hy hb
  have hg : Gr y15 y16 := hy ▸ (Gr.refl _).alloc _
  replace H := H.grow hg
  clear hg hy hb
  refine hK.out _ _ ?_; clear hK K
  (try simp only [Act.put, List.getElem_toArray, List.getElem_cons_zero, List.getElem_cons_succ, List.setIfInBounds_toArray, List.set_cons_zero, List.set_cons_succ])
  refine Kr.seqS (fun K hK => ?_)
  go_simp
  go_at_call 22
  refine (HF.out _ _ H.g HN).mono ?_
  rintro e y17 ⟨rfl, hg⟩
  replace H := H.grow hg
  clear hg
  clear HN
  refine hK.out _ _ ?_; clear hK K
  (try simp only [Act.put, List.getElem_toArray, List.getElem_cons_zero, List.getElem_cons_succ, List.setIfInBounds_toArray, List.set_cons_zero, List.set_cons_succ])
  (refine Kr.seqP (v := ?_) (by rfl) ?_ ?_; rotate_left; (focus (go_simp; first | done | rfl)); (try simp only [Act.put, List.getElem_toArray, List.getElem_cons_zero, List.getElem_cons_succ, List.setIfInBounds_toArray, List.set_cons_zero, List.set_cons_succ]))
  refine Kr.seqDone ?_
  go_upto_region 6 with fail
  refine Kr.seqStart ?_
  iterate 2 (refine Kr.seqP (v := ?_) (by rfl) ?_ ?_; rotate_left; (focus (go_simp; first | done | rfl)); (try simp only [Act.put, List.getElem_toArray, List.getElem_cons_zero, List.getElem_cons_succ, List.setIfInBounds_toArray, List.set_cons_zero, List.set_cons_succ]))
  refine Kr.seqDone ?_
  go_upto_region 9 with fail
  refine Kr.startL (fun W' => Kr.Cells W' [(bx, 0, .slice p10 n10 c10), (ba, 0, .slice pa na ca), (bb, 0, .slice pb nb cb), (bm, 0, .slice pm nm cm)]) [] (by kernel_rfl) ?_
  have gd : Gr y17 y17.drew := (Gr.refl _).drew
  generalize y17.drew = d18 at gd ⊢
  replace H := H.grow gd
  clear gd
  (refine Kr.tS 0 [] (v := ?_) rfl (by kernel_rfl) (fun _ _ _ h => h) (by rfl) (H.sub [1, 5, 4, 2] rfl) (fun wx hSx => ?_) ?_; rotate_left; (focus (simp only [Kr.Cells] at hSx; go_simp; first | done | rfl)); (try simp only [Act.put, List.getElem_toArray, List.getElem_cons_zero, List.getElem_cons_succ, List.setIfInBounds_toArray, List.set_cons_zero, List.set_cons_succ]))
  (refine Kr.tS 1 [] (v := ?_) rfl (by kernel_rfl) (fun _ _ _ h => h) (by rfl) (H.sub [1, 5, 4, 2] rfl) (fun wx hSx => ?_) ?_; rotate_left; (focus (simp only [Kr.Cells] at hSx; go_simp; first | done | rfl)); (try simp only [Act.put, List.getElem_toArray, List.getElem_cons_zero, List.getElem_cons_succ, List.setIfInBounds_toArray, List.set_cons_zero, List.set_cons_succ]))
  (refine Kr.tS 2 [] (v := ?_) rfl (by kernel_rfl) (fun _ _ _ h => h) (by rfl) (H.sub [1, 5, 4, 2] rfl) (fun wx hSx => ?_) ?_; rotate_left; (focus (simp only [Kr.Cells] at hSx; go_simp; first | done | rfl)); (try simp only [Act.put, List.getElem_toArray, List.getElem_cons_zero, List.getElem_cons_succ, List.setIfInBounds_toArray, List.set_cons_zero, List.set_cons_succ]))
  (refine Kr.tS 3 [] (v := ?_) rfl (by kernel_rfl) (fun _ _ _ h => h) (by rfl) (H.sub [1, 5, 4, 2] rfl) (fun wx hSx => ?_) ?_; rotate_left; (focus (simp only [Kr.Cells] at hSx; go_simp; first | done | rfl)); (try simp only [Act.put, List.getElem_toArray, List.getElem_cons_zero, List.getElem_cons_succ, List.setIfInBounds_toArray, List.set_cons_zero, List.set_cons_succ]))
  refine Kr.readyL (rs := [4]) (by kernel_rfl) (by simp) ?_
  refine Kr.AllL.cons rfl (fun K hK => ?_) Kr.AllL.nil
  go_simp
  go_at_call 28
  refine (rmul3_v (H.nw 5 rfl) (H.nw 3 rfl) (H.nw 4 rfl) HX.out HY.out VM9.out).mono ?_
  rintro e y19 ⟨p19, n19, c19, rfl, hr, hg⟩
  replace H := H.grow hg
  replace H := H.num hr
  clear hr hg
  refine hK.out _ _ (fun _ => (H.sub [1, 5, 4, 2] rfl)) ?_; clear hK K
  (try simp only [Act.put, List.getElem_toArray, List.getElem_cons_zero, List.getElem_cons_succ, List.setIfInBounds_toArray, List.set_cons_zero, List.set_cons_succ])
  refine Kr.readyL (rs := [5]) (by kernel_rfl) (by simp) ?_
  refine Kr.AllL.cons rfl (fun K hK => ?_) Kr.AllL.nil
  go_simp
  go_at_call 23
  refine (same3_v (H.nw 2 rfl) (H.nw 0 rfl)).mono ?_
  rintro e y20 ⟨rfl, hg⟩
  rw [decide_eq_true rfl]
  replace H := H.grow hg
  clear hg
  refine hK.out _ _ (fun _ => (H.sub [1, 5, 4, 2] rfl)) ?_; clear hK K
  (try simp only [Act.put, List.getElem_toArray, List.getElem_cons_zero, List.getElem_cons_succ, List.setIfInBounds_toArray, List.set_cons_zero, List.set_cons_succ])
  (refine Kr.tP 6 (v := ?_) rfl (by kernel_rfl) (fun _ _ _ h => h) (by rfl) (fun _ => (H.sub [1, 5, 4, 2] rfl)) (fun wx => ?_) ?_; rotate_left; (focus (go_simp; first | done | rfl)); (try simp only [Act.put, List.getElem_toArray, List.getElem_cons_zero, List.getElem_cons_succ, List.setIfInBounds_toArray, List.set_cons_zero, List.set_cons_succ]))
  (refine Kr.tP 7 (v := ?_) rfl (by kernel_rfl) (fun _ _ _ h => h) (by rfl) (fun _ => (H.sub [1, 5, 4, 2] rfl)) (fun wx => ?_) ?_; rotate_left; (focus (go_simp; first | done | rfl)); (try simp only [Act.put, List.getElem_toArray, List.getElem_cons_zero, List.getElem_cons_succ, List.setIfInBounds_toArray, List.set_cons_zero, List.set_cons_succ]))
  (refine Kr.tP 8 (v := ?_) rfl (by kernel_rfl) (fun _ _ _ h => h) (by rfl) (fun _ => (H.sub [1, 5, 4, 2] rfl)) (fun wx => ?_) ?_; rotate_left; (focus (go_simp; first | done | rfl)); (try simp only [Act.put, List.getElem_toArray, List.getElem_cons_zero, List.getElem_cons_succ, List.setIfInBounds_toArray, List.set_cons_zero, List.set_cons_succ]))
  (refine Kr.tP 9 (v := ?_) rfl (by kernel_rfl) (fun _ _ _ h => h) (by rfl) (fun _ => (H.sub [1, 5, 4, 2] rfl)) (fun wx => ?_) ?_; rotate_left; (focus (go_simp; first | done | rfl)); (try simp only [Act.put, List.getElem_toArray, List.getElem_cons_zero, List.getElem_cons_succ, List.setIfInBounds_toArray, List.set_cons_zero, List.set_cons_succ]))
  (refine Kr.tP 10 (v := ?_) rfl (by kernel_rfl) (fun _ _ _ h => h) (by rfl) (fun _ => (H.sub [1, 5, 4, 2] rfl)) (fun wx => ?_) ?_; rotate_left; (focus (go_simp; first | done | rfl)); (try simp only [Act.put, List.getElem_toArray, List.getElem_cons_zero, List.getElem_cons_succ, List.setIfInBounds_toArray, List.set_cons_zero, List.set_cons_succ]))
  refine Kr.doneL (by kernel_rfl) ?_ _
  go_upto_region 11 with fail
  refine Kr.seqStart ?_
  have hk := H.c
  simp only [Kr.Cells] at hk
  iterate 2 (refine Kr.seqP (v := ?_) (by rfl) ?_ ?_; rotate_left; (focus (go_simp; first | done | rfl)); (try simp only [Act.put, List.getElem_toArray, List.getElem_cons_zero, List.getElem_cons_succ, List.setIfInBounds_toArray, List.set_cons_zero, List.set_cons_succ]))
  refine Kr.seqS (fun K hK => ?_)
  go_simp
  clear hk
  obtain ⟨y21, hy⟩ : ∃ y, y20.alloc (.cells #[.slice pa na ca] 24) = y := ⟨_, rfl⟩
  obtain ⟨by21, hb⟩ : ∃ b, y20.heap.size = b := ⟨_, rfl⟩
  rw [hy, hb]
  have HN : Nats y21 by21 0 [(pa, na, ca)] := nats_mk hy hb
  have hg : Gr y20 y21 := hy ▸ (Gr.refl _).alloc _
  replace H := H.grow hg
  clear hg hy hb
  refine hK.out _ _ ?_; clear hK K
  (try simp only [Act.put, List.getElem_toArray, List.getElem_cons_zero, List.getElem_cons_succ, List.setIfInBounds_toArray, List.set_cons_zero, List.set_cons_succ])
  refine Kr.seqS (fun K hK => ?_)
  go_simp
  go_at_call 22
  refine (HF1.out _ _ H.g HN).mono ?_
  rintro e y22 ⟨rfl, hg⟩
  replace H := H.grow hg
  clear hg
  clear HN
  refine hK.out _ _ ?_; clear hK K
  (try simp only [Act.put, List.getElem_toArray, List.getElem_cons_zero, List.getElem_cons_succ, List.setIfInBounds_toArray, List.set_cons_zero, List.set_cons_succ])
  (refine Kr.seqP (v := ?_) (by rfl) ?_ ?_; rotate_left; (focus (go_simp; first | done | rfl)); (try simp only [Act.put, List.getElem_toArray, List.getElem_cons_zero, List.getElem_cons_succ, List.setIfInBounds_toArray, List.set_cons_zero, List.set_cons_succ]))
  refine Kr.seqDone ?_
  go_upto_region 12 with fail
  refine Kr.seqStart ?_
  have hk := H.c
  simp only [Kr.Cells] at hk
  (refine Kr.seqP (v := ?_) (by rfl) ?_ ?_; rotate_left; (focus (go_simp; first | done | rfl)); (try simp only [Act.put, List.getElem_toArray, List.getElem_cons_zero, List.getElem_cons_succ, List.setIfInBounds_toArray, List.set_cons_zero, List.set_cons_succ]))
  refine Kr.seqS (fun K hK => ?_)
  go_simp
  go_at_call 29
  refine (valid3_any _ _ _ _ _ (H.nw 3 rfl)).mono ?_
  rintro e y23 ⟨rfl, hg⟩
  rw [dv VE.out]
  clear hk
  replace H := H.grow hg
  clear hg
  refine hK.out _ _ ?_; clear hK K
  (try simp only [Act.put, List.getElem_toArray, List.getElem_cons_zero, List.getElem_cons_succ, List.setIfInBounds_toArray, List.set_cons_zero, List.set_cons_succ])
  (refine Kr.seqP (v := ?_) (by rfl) ?_ ?_; rotate_left; (focus (go_simp; first | done | rfl)); (try simp only [Act.put, List.getElem_toArray, List.getElem_cons_zero, List.getElem_cons_succ, List.setIfInBounds_toArray, List.set_cons_zero, List.set_cons_succ]))
  refine Kr.seqDone ?_
  go_upto_region 14 with fail
  refine Kr.seqStart ?_
  iterate 2 (refine Kr.seqP (v := ?_) (by rfl) ?_ ?_; rotate_left; (focus (go_simp; first | done | rfl)); (try simp only [Act.put, List.getElem_toArray, List.getElem_cons_zero, List.getElem_cons_succ, List.setIfInBounds_toArray, List.set_cons_zero, List.set_cons_succ]))
  refine Kr.seqDone ?_
  go_upto_region 16 with fail
  refine Kr.startL (fun W' => Kr.Cells W' [(b_y, 0, .slice p13 n13 c13), (ba, 0, .slice pa na ca), (be, 0, .slice pe ne ce), (bm, 0, .slice pm nm cm)]) [] (by kernel_rfl) ?_
  have gd : Gr y23 y23.drew := (Gr.refl _).drew
  generalize y23.drew = d24 at gd ⊢
  replace H := H.grow gd
  clear gd
  (refine Kr.tS 0 [] (v := ?_) rfl (by kernel_rfl) (fun _ _ _ h => h) (by rfl) (H.sub [0, 5, 3, 2] rfl) (fun wx hSx => ?_) ?_; rotate_left; (focus (simp only [Kr.Cells] at hSx; go_simp; first | done | rfl)); (try simp only [Act.put, List.getElem_toArray, List.getElem_cons_zero, List.getElem_cons_succ, List.setIfInBounds_toArray, List.set_cons_zero, List.set_cons_succ]))
  (refine Kr.tS 1 [] (v := ?_) rfl (by kernel_rfl) (fun _ _ _ h => h) (by rfl) (H.sub [0, 5, 3, 2] rfl) (fun wx hSx => ?_) ?_; rotate_left; (focus (simp only [Kr.Cells] at hSx; go_simp; first | done | rfl)); (try simp only [Act.put, List.getElem_toArray, List.getElem_cons_zero, List.getElem_cons_succ, List.setIfInBounds_toArray, List.set_cons_zero, List.set_cons_succ]))
  (refine Kr.tS 2 [] (v := ?_) rfl (by kernel_rfl) (fun _ _ _ h => h) (by rfl) (H.sub [0, 5, 3, 2] rfl) (fun wx hSx => ?_) ?_; rotate_left; (focus (simp only [Kr.Cells] at hSx; go_simp; first | done | rfl)); (try simp only [Act.put, List.getElem_toArray, List.getElem_cons_zero, List.getElem_cons_succ, List.setIfInBounds_toArray, List.set_cons_zero, List.set_cons_succ]))
  (refine Kr.tS 3 [] (v := ?_) rfl (by kernel_rfl) (fun _ _ _ h => h) (by rfl) (H.sub [0, 5, 3, 2] rfl) (fun wx hSx => ?_) ?_; rotate_left; (focus (simp only [Kr.Cells] at hSx; go_simp; first | done | rfl)); (try simp only [Act.put, List.getElem_toArray, List.getElem_cons_zero, List.getElem_cons_succ, List.setIfInBounds_toArray, List.set_cons_zero, List.set_cons_succ]))
  refine Kr.readyL (rs := [4]) (by kernel_rfl) (by simp) ?_
  refine Kr.AllL.cons rfl (fun K hK => ?_) Kr.AllL.nil
  go_simp
  go_at_call 30
  refine (rpow3_v (H.nw 6 rfl) (H.nw 3 rfl) (H.nw 5 rfl) HX.out (Nat.lt_of_lt_of_le VE.out (pw_mono (by decide))) VM9.out).mono ?_
  rintro e y25 ⟨p25, n25, c25, rfl, hr, hg⟩
  replace H := H.grow hg
  replace H := H.num hr
  clear hr hg
  refine hK.out _ _ (fun _ => (H.sub [0, 5, 3, 2] rfl)) ?_; clear hK K
  (try simp only [Act.put, List.getElem_toArray, List.getElem_cons_zero, List.getElem_cons_succ, List.setIfInBounds_toArray, List.set_cons_zero, List.set_cons_succ])
  refine Kr.readyL (rs := [5]) (by kernel_rfl) (by simp) ?_
  refine Kr.AllL.cons rfl (fun K hK => ?_) Kr.AllL.nil
  go_simp
  go_at_call 23
  refine (same3_v (H.nw 2 rfl) (H.nw 0 rfl)).mono ?_
  rintro e y26 ⟨rfl, hg⟩
  rw [decide_eq_true rfl]
  replace H := H.grow hg
  clear hg
  refine hK.out _ _ (fun _ => (H.sub [0, 5, 3, 2] rfl)) ?_; clear hK K
  (try simp only [Act.put, List.getElem_toArray, List.getElem_cons_zero, List.getElem_cons_succ, List.setIfInBounds_toArray, List.set_cons_zero, List.set_cons_succ])
  (refine Kr.tP 6 (v := ?_) rfl (by kernel_rfl) (fun _ _ _ h => h) (by rfl) (fun _ => (H.sub [0, 5, 3, 2] rfl)) (fun wx => ?_) ?_; rotate_left; (focus (go_simp; first | done | rfl)); (try simp only [Act.put, List.getElem_toArray, List.getElem_cons_zero, List.getElem_cons_succ, List.setIfInBounds_toArray, List.set_cons_zero, List.set_cons_succ]))
  (refine Kr.tP 7 (v := ?_) rfl (by kernel_rfl) (fun _ _ _ h => h) (by rfl) (fun _ => (H.sub [0, 5, 3, 2] rfl)) (fun wx => ?_) ?_; rotate_left; (focus (go_simp; first | done | rfl)); (try simp only [Act.put, List.getElem_toArray, List.getElem_cons_zero, List.getElem_cons_succ, List.setIfInBounds_toArray, List.set_cons_zero, List.set_cons_succ]))
  (refine Kr.tP 8 (v := ?_) rfl (by kernel_rfl) (fun _ _ _ h => h) (by rfl) (fun _ => (H.sub [0, 5, 3, 2] rfl)) (fun wx => ?_) ?_; rotate_left; (focus (go_simp; first | done | rfl)); (try simp only [Act.put, List.getElem_toArray, List.getElem_cons_zero, List.getElem_cons_succ, List.setIfInBounds_toArray, List.set_cons_zero, List.set_cons_succ]))
  (refine Kr.tP 9 (v := ?_) rfl (by kernel_rfl) (fun _ _ _ h => h) (by rfl) (fun _ => (H.sub [0, 5, 3, 2] rfl)) (fun wx => ?_) ?_; rotate_left; (focus (go_simp; first | done | rfl)); (try simp only [Act.put, List.getElem_toArray, List.getElem_cons_zero, List.getElem_cons_succ, List.setIfInBounds_toArray, List.set_cons_zero, List.set_cons_succ]))
  (refine Kr.tP 10 (v := ?_) rfl (by kernel_rfl) (fun _ _ _ h => h) (by rfl) (fun _ => (H.sub [0, 5, 3, 2] rfl)) (fun wx => ?_) ?_; rotate_left; (focus (go_simp; first | done | rfl)); (try simp only [Act.put, List.getElem_toArray, List.getElem_cons_zero, List.getElem_cons_succ, List.setIfInBounds_toArray, List.set_cons_zero, List.set_cons_succ]))
  refine Kr.doneL (by kernel_rfl) ?_ _
  go_wp2
  go_ret
  exact ⟨rfl, H.g⟩
theorem NatmodProducts (w : World) (pa : Option Addr) (na ca : Nat) (pb : Option Addr) (nb cb : Nat) (pe : Option Addr) (ne ce : Nat) (pm : Option Addr) (nm cm : Nat) (h1 : Nin w pa na ca) (h2 : Nin w pb nb cb) (h3 : Nin w pe ne ce) (h4 : Nin w pm nm cm) :
    Calls Try.prog 4 #[.agg #[.slice pa na ca], .agg #[.slice pb nb cb], .agg #[.slice pe ne ce], .agg #[.slice pm nm cm]] w fun e w' => e = .returned (.bool true) ∧ Gr w w' := by
  by_cases g : ∃ x ∈ [(pa, na, ca), (pb, nb, cb), (pm, nm, cm)], 8 < x.2.1
  · exact prod_g1 g
  have hs : ∀ x ∈ [(pa, na, ca), (pb, nb, cb), (pm, nm, cm)], x.2.1 ≤ 8 := fun x hx => Nat.le_of_not_lt fun h => g ⟨x, hx, h⟩
  by_cases g2 : ∃ x ∈ [(pe, ne, ce)], 2 < x.2.1
  · exact prod_g2 hs g2
  have hs2 : ∀ x ∈ [(pe, ne, ce)], x.2.1 ≤ 2 := fun x hx => Nat.le_of_not_lt fun h => g2 ⟨x, hx, h⟩
  have ea : na ≤ 8 := hs (pa, na, ca) (by simp)
  have eb : nb ≤ 8 := hs (pb, nb, cb) (by simp)
  have em : nm ≤ 8 := hs (pm, nm, cm) (by simp)
  have ee : ne ≤ 2 := hs2 (pe, ne, ce) (by simp)
  obtain ⟨la, ha⟩ := h1.nw (by omega)
  obtain ⟨lb, hb⟩ := h2.nw (by omega)
  obtain ⟨le, he⟩ := h3.nw (by omega)
  obtain ⟨lm, hm⟩ := h4.nw (by omega)
  obtain ⟨k, hf, hc, hk⟩ := code2 ha hb hm
  have hk' : (k = 1 ∨ k = 2) ∨ k = 0 ∧ ∃ x y m, la = digs x ∧ lb = digs y ∧ lm = digs m ∧ x < m ∧ y < m ∧ m < pw 32 := by
    rcases hk with h | h | h
    · exact .inl (.inl h)
    · exact .inl (.inr h)
    · exact .inr h
  clear hk
  have hpi : ∀ c : Nat, (c = 0 ∨ c = 1 ∨ c = 2) → decide (valid le) = false → Chk w (.agg #[.slice pa na ca]) (.agg #[.slice pm nm cm]) (.agg #[.slice none 0 0]) (.agg #[.slice pm nm cm]) (c : Int) → ∀ W, Gr w W → Calls Try.prog 27 #[.agg #[.slice pa na ca], .agg #[.slice pe ne ce], .agg #[.slice pm nm cm]] W (HasE 0 1 W) := fun c hc hv hC W g => by
    have hc2 := fun W' (g' : Gr W W') => hC W' (g.trans g')
    rcases hc with rfl | rfl | rfl
    · exact mPow_exp0 (he.grow g) hv hc2
    · exact mPow_exp1 (he.grow g) hv hc2
    · exact mPow_exp2 (he.grow g) hv hc2
  rcases hk' with hk | ⟨rfl, x, y, m, rfl, rfl, rfl, hx, hy, vm⟩
  · obtain ⟨c, hf1, hc1, hk1⟩ := code1 ha hm
    cases hv : decide (valid le) with
    | false => exact prod_err_inv hs hs2 hk hf hc he hv hf1 (hpi c (by rcases hk1 with h | h | ⟨h, _⟩ <;> simp [h]) hv hc1)
    | true =>
      rcases hk1 with rfl | rfl | ⟨rfl, x, m, rfl, rfl, hx, vm⟩
      · exact prod_err_err hs hs2 hk hf hc he hv (.inl rfl) hf1 (fun W g => mPow_err1 (he.grow g) hv (fun W' g' => hc1 W' (g.trans g')))
      · exact prod_err_err hs hs2 hk hf hc he hv (.inr rfl) hf1 (fun W g => mPow_err2 (he.grow g) hv (fun W' g' => hc1 W' (g.trans g')))
      · obtain ⟨z, hz, rfl⟩ := nw_value he hv
        exact prod_err_ok hs hs2 ha hm hx vm hk hf hc he hz hf1
  · have hf1 := fst1_ok ha hm hx vm
    cases hv : decide (valid le) with
    | false => exact prod_ok_inv hs hs2 ha hm hx vm hb hy hf he hv hf1 (hpi 0 (.inl rfl) hv (chk_ok ha hm (nw_none w) hm hx (Nat.lt_of_le_of_lt (Nat.zero_le _) hx) vm vm))
    | true =>
      obtain ⟨z, hz, rfl⟩ := nw_value he hv
      exact prod_ok_ok hs hs2 ha hm hx vm hb hy hf he hz hf1
end Go.Proofs.Ytlciocebbckdcaa.Ml
