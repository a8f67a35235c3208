/- The walk of NatmodCrt. -/
import Derived.Test.YtlciocebbckdcaaQMx
import Derived.Test.YtlciocebbckdcaaQKr2
import Derived.Deep.Cut
namespace Go.Proofs.Ytlciocebbckdcaa.Ml
open Go.RowKit Go.Shelf Go.Proofs.Ytlciocebbckdcaa.Nm Go.Proofs.Ytlciocebbckdcaa.Ne Go.Proofs.Ytlciocebbckdcaa.Nf Go.Proofs.Ytlciocebbckdcaa.Nk Go.Proofs.Ytlciocebbckdcaa.Nv Go.Proofs.Ytlciocebbckdcaa.Nr2 Go.Proofs.Ytlciocebbckdcaa.Mo Go.Proofs.Ytlciocebbckdcaa.Mr Go.Proofs.Ytlciocebbckdcaa.Kr Go.Proofs.Ytlciocebbckdcaa.Nl

theorem gcd_modr (p q : Nat) : Nat.gcd (p % q) q = Nat.gcd p q := by
  rw [Nat.gcd_comm p q, Nat.gcd_rec q p]
theorem pq_big {w : World} {pp : Option Addr} {np cp : Nat} {pq : Option Addr} {nq cq p q : Nat} (hp : Nw w pp np cp (digs p)) (hq : Nw w pq nq cq (digs q)) (p0 : 0 < p) (q0 : 0 < q) (h : 34 ≤ np + nq) : pw 32 ≤ p * q := by
  have h1 := pw_le_val (tight_digs p) (fun e => by have := val_digs p; rw [e] at this; have h0 : val [] = 0 := rfl; omega)
  have h2 := pw_le_val (tight_digs q) (fun e => by have := val_digs q; rw [e] at this; have h0 : val [] = 0 := rfl; omega)
  rw [val_digs, hp.len] at h1
  rw [val_digs, hq.len] at h2
  have h3 := Nat.mul_le_mul h1 h2
  rw [← pw_add] at h3
  have p1 : 0 < np := by
    rcases Nat.eq_zero_or_pos np with e | e
    · have := hp.len; rw [e] at this; have h4 := val_digs p; rw [List.eq_nil_of_length_eq_zero this] at h4; have h0 : val [] = 0 := rfl; omega
    · exact e
  have q1 : 0 < nq := by
    rcases Nat.eq_zero_or_pos nq with e | e
    · have := hq.len; rw [e] at this; have h4 := val_digs q; rw [List.eq_nil_of_length_eq_zero this] at h4; have h0 : val [] = 0 := rfl; omega
    · exact e
  exact Nat.le_trans (pw_mono (by omega)) h3
theorem pq_small {w : World} {pp : Option Addr} {np cp : Nat} {pq : Option Addr} {nq cq p q : Nat} (hp : Nw w pp np cp (digs p)) (hq : Nw w pq nq cq (digs q)) (h : np ≤ 6 ∧ nq ≤ 6) : p * q < pw 32 := by
  have h1 := (digs_length_le p 6).1 (by rw [hp.len]; exact h.1)
  have h2 := (digs_length_le q 6).1 (by rw [hq.len]; exact h.2)
  have h3 := Nat.mul_lt_mul'' h1 h2
  rw [← pw_add] at h3
  exact Nat.lt_of_lt_of_le h3 (pw_mono (by decide))
set_option linter.unusedSimpArgs false in
set_option maxRecDepth 100000 in
set_option maxHeartbeats 16000000 in
theorem crt_g1 {pa : Option Addr} {na ca : Nat} {pp : Option Addr} {np cp : Nat} {pb : Option Addr} {nb cb : Nat} {pq : Option Addr} {nq cq : Nat} {w : World} (hg : ∃ x ∈ [(pa, na, ca), (pp, np, cp), (pb, nb, cb), (pq, nq, cq)], 40 < x.2.1) :
    Calls Try.prog 6 #[.agg #[.slice pa na ca], .agg #[.slice pp np cp], .agg #[.slice pb nb cb], .agg #[.slice pq nq cq]] w fun e w' => e = .returned (.bool true) ∧ Gr w w' := by
  have HG := Lib.hid hg
  clear hg
  have H := Sta.start w
  go_enter Try.func6, Try.ntmps6
  go_upto_region 0 with fail
  refine Kr.seqStartW ?_
  refine Kr.seqR (by rfl) (fun K hK => ?_)
  go_simp
  obtain ⟨y1, hy⟩ : ∃ y, w.alloc (.cells #[.slice pa na ca] 24) = y := ⟨_, rfl⟩
  obtain ⟨b4, hb⟩ : ∃ b, w.heap.size = b := ⟨_, rfl⟩
  rw [hy, hb]
  replace H := H.alloc hy hb rfl
  clear hy hb
  (refine Kr.outS hK (a' := ?_) ?_ ?_; rotate_left; (focus ((try simp only [Act.put, List.setIfInBounds_toArray, List.set_cons_zero, List.set_cons_succ]); first | done | rfl))); clear hK K
  refine Kr.seqR (by rfl) (fun K hK => ?_)
  go_simp
  obtain ⟨y2, hy⟩ : ∃ y, y1.alloc (.cells #[.slice pp np cp] 24) = y := ⟨_, rfl⟩
  obtain ⟨b5, hb⟩ : ∃ b, y1.heap.size = b := ⟨_, rfl⟩
  rw [hy, hb]
  replace H := H.alloc hy hb rfl
  clear hy hb
  (refine Kr.outS hK (a' := ?_) ?_ ?_; rotate_left; (focus ((try simp only [Act.put, List.setIfInBounds_toArray, List.set_cons_zero, List.set_cons_succ]); first | done | rfl))); clear hK K
  refine Kr.seqR (by rfl) (fun K hK => ?_)
  go_simp
  obtain ⟨y3, hy⟩ : ∃ y, y2.alloc (.cells #[.slice pb nb cb] 24) = y := ⟨_, rfl⟩
  obtain ⟨b6, hb⟩ : ∃ b, y2.heap.size = b := ⟨_, rfl⟩
  rw [hy, hb]
  replace H := H.alloc hy hb rfl
  clear hy hb
  (refine Kr.outS hK (a' := ?_) ?_ ?_; rotate_left; (focus ((try simp only [Act.put, List.setIfInBounds_toArray, List.set_cons_zero, List.set_cons_succ]); first | done | rfl))); clear hK K
  refine Kr.seqR (by rfl) (fun K hK => ?_)
  go_simp
  obtain ⟨y4, hy⟩ : ∃ y, y3.alloc (.cells #[.slice pq nq cq] 24) = y := ⟨_, rfl⟩
  obtain ⟨b7, hb⟩ : ∃ b, y3.heap.size = b := ⟨_, rfl⟩
  rw [hy, hb]
  replace H := H.alloc hy hb rfl
  clear hy hb
  (refine Kr.outS hK (a' := ?_) ?_ ?_; rotate_left; (focus ((try simp only [Act.put, List.setIfInBounds_toArray, List.set_cons_zero, List.set_cons_succ]); first | done | rfl))); clear hK K
  (refine Kr.seqQ (v := ?_) (a' := ?_) (by rfl) ?_ ?_ ?_; rotate_left 2; (focus (go_simp; first | done | rfl)); (focus ((try simp only [Act.put, List.setIfInBounds_toArray, List.set_cons_zero, List.set_cons_succ]); first | done | rfl)))
  refine Kr.seqDoneW ?_
  go_upto_region 1 with fail
  refine Kr.seqStartW ?_
  refine Kr.seqR (by rfl) (fun K hK => ?_)
  go_simp
  go_at_call 18
  refine (awake3 _).mono ?_
  rintro e y5 ⟨rfl, hg⟩
  replace H := H.grow hg
  clear hg
  (refine Kr.outS hK (a' := ?_) ?_ ?_; rotate_left; (focus ((try simp only [Act.put, List.setIfInBounds_toArray, List.set_cons_zero, List.set_cons_succ]); first | done | rfl))); clear hK K
  iterate 2 (refine Kr.seqQ (v := ?_) (a' := ?_) (by rfl) ?_ ?_ ?_; rotate_left 2; (focus (go_simp; first | done | rfl)); (focus ((try simp only [Act.put, List.setIfInBounds_toArray, List.set_cons_zero, List.set_cons_succ]); first | done | rfl)))
  have hk := H.c
  simp only [Kr.Cells] at hk
  iterate 4 (refine Kr.seqQ (v := ?_) (a' := ?_) (by rfl) ?_ ?_ ?_; rotate_left 2; (focus (go_simp; first | done | rfl)); (focus ((try simp only [Act.put, List.setIfInBounds_toArray, List.set_cons_zero, List.set_cons_succ]); first | done | rfl)))
  refine Kr.seqR (by rfl) (fun K hK => ?_)
  go_simp
  clear hk
  obtain ⟨y6, hy⟩ : ∃ y, y5.alloc (.cells #[.slice pa na ca, .slice pp np cp, .slice pb nb cb, .slice pq nq cq] 24) = y := ⟨_, rfl⟩
  obtain ⟨by6, hb⟩ : ∃ b, y5.heap.size = b := ⟨_, rfl⟩
  rw [hy, hb]
  have HN : Nats y6 by6 0 [(pa, na, ca), (pp, np, cp), (pb, nb, cb), (pq, nq, cq)] := nats_mk hy hb
  have hg : Gr y5 y6 := hy ▸ (Gr.refl _).alloc _
  replace H := H.grow hg
  clear hg hy hb
  (refine Kr.outS hK (a' := ?_) ?_ ?_; rotate_left; (focus ((try simp only [Act.put, List.setIfInBounds_toArray, List.set_cons_zero, List.set_cons_succ]); first | done | rfl))); clear hK K
  refine Kr.seqR (by rfl) (fun K hK => ?_)
  go_simp
  go_at_call 19
  go_at_call 19
  refine (few_no HN (by simp) HG.out).mono ?_
  rintro e y7 ⟨rfl, hg⟩
  replace H := H.grow hg
  clear hg
  clear HN
  (refine Kr.outS hK (a' := ?_) ?_ ?_; rotate_left; (focus ((try simp only [Act.put, List.setIfInBounds_toArray, List.set_cons_zero, List.set_cons_succ]); first | done | rfl))); clear hK K
  iterate 3 (refine Kr.seqQ (v := ?_) (a' := ?_) (by rfl) ?_ ?_ ?_; rotate_left 2; (focus (go_simp; first | done | rfl)); (focus ((try simp only [Act.put, List.setIfInBounds_toArray, List.set_cons_zero, List.set_cons_succ]); first | done | rfl)))
  (refine Kr.seqSkipQ (a' := ?_) (by rfl) ?_ ?_; rotate_left; (focus ((try simp only [Act.put, List.setIfInBounds_toArray, List.set_cons_zero, List.set_cons_succ]); first | done | rfl)))
  (refine Kr.seqSkipQ (a' := ?_) (by rfl) ?_ ?_; rotate_left; (focus ((try simp only [Act.put, List.setIfInBounds_toArray, List.set_cons_zero, List.set_cons_succ]); first | done | rfl)))
  (refine Kr.seqSkipQ (a' := ?_) (by rfl) ?_ ?_; rotate_left; (focus ((try simp only [Act.put, List.setIfInBounds_toArray, List.set_cons_zero, List.set_cons_succ]); first | done | rfl)))
  (refine Kr.seqSkipQ (a' := ?_) (by rfl) ?_ ?_; rotate_left; (focus ((try simp only [Act.put, List.setIfInBounds_toArray, List.set_cons_zero, List.set_cons_succ]); first | done | rfl)))
  (refine Kr.seqSkipQ (a' := ?_) (by rfl) ?_ ?_; rotate_left; (focus ((try simp only [Act.put, List.setIfInBounds_toArray, List.set_cons_zero, List.set_cons_succ]); first | done | rfl)))
  (refine Kr.seqSkipQ (a' := ?_) (by rfl) ?_ ?_; rotate_left; (focus ((try simp only [Act.put, List.setIfInBounds_toArray, List.set_cons_zero, List.set_cons_succ]); first | done | rfl)))
  (refine Kr.seqSkipQ (a' := ?_) (by rfl) ?_ ?_; rotate_left; (focus ((try simp only [Act.put, List.setIfInBounds_toArray, List.set_cons_zero, List.set_cons_succ]); first | done | rfl)))
  (refine Kr.seqSkipQ (a' := ?_) (by rfl) ?_ ?_; rotate_left; (focus ((try simp only [Act.put, List.setIfInBounds_toArray, List.set_cons_zero, List.set_cons_succ]); first | done | rfl)))
  (refine Kr.seqSkipQ (a' := ?_) (by rfl) ?_ ?_; rotate_left; (focus ((try simp only [Act.put, List.setIfInBounds_toArray, List.set_cons_zero, List.set_cons_succ]); first | done | rfl)))
  (refine Kr.seqSkipQ (a' := ?_) (by rfl) ?_ ?_; rotate_left; (focus ((try simp only [Act.put, List.setIfInBounds_toArray, List.set_cons_zero, List.set_cons_succ]); first | done | rfl)))
  (refine Kr.seqSkipQ (a' := ?_) (by rfl) ?_ ?_; rotate_left; (focus ((try simp only [Act.put, List.setIfInBounds_toArray, List.set_cons_zero, List.set_cons_succ]); first | done | rfl)))
  (refine Kr.seqSkipQ (a' := ?_) (by rfl) ?_ ?_; rotate_left; (focus ((try simp only [Act.put, List.setIfInBounds_toArray, List.set_cons_zero, List.set_cons_succ]); first | done | rfl)))
  (refine Kr.seqSkipQ (a' := ?_) (by rfl) ?_ ?_; rotate_left; (focus ((try simp only [Act.put, List.setIfInBounds_toArray, List.set_cons_zero, List.set_cons_succ]); first | done | rfl)))
  (refine Kr.seqSkipQ (a' := ?_) (by rfl) ?_ ?_; rotate_left; (focus ((try simp only [Act.put, List.setIfInBounds_toArray, List.set_cons_zero, List.set_cons_succ]); first | done | rfl)))
  (refine Kr.seqSkipQ (a' := ?_) (by rfl) ?_ ?_; rotate_left; (focus ((try simp only [Act.put, List.setIfInBounds_toArray, List.set_cons_zero, List.set_cons_succ]); first | done | rfl)))
  (refine Kr.seqQ (v := ?_) (a' := ?_) (by rfl) ?_ ?_ ?_; rotate_left 2; (focus (go_simp; first | done | rfl)); (focus ((try simp only [Act.put, List.setIfInBounds_toArray, List.set_cons_zero, List.set_cons_succ]); first | done | rfl)))
  refine Kr.seqDoneW ?_
  go_upto_region 2 with fail
  refine Kr.seqStartW ?_
  refine Kr.seqR (by rfl) (fun K hK => ?_)
  go_simp
  go_at_call 18
  refine (awake3 _).mono ?_
  rintro e y8 ⟨rfl, hg⟩
  replace H := H.grow hg
  clear hg
  (refine Kr.outS hK (a' := ?_) ?_ ?_; rotate_left; (focus ((try simp only [Act.put, List.setIfInBounds_toArray, List.set_cons_zero, List.set_cons_succ]); first | done | rfl))); clear hK K
  (refine Kr.seqQ (v := ?_) (a' := ?_) (by rfl) ?_ ?_ ?_; rotate_left 2; (focus (go_simp; first | done | rfl)); (focus ((try simp only [Act.put, List.setIfInBounds_toArray, List.set_cons_zero, List.set_cons_succ]); first | done | rfl)))
  refine Kr.seqDoneW ?_
  go_wp2
  go_ret
  exact ⟨rfl, H.g⟩
set_option linter.unusedSimpArgs false in
set_option maxRecDepth 100000 in
set_option maxHeartbeats 16000000 in
theorem crt_g2 {pa : Option Addr} {na ca : Nat} {pp : Option Addr} {np cp : Nat} {pb : Option Addr} {nb cb : Nat} {pq : Option Addr} {nq cq : Nat} {w : World} (hs : ∀ x ∈ [(pa, na, ca), (pp, np, cp), (pb, nb, cb), (pq, nq, cq)], x.2.1 ≤ 40) (hg : ∃ x ∈ [(pp, np, cp), (pq, nq, cq)], 6 < x.2.1) (hl : np + nq < 34) :
    Calls Try.prog 6 #[.agg #[.slice pa na ca], .agg #[.slice pp np cp], .agg #[.slice pb nb cb], .agg #[.slice pq nq cq]] w fun e w' => e = .returned (.bool true) ∧ Gr w w' := by
  have HS := Lib.hid hs
  have HG := Lib.hid hg
  clear hs hg
  have hL : IntKind.i64.wrap ((np : Int) + (nq : Int)) = (np : Int) + (nq : Int) := IntWalk.i64_in _ (by omega)
  have hl2 : (np : Int) + (nq : Int) < 34 := by omega
  have H := Sta.start w
  go_enter Try.func6, Try.ntmps6
  go_upto_region 0 with fail
  refine Kr.seqStartW ?_
  refine Kr.seqR (by rfl) (fun K hK => ?_)
  go_simp
  obtain ⟨y1, hy⟩ : ∃ y, w.alloc (.cells #[.slice pa na ca] 24) = y := ⟨_, rfl⟩
  obtain ⟨ba, hb⟩ : ∃ b, w.heap.size = b := ⟨_, rfl⟩
  rw [hy, hb]
  replace H := H.alloc hy hb rfl
  clear hy hb
  (refine Kr.outS hK (a' := ?_) ?_ ?_; rotate_left; (focus ((try simp only [Act.put, List.setIfInBounds_toArray, List.set_cons_zero, List.set_cons_succ]); first | done | rfl))); clear hK K
  refine Kr.seqR (by rfl) (fun K hK => ?_)
  go_simp
  obtain ⟨y2, hy⟩ : ∃ y, y1.alloc (.cells #[.slice pp np cp] 24) = y := ⟨_, rfl⟩
  obtain ⟨bp, hb⟩ : ∃ b, y1.heap.size = b := ⟨_, rfl⟩
  rw [hy, hb]
  replace H := H.alloc hy hb rfl
  clear hy hb
  (refine Kr.outS hK (a' := ?_) ?_ ?_; rotate_left; (focus ((try simp only [Act.put, List.setIfInBounds_toArray, List.set_cons_zero, List.set_cons_succ]); first | done | rfl))); clear hK K
  refine Kr.seqR (by rfl) (fun K hK => ?_)
  go_simp
  obtain ⟨y3, hy⟩ : ∃ y, y2.alloc (.cells #[.slice pb nb cb] 24) = y := ⟨_, rfl⟩
  obtain ⟨bb, hb⟩ : ∃ b, y2.heap.size = b := ⟨_, rfl⟩
  rw [hy, hb]
  replace H := H.alloc hy hb rfl
  clear hy hb
  (refine Kr.outS hK (a' := ?_) ?_ ?_; rotate_left; (focus ((try simp only [Act.put, List.setIfInBounds_toArray, List.set_cons_zero, List.set_cons_succ]); first | done | rfl))); clear hK K
  refine Kr.seqR (by rfl) (fun K hK => ?_)
  go_simp
  obtain ⟨y4, hy⟩ : ∃ y, y3.alloc (.cells #[.slice pq nq cq] 24) = y := ⟨_, rfl⟩
  obtain ⟨bq, hb⟩ : ∃ b, y3.heap.size = b := ⟨_, rfl⟩
  rw [hy, hb]
  replace H := H.alloc hy hb rfl
  clear hy hb
  (refine Kr.outS hK (a' := ?_) ?_ ?_; rotate_left; (focus ((try simp only [Act.put, List.setIfInBounds_toArray, List.set_cons_zero, List.set_cons_succ]); first | done | rfl))); clear hK K
  (refine Kr.seqQ (v := ?_) (a' := ?_) (by rfl) ?_ ?_ ?_; rotate_left 2; (focus (go_simp; first | done | rfl)); (focus ((try simp only [Act.put, List.setIfInBounds_toArray, List.set_cons_zero, List.set_cons_succ]); first | done | rfl)))
  refine Kr.seqDoneW ?_
  go_upto_region 1 with fail
  refine Kr.seqStartW ?_
  refine Kr.seqR (by rfl) (fun K hK => ?_)
  go_simp
  go_at_call 18
  refine (awake3 _).mono ?_
  rintro e y5 ⟨rfl, hg⟩
  replace H := H.grow hg
  clear hg
  (refine Kr.outS hK (a' := ?_) ?_ ?_; rotate_left; (focus ((try simp only [Act.put, List.setIfInBounds_toArray, List.set_cons_zero, List.set_cons_succ]); first | done | rfl))); clear hK K
  iterate 2 (refine Kr.seqQ (v := ?_) (a' := ?_) (by rfl) ?_ ?_ ?_; rotate_left 2; (focus (go_simp; first | done | rfl)); (focus ((try simp only [Act.put, List.setIfInBounds_toArray, List.set_cons_zero, List.set_cons_succ]); first | done | rfl)))
  have hk := H.c
  simp only [Kr.Cells] at hk
  iterate 4 (refine Kr.seqQ (v := ?_) (a' := ?_) (by rfl) ?_ ?_ ?_; rotate_left 2; (focus (go_simp; first | done | rfl)); (focus ((try simp only [Act.put, List.setIfInBounds_toArray, List.set_cons_zero, List.set_cons_succ]); first | done | rfl)))
  refine Kr.seqR (by rfl) (fun K hK => ?_)
  go_simp
  clear hk
  obtain ⟨y6, hy⟩ : ∃ y, y5.alloc (.cells #[.slice pa na ca, .slice pp np cp, .slice pb nb cb, .slice pq nq cq] 24) = y := ⟨_, rfl⟩
  obtain ⟨by6, hb⟩ : ∃ b, y5.heap.size = b := ⟨_, rfl⟩
  rw [hy, hb]
  have HN : Nats y6 by6 0 [(pa, na, ca), (pp, np, cp), (pb, nb, cb), (pq, nq, cq)] := nats_mk hy hb
  have hg : Gr y5 y6 := hy ▸ (Gr.refl _).alloc _
  replace H := H.grow hg
  clear hg hy hb
  (refine Kr.outS hK (a' := ?_) ?_ ?_; rotate_left; (focus ((try simp only [Act.put, List.setIfInBounds_toArray, List.set_cons_zero, List.set_cons_succ]); first | done | rfl))); clear hK K
  refine Kr.seqR (by rfl) (fun K hK => ?_)
  go_simp
  go_at_call 19
  go_at_call 19
  refine (few_ok HN (by simp) HS.out).mono ?_
  rintro e y7 ⟨rfl, hg⟩
  replace H := H.grow hg
  clear hg
  clear HN
  (refine Kr.outS hK (a' := ?_) ?_ ?_; rotate_left; (focus ((try simp only [Act.put, List.setIfInBounds_toArray, List.set_cons_zero, List.set_cons_succ]); first | done | rfl))); clear hK K
  iterate 3 (refine Kr.seqQ (v := ?_) (a' := ?_) (by rfl) ?_ ?_ ?_; rotate_left 2; (focus (go_simp; first | done | rfl)); (focus ((try simp only [Act.put, List.setIfInBounds_toArray, List.set_cons_zero, List.set_cons_succ]); first | done | rfl)))
  have hk := H.c
  simp only [Kr.Cells] at hk
  iterate 2 (refine Kr.seqQ (v := ?_) (a' := ?_) (by rfl) ?_ ?_ ?_; rotate_left 2; (focus (go_simp; first | done | rfl)); (focus ((try simp only [Act.put, List.setIfInBounds_toArray, List.set_cons_zero, List.set_cons_succ]); first | done | rfl)))
  refine Kr.seqR (by rfl) (fun K hK => ?_)
  go_simp
  clear hk
  obtain ⟨y8, hy⟩ : ∃ y, y7.alloc (.cells #[.slice pp np cp, .slice pq nq cq] 24) = y := ⟨_, rfl⟩
  obtain ⟨by8, hb⟩ : ∃ b, y7.heap.size = b := ⟨_, rfl⟩
  rw [hy, hb]
  have HN : Nats y8 by8 0 [(pp, np, cp), (pq, nq, cq)] := nats_mk hy hb
  have hg : Gr y7 y8 := hy ▸ (Gr.refl _).alloc _
  replace H := H.grow hg
  clear hg hy hb
  (refine Kr.outS hK (a' := ?_) ?_ ?_; rotate_left; (focus ((try simp only [Act.put, List.setIfInBounds_toArray, List.set_cons_zero, List.set_cons_succ]); first | done | rfl))); clear hK K
  refine Kr.seqR (by rfl) (fun K hK => ?_)
  go_simp
  go_at_call 19
  go_at_call 19
  refine (few_no HN (by simp) HG.out).mono ?_
  rintro e y9 ⟨rfl, hg⟩
  replace H := H.grow hg
  clear hg
  clear HN
  (refine Kr.outS hK (a' := ?_) ?_ ?_; rotate_left; (focus ((try simp only [Act.put, List.setIfInBounds_toArray, List.set_cons_zero, List.set_cons_succ]); first | done | rfl))); clear hK K
  iterate 3 (refine Kr.seqQ (v := ?_) (a' := ?_) (by rfl) ?_ ?_ ?_; rotate_left 2; (focus (go_simp; first | done | rfl)); (focus ((try simp only [Act.put, List.setIfInBounds_toArray, List.set_cons_zero, List.set_cons_succ]); first | done | rfl)))
  have hk := H.c
  simp only [Kr.Cells] at hk
  iterate 9 (refine Kr.seqQ (v := ?_) (a' := ?_) (by rfl) ?_ ?_ ?_; rotate_left 2; (focus (go_simp; first | done | rfl)); (focus ((try simp only [Act.put, List.setIfInBounds_toArray, List.set_cons_zero, List.set_cons_succ]); first | done | rfl)))
  clear hk
  refine Kr.seqDoneW ?_
  go_upto_region 2 with fail
  refine Kr.seqStartW ?_
  refine Kr.seqR (by rfl) (fun K hK => ?_)
  go_simp
  go_at_call 18
  refine (awake3 _).mono ?_
  rintro e y10 ⟨rfl, hg⟩
  replace H := H.grow hg
  clear hg
  (refine Kr.outS hK (a' := ?_) ?_ ?_; rotate_left; (focus ((try simp only [Act.put, List.setIfInBounds_toArray, List.set_cons_zero, List.set_cons_succ]); first | done | rfl))); clear hK K
  (refine Kr.seqQ (v := ?_) (a' := ?_) (by rfl) ?_ ?_ ?_; rotate_left 2; (focus (go_simp; first | done | rfl)); (focus ((try simp only [Act.put, List.setIfInBounds_toArray, List.set_cons_zero, List.set_cons_succ]); first | done | rfl)))
  refine Kr.seqDoneW ?_
  go_wp2
  go_ret
  exact ⟨rfl, H.g⟩
set_option linter.unusedSimpArgs false in
set_option maxRecDepth 100000 in
set_option maxHeartbeats 16000000 in
theorem crt_any_bad_p {pa : Option Addr} {na ca : Nat} {pp : Option Addr} {np cp : Nat} {pb : Option Addr} {nb cb : Nat} {pq : Option Addr} {nq cq : Nat} {lp lq la lb : List Nat} {w : World} (hs : ∀ x ∈ [(pa, na, ca), (pp, np, cp), (pb, nb, cb), (pq, nq, cq)], x.2.1 ≤ 40) (hw : (∀ x ∈ [(pp, np, cp), (pq, nq, cq)], x.2.1 ≤ 6) ∨ ((∃ x ∈ [(pp, np, cp), (pq, nq, cq)], 6 < x.2.1) ∧ 34 ≤ np + nq ∧ np + nq ≤ 80)) (ha : Nw w pa na ca la) (hp : Nw w pp np cp lp) (hb : Nw w pb nb cb lb) (hq : Nw w pq nq cq lq) (hr : ∀ W, Gr w W → Calls Try.prog 35 #[.agg #[.slice pa na ca], .agg #[.slice pp np cp], .agg #[.slice pb nb cb], .agg #[.slice pq nq cq]] W (HasE 0 1 W)) (tp : im lp = false) :
    Calls Try.prog 6 #[.agg #[.slice pa na ca], .agg #[.slice pp np cp], .agg #[.slice pb nb cb], .agg #[.slice pq nq cq]] w fun e w' => e = .returned (.bool true) ∧ Gr w w' := by
  have HS := Lib.hid hs
  have HW := Lib.hid hw
  clear hs hw
  have HR := Lib.hid hr
  clear hr
  have Tp := Lib.hid tp
  clear tp
  have H := Sta.start w
  replace H := H.add (keepWs _ _ _ _) ha
  replace H := H.add (keepWs _ _ _ _) hp
  replace H := H.add (keepWs _ _ _ _) hb
  replace H := H.add (keepWs _ _ _ _) hq
  go_enter Try.func6, Try.ntmps6
  go_upto_region 0 with fail
  refine Kr.seqStartW ?_
  refine Kr.seqR (by rfl) (fun K hK => ?_)
  go_simp
  obtain ⟨y1, hy⟩ : ∃ y, w.alloc (.cells #[.slice pa na ca] 24) = y := ⟨_, rfl⟩
  obtain ⟨ba, hb⟩ : ∃ b, w.heap.size = b := ⟨_, rfl⟩
  rw [hy, hb]
  replace H := H.alloc hy hb rfl
  clear hy hb
  (refine Kr.outS hK (a' := ?_) ?_ ?_; rotate_left; (focus ((try simp only [Act.put, List.setIfInBounds_toArray, List.set_cons_zero, List.set_cons_succ]); first | done | rfl))); clear hK K
  refine Kr.seqR (by rfl) (fun K hK => ?_)
  go_simp
  obtain ⟨y2, hy⟩ : ∃ y, y1.alloc (.cells #[.slice pp np cp] 24) = y := ⟨_, rfl⟩
  obtain ⟨bp, hb⟩ : ∃ b, y1.heap.size = b := ⟨_, rfl⟩
  rw [hy, hb]
  replace H := H.alloc hy hb rfl
  clear hy hb
  (refine Kr.outS hK (a' := ?_) ?_ ?_; rotate_left; (focus ((try simp only [Act.put, List.setIfInBounds_toArray, List.set_cons_zero, List.set_cons_succ]); first | done | rfl))); clear hK K
  refine Kr.seqR (by rfl) (fun K hK => ?_)
  go_simp
  obtain ⟨y3, hy⟩ : ∃ y, y2.alloc (.cells #[.slice pb nb cb] 24) = y := ⟨_, rfl⟩
  obtain ⟨bb, hb⟩ : ∃ b, y2.heap.size = b := ⟨_, rfl⟩
  rw [hy, hb]
  replace H := H.alloc hy hb rfl
  clear hy hb
  (refine Kr.outS hK (a' := ?_) ?_ ?_; rotate_left; (focus ((try simp only [Act.put, List.setIfInBounds_toArray, List.set_cons_zero, List.set_cons_succ]); first | done | rfl))); clear hK K
  refine Kr.seqR (by rfl) (fun K hK => ?_)
  go_simp
  obtain ⟨y4, hy⟩ : ∃ y, y3.alloc (.cells #[.slice pq nq cq] 24) = y := ⟨_, rfl⟩
  obtain ⟨bq, hb⟩ : ∃ b, y3.heap.size = b := ⟨_, rfl⟩
  rw [hy, hb]
  replace H := H.alloc hy hb rfl
  clear hy hb
  (refine Kr.outS hK (a' := ?_) ?_ ?_; rotate_left; (focus ((try simp only [Act.put, List.setIfInBounds_toArray, List.set_cons_zero, List.set_cons_succ]); first | done | rfl))); clear hK K
  (refine Kr.seqQ (v := ?_) (a' := ?_) (by rfl) ?_ ?_ ?_; rotate_left 2; (focus (go_simp; first | done | rfl)); (focus ((try simp only [Act.put, List.setIfInBounds_toArray, List.set_cons_zero, List.set_cons_succ]); first | done | rfl)))
  refine Kr.seqDoneW ?_
  go_upto_region 1 with fail
  go_cut [39] from 12 to 38 (fun s39 W => s39 = .bool false ∧ Hid (Sta w W [(bq, 0, .slice pq nq cq), (bb, 0, .slice pb nb cb), (bp, 0, .slice pp np cp), (ba, 0, .slice pa na ca)] [Ws pq nq cq lq, Ws pb nb cb lb, Ws pp np cp lp, Ws pa na ca la]))
  case first =>
    rcases HW.out with h6 | ⟨hg, hl, hu⟩
    · have HS6 := Lib.hid h6
      clear h6
      refine Kr.seqStartW ?_
      refine Kr.seqR (by rfl) (fun K hK => ?_)
      go_simp
      go_at_call 18
      refine (awake3 _).mono ?_
      rintro e y5 ⟨rfl, hg⟩
      replace H := H.grow hg
      clear hg
      (refine Kr.outS hK (a' := ?_) ?_ ?_; rotate_left; (focus ((try simp only [Act.put, List.setIfInBounds_toArray, List.set_cons_zero, List.set_cons_succ]); first | done | rfl))); clear hK K
      iterate 2 (refine Kr.seqQ (v := ?_) (a' := ?_) (by rfl) ?_ ?_ ?_; rotate_left 2; (focus (go_simp; first | done | rfl)); (focus ((try simp only [Act.put, List.setIfInBounds_toArray, List.set_cons_zero, List.set_cons_succ]); first | done | rfl)))
      have hk := H.c
      simp only [Kr.Cells] at hk
      iterate 4 (refine Kr.seqQ (v := ?_) (a' := ?_) (by rfl) ?_ ?_ ?_; rotate_left 2; (focus (go_simp; first | done | rfl)); (focus ((try simp only [Act.put, List.setIfInBounds_toArray, List.set_cons_zero, List.set_cons_succ]); first | done | rfl)))
      refine Kr.seqR (by rfl) (fun K hK => ?_)
      go_simp
      clear hk
      obtain ⟨y6, hy⟩ : ∃ y, y5.alloc (.cells #[.slice pa na ca, .slice pp np cp, .slice pb nb cb, .slice pq nq cq] 24) = y := ⟨_, rfl⟩
      obtain ⟨by6, hb⟩ : ∃ b, y5.heap.size = b := ⟨_, rfl⟩
      rw [hy, hb]
      have HN : Nats y6 by6 0 [(pa, na, ca), (pp, np, cp), (pb, nb, cb), (pq, nq, cq)] := nats_mk hy hb
      have hg : Gr y5 y6 := hy ▸ (Gr.refl _).alloc _
      replace H := H.grow hg
      clear hg hy hb
      (refine Kr.outS hK (a' := ?_) ?_ ?_; rotate_left; (focus ((try simp only [Act.put, List.setIfInBounds_toArray, List.set_cons_zero, List.set_cons_succ]); first | done | rfl))); clear hK K
      refine Kr.seqR (by rfl) (fun K hK => ?_)
      go_simp
      go_at_call 19
      go_at_call 19
      refine (few_ok HN (by simp) HS.out).mono ?_
      rintro e y7 ⟨rfl, hg⟩
      replace H := H.grow hg
      clear hg
      clear HN
      (refine Kr.outS hK (a' := ?_) ?_ ?_; rotate_left; (focus ((try simp only [Act.put, List.setIfInBounds_toArray, List.set_cons_zero, List.set_cons_succ]); first | done | rfl))); clear hK K
      iterate 3 (refine Kr.seqQ (v := ?_) (a' := ?_) (by rfl) ?_ ?_ ?_; rotate_left 2; (focus (go_simp; first | done | rfl)); (focus ((try simp only [Act.put, List.setIfInBounds_toArray, List.set_cons_zero, List.set_cons_succ]); first | done | rfl)))
      have hk := H.c
      simp only [Kr.Cells] at hk
      iterate 2 (refine Kr.seqQ (v := ?_) (a' := ?_) (by rfl) ?_ ?_ ?_; rotate_left 2; (focus (go_simp; first | done | rfl)); (focus ((try simp only [Act.put, List.setIfInBounds_toArray, List.set_cons_zero, List.set_cons_succ]); first | done | rfl)))
      refine Kr.seqR (by rfl) (fun K hK => ?_)
      go_simp
      clear hk
      obtain ⟨y8, hy⟩ : ∃ y, y7.alloc (.cells #[.slice pp np cp, .slice pq nq cq] 24) = y := ⟨_, rfl⟩
      obtain ⟨by8, hb⟩ : ∃ b, y7.heap.size = b := ⟨_, rfl⟩
      rw [hy, hb]
      have HN : Nats y8 by8 0 [(pp, np, cp), (pq, nq, cq)] := nats_mk hy hb
      have hg : Gr y7 y8 := hy ▸ (Gr.refl _).alloc _
      replace H := H.grow hg
      clear hg hy hb
      (refine Kr.outS hK (a' := ?_) ?_ ?_; rotate_left; (focus ((try simp only [Act.put, List.setIfInBounds_toArray, List.set_cons_zero, List.set_cons_succ]); first | done | rfl))); clear hK K
      refine Kr.seqR (by rfl) (fun K hK => ?_)
      go_simp
      go_at_call 19
      go_at_call 19
      refine (few_ok HN (by simp) HS6.out).mono ?_
      rintro e y9 ⟨rfl, hg⟩
      replace H := H.grow hg
      clear hg
      clear HN
      (refine Kr.outS hK (a' := ?_) ?_ ?_; rotate_left; (focus ((try simp only [Act.put, List.setIfInBounds_toArray, List.set_cons_zero, List.set_cons_succ]); first | done | rfl))); clear hK K
      iterate 2 (refine Kr.seqQ (v := ?_) (a' := ?_) (by rfl) ?_ ?_ ?_; rotate_left 2; (focus (go_simp; first | done | rfl)); (focus ((try simp only [Act.put, List.setIfInBounds_toArray, List.set_cons_zero, List.set_cons_succ]); first | done | rfl)))
      (refine Kr.seqSkipQ (a' := ?_) (by rfl) ?_ ?_; rotate_left; (focus ((try simp only [Act.put, List.setIfInBounds_toArray, List.set_cons_zero, List.set_cons_succ]); first | done | rfl)))
      (refine Kr.seqSkipQ (a' := ?_) (by rfl) ?_ ?_; rotate_left; (focus ((try simp only [Act.put, List.setIfInBounds_toArray, List.set_cons_zero, List.set_cons_succ]); first | done | rfl)))
      (refine Kr.seqSkipQ (a' := ?_) (by rfl) ?_ ?_; rotate_left; (focus ((try simp only [Act.put, List.setIfInBounds_toArray, List.set_cons_zero, List.set_cons_succ]); first | done | rfl)))
      (refine Kr.seqSkipQ (a' := ?_) (by rfl) ?_ ?_; rotate_left; (focus ((try simp only [Act.put, List.setIfInBounds_toArray, List.set_cons_zero, List.set_cons_succ]); first | done | rfl)))
      (refine Kr.seqSkipQ (a' := ?_) (by rfl) ?_ ?_; rotate_left; (focus ((try simp only [Act.put, List.setIfInBounds_toArray, List.set_cons_zero, List.set_cons_succ]); first | done | rfl)))
      (refine Kr.seqSkipQ (a' := ?_) (by rfl) ?_ ?_; rotate_left; (focus ((try simp only [Act.put, List.setIfInBounds_toArray, List.set_cons_zero, List.set_cons_succ]); first | done | rfl)))
      (refine Kr.seqSkipQ (a' := ?_) (by rfl) ?_ ?_; rotate_left; (focus ((try simp only [Act.put, List.setIfInBounds_toArray, List.set_cons_zero, List.set_cons_succ]); first | done | rfl)))
      (refine Kr.seqSkipQ (a' := ?_) (by rfl) ?_ ?_; rotate_left; (focus ((try simp only [Act.put, List.setIfInBounds_toArray, List.set_cons_zero, List.set_cons_succ]); first | done | rfl)))
      iterate 2 (refine Kr.seqQ (v := ?_) (a' := ?_) (by rfl) ?_ ?_ ?_; rotate_left 2; (focus (go_simp; first | done | rfl)); (focus ((try simp only [Act.put, List.setIfInBounds_toArray, List.set_cons_zero, List.set_cons_succ]); first | done | rfl)))
      refine Kr.seqDoneW ?_
      go_wp2_with fail
      go_meet
      exact ⟨rfl, Lib.hid H⟩
    · have HG := Lib.hid hg
      have hLL : IntKind.i64.wrap ((np : Int) + (nq : Int)) = (np : Int) + (nq : Int) := IntWalk.i64_in _ (by omega)
      have hl2 : ¬ (np : Int) + (nq : Int) < 34 := by omega
      clear hg
      refine Kr.seqStartW ?_
      refine Kr.seqR (by rfl) (fun K hK => ?_)
      go_simp
      go_at_call 18
      refine (awake3 _).mono ?_
      rintro e y10 ⟨rfl, hg⟩
      replace H := H.grow hg
      clear hg
      (refine Kr.outS hK (a' := ?_) ?_ ?_; rotate_left; (focus ((try simp only [Act.put, List.setIfInBounds_toArray, List.set_cons_zero, List.set_cons_succ]); first | done | rfl))); clear hK K
      iterate 2 (refine Kr.seqQ (v := ?_) (a' := ?_) (by rfl) ?_ ?_ ?_; rotate_left 2; (focus (go_simp; first | done | rfl)); (focus ((try simp only [Act.put, List.setIfInBounds_toArray, List.set_cons_zero, List.set_cons_succ]); first | done | rfl)))
      have hk := H.c
      simp only [Kr.Cells] at hk
      iterate 4 (refine Kr.seqQ (v := ?_) (a' := ?_) (by rfl) ?_ ?_ ?_; rotate_left 2; (focus (go_simp; first | done | rfl)); (focus ((try simp only [Act.put, List.setIfInBounds_toArray, List.set_cons_zero, List.set_cons_succ]); first | done | rfl)))
      refine Kr.seqR (by rfl) (fun K hK => ?_)
      go_simp
      clear hk
      obtain ⟨y11, hy⟩ : ∃ y, y10.alloc (.cells #[.slice pa na ca, .slice pp np cp, .slice pb nb cb, .slice pq nq cq] 24) = y := ⟨_, rfl⟩
      obtain ⟨by11, hb⟩ : ∃ b, y10.heap.size = b := ⟨_, rfl⟩
      rw [hy, hb]
      have HN : Nats y11 by11 0 [(pa, na, ca), (pp, np, cp), (pb, nb, cb), (pq, nq, cq)] := nats_mk hy hb
      have hg : Gr y10 y11 := hy ▸ (Gr.refl _).alloc _
      replace H := H.grow hg
      clear hg hy hb
      (refine Kr.outS hK (a' := ?_) ?_ ?_; rotate_left; (focus ((try simp only [Act.put, List.setIfInBounds_toArray, List.set_cons_zero, List.set_cons_succ]); first | done | rfl))); clear hK K
      refine Kr.seqR (by rfl) (fun K hK => ?_)
      go_simp
      go_at_call 19
      go_at_call 19
      refine (few_ok HN (by simp) HS.out).mono ?_
      rintro e y12 ⟨rfl, hg⟩
      replace H := H.grow hg
      clear hg
      clear HN
      (refine Kr.outS hK (a' := ?_) ?_ ?_; rotate_left; (focus ((try simp only [Act.put, List.setIfInBounds_toArray, List.set_cons_zero, List.set_cons_succ]); first | done | rfl))); clear hK K
      iterate 3 (refine Kr.seqQ (v := ?_) (a' := ?_) (by rfl) ?_ ?_ ?_; rotate_left 2; (focus (go_simp; first | done | rfl)); (focus ((try simp only [Act.put, List.setIfInBounds_toArray, List.set_cons_zero, List.set_cons_succ]); first | done | rfl)))
      have hk := H.c
      simp only [Kr.Cells] at hk
      iterate 2 (refine Kr.seqQ (v := ?_) (a' := ?_) (by rfl) ?_ ?_ ?_; rotate_left 2; (focus (go_simp; first | done | rfl)); (focus ((try simp only [Act.put, List.setIfInBounds_toArray, List.set_cons_zero, List.set_cons_succ]); first | done | rfl)))
      refine Kr.seqR (by rfl) (fun K hK => ?_)
      go_simp
      clear hk
      obtain ⟨y13, hy⟩ : ∃ y, y12.alloc (.cells #[.slice pp np cp, .slice pq nq cq] 24) = y := ⟨_, rfl⟩
      obtain ⟨by13, hb⟩ : ∃ b, y12.heap.size = b := ⟨_, rfl⟩
      rw [hy, hb]
      have HN : Nats y13 by13 0 [(pp, np, cp), (pq, nq, cq)] := nats_mk hy hb
      have hg : Gr y12 y13 := hy ▸ (Gr.refl _).alloc _
      replace H := H.grow hg
      clear hg hy hb
      (refine Kr.outS hK (a' := ?_) ?_ ?_; rotate_left; (focus ((try simp only [Act.put, List.setIfInBounds_toArray, List.set_cons_zero, List.set_cons_succ]); first | done | rfl))); clear hK K
      refine Kr.seqR (by rfl) (fun K hK => ?_)
      go_simp
      go_at_call 19
      go_at_call 19
      refine (few_no HN (by simp) HG.out).mono ?_
      rintro e y14 ⟨rfl, hg⟩
      replace H := H.grow hg
      clear hg
      clear HN
      (refine Kr.outS hK (a' := ?_) ?_ ?_; rotate_left; (focus ((try simp only [Act.put, List.setIfInBounds_toArray, List.set_cons_zero, List.set_cons_succ]); first | done | rfl))); clear hK K
      iterate 3 (refine Kr.seqQ (v := ?_) (a' := ?_) (by rfl) ?_ ?_ ?_; rotate_left 2; (focus (go_simp; first | done | rfl)); (focus ((try simp only [Act.put, List.setIfInBounds_toArray, List.set_cons_zero, List.set_cons_succ]); first | done | rfl)))
      have hk := H.c
      simp only [Kr.Cells] at hk
      iterate 9 (refine Kr.seqQ (v := ?_) (a' := ?_) (by rfl) ?_ ?_ ?_; rotate_left 2; (focus (go_simp; first | done | rfl)); (focus ((try simp only [Act.put, List.setIfInBounds_toArray, List.set_cons_zero, List.set_cons_succ]); first | done | rfl)))
      clear hk
      refine Kr.seqDoneW ?_
      go_wp2_with fail
      go_meet
      exact ⟨rfl, Lib.hid H⟩
  case rest =>
    clear H
    obtain ⟨rfl, HH⟩ := hcut
    have H := HH.out
    clear HH
    go_upto_region 3 with fail
    refine Kr.seqStartW ?_
    have hk := H.c
    simp only [Kr.Cells] at hk
    iterate 4 (refine Kr.seqQ (v := ?_) (a' := ?_) (by rfl) ?_ ?_ ?_; rotate_left 2; (focus (go_simp; first | done | rfl)); (focus ((try simp only [Act.put, List.setIfInBounds_toArray, List.set_cons_zero, List.set_cons_succ]); first | done | rfl)))
    refine Kr.seqR (by rfl) (fun K hK => ?_)
    go_simp
    go_at_call 35
    refine (HR.out _ H.g).mono ?_
    rintro e y15 ⟨p15, n15, c15, rfl, hr, hg⟩
    obtain rfl : n15 = 0 := by rw [← hr.len, digs_zero]; rfl
    clear hk
    replace H := H.grow hg
    clear hr hg
    (refine Kr.outS hK (a' := ?_) ?_ ?_; rotate_left; (focus ((try simp only [Act.put, List.setIfInBounds_toArray, List.set_cons_zero, List.set_cons_succ]); first | done | rfl))); clear hK K
    iterate 3 (refine Kr.seqQ (v := ?_) (a' := ?_) (by rfl) ?_ ?_ ?_; rotate_left 2; (focus (go_simp; first | done | rfl)); (focus ((try simp only [Act.put, List.setIfInBounds_toArray, List.set_cons_zero, List.set_cons_succ]); first | done | rfl)))
    refine Kr.seqR (by rfl) (fun K hK => ?_)
    go_simp
    obtain ⟨y16, hy⟩ : ∃ y, y15.alloc (.cells #[.slice none 0 0] 24) = y := ⟨_, rfl⟩
    obtain ⟨bx, hb⟩ : ∃ b, y15.heap.size = b := ⟨_, rfl⟩
    rw [hy, hb]
    replace H := H.alloc hy hb rfl
    clear hy hb
    (refine Kr.outS hK (a' := ?_) ?_ ?_; rotate_left; (focus ((try simp only [Act.put, List.setIfInBounds_toArray, List.set_cons_zero, List.set_cons_succ]); first | done | rfl))); clear hK K
    have hk := H.c
    simp only [Kr.Cells] at hk
    refine Kr.seqR (by rfl) (fun K hK => ?_)
    go_simp
    clear hk
    obtain ⟨y17, hy⟩ : ∃ y, y16.setCell ⟨bx, 0, none⟩ (.slice p15 0 c15) = y := ⟨_, rfl⟩
    rw [hy]
    replace H := H.store 0 hy rfl rfl
    dsimp only [List.set] at H
    clear hy
    (refine Kr.outS hK (a' := ?_) ?_ ?_; rotate_left; (focus ((try simp only [Act.put, List.setIfInBounds_toArray, List.set_cons_zero, List.set_cons_succ]); first | done | rfl))); clear hK K
    (refine Kr.seqQ (v := ?_) (a' := ?_) (by rfl) ?_ ?_ ?_; rotate_left 2; (focus (go_simp; first | done | rfl)); (focus ((try simp only [Act.put, List.setIfInBounds_toArray, List.set_cons_zero, List.set_cons_succ]); first | done | rfl)))
    refine Kr.seqDoneW ?_
    go_upto_region 4 with fail
    refine Kr.seqStartW ?_
    (refine Kr.seqQ (v := ?_) (a' := ?_) (by rfl) ?_ ?_ ?_; rotate_left 2; (focus (go_simp; first | done | rfl)); (focus ((try simp only [Act.put, List.setIfInBounds_toArray, List.set_cons_zero, List.set_cons_succ]); first | done | rfl)))
    refine Kr.seqDoneW ?_
    go_upto_region 5 with fail
    refine Kr.seqStartW ?_
    have hk := H.c
    simp only [Kr.Cells] at hk
    (refine Kr.seqQ (v := ?_) (a' := ?_) (by rfl) ?_ ?_ ?_; rotate_left 2; (focus (go_simp; first | done | rfl)); (focus ((try simp only [Act.put, List.setIfInBounds_toArray, List.set_cons_zero, List.set_cons_succ]); first | done | rfl)))
    refine Kr.seqR (by rfl) (fun K hK => ?_)
    go_simp
    go_at_call 22
    refine (first_nil (H.ws 2 rfl)).mono ?_
    rintro e y18 ⟨rfl, hg⟩
    rw [Tp.out, if_neg (by decide)]
    clear hk
    replace H := H.grow hg
    clear hg
    (refine Kr.outS hK (a' := ?_) ?_ ?_; rotate_left; (focus ((try simp only [Act.put, List.setIfInBounds_toArray, List.set_cons_zero, List.set_cons_succ]); first | done | rfl))); clear hK K
    iterate 2 (refine Kr.seqQ (v := ?_) (a' := ?_) (by rfl) ?_ ?_ ?_; rotate_left 2; (focus (go_simp; first | done | rfl)); (focus ((try simp only [Act.put, List.setIfInBounds_toArray, List.set_cons_zero, List.set_cons_succ]); first | done | rfl)))
    (refine Kr.seqSkipQ (a' := ?_) (by rfl) ?_ ?_; rotate_left; (focus ((try simp only [Act.put, List.setIfInBounds_toArray, List.set_cons_zero, List.set_cons_succ]); first | done | rfl)))
    (refine Kr.seqSkipQ (a' := ?_) (by rfl) ?_ ?_; rotate_left; (focus ((try simp only [Act.put, List.setIfInBounds_toArray, List.set_cons_zero, List.set_cons_succ]); first | done | rfl)))
    (refine Kr.seqSkipQ (a' := ?_) (by rfl) ?_ ?_; rotate_left; (focus ((try simp only [Act.put, List.setIfInBounds_toArray, List.set_cons_zero, List.set_cons_succ]); first | done | rfl)))
    iterate 2 (refine Kr.seqQ (v := ?_) (a' := ?_) (by rfl) ?_ ?_ ?_; rotate_left 2; (focus (go_simp; first | done | rfl)); (focus ((try simp only [Act.put, List.setIfInBounds_toArray, List.set_cons_zero, List.set_cons_succ]); first | done | rfl)))
    (refine Kr.seqSkipQ (a' := ?_) (by rfl) ?_ ?_; rotate_left; (focus ((try simp only [Act.put, List.setIfInBounds_toArray, List.set_cons_zero, List.set_cons_succ]); first | done | rfl)))
    (refine Kr.seqSkipQ (a' := ?_) (by rfl) ?_ ?_; rotate_left; (focus ((try simp only [Act.put, List.setIfInBounds_toArray, List.set_cons_zero, List.set_cons_succ]); first | done | rfl)))
    (refine Kr.seqSkipQ (a' := ?_) (by rfl) ?_ ?_; rotate_left; (focus ((try simp only [Act.put, List.setIfInBounds_toArray, List.set_cons_zero, List.set_cons_succ]); first | done | rfl)))
    iterate 2 (refine Kr.seqQ (v := ?_) (a' := ?_) (by rfl) ?_ ?_ ?_; rotate_left 2; (focus (go_simp; first | done | rfl)); (focus ((try simp only [Act.put, List.setIfInBounds_toArray, List.set_cons_zero, List.set_cons_succ]); first | done | rfl)))
    (refine Kr.seqSkipQ (a' := ?_) (by rfl) ?_ ?_; rotate_left; (focus ((try simp only [Act.put, List.setIfInBounds_toArray, List.set_cons_zero, List.set_cons_succ]); first | done | rfl)))
    (refine Kr.seqSkipQ (a' := ?_) (by rfl) ?_ ?_; rotate_left; (focus ((try simp only [Act.put, List.setIfInBounds_toArray, List.set_cons_zero, List.set_cons_succ]); first | done | rfl)))
    (refine Kr.seqSkipQ (a' := ?_) (by rfl) ?_ ?_; rotate_left; (focus ((try simp only [Act.put, List.setIfInBounds_toArray, List.set_cons_zero, List.set_cons_succ]); first | done | rfl)))
    iterate 2 (refine Kr.seqQ (v := ?_) (a' := ?_) (by rfl) ?_ ?_ ?_; rotate_left 2; (focus (go_simp; first | done | rfl)); (focus ((try simp only [Act.put, List.setIfInBounds_toArray, List.set_cons_zero, List.set_cons_succ]); first | done | rfl)))
    refine Kr.seqDoneW ?_
    go_upto_region 6 with fail
    refine Kr.seqStartW ?_
    (refine Kr.seqQ (v := ?_) (a' := ?_) (by rfl) ?_ ?_ ?_; rotate_left 2; (focus (go_simp; first | done | rfl)); (focus ((try simp only [Act.put, List.setIfInBounds_toArray, List.set_cons_zero, List.set_cons_succ]); first | done | rfl)))
    refine Kr.seqDoneW ?_
    go_upto_region 13 with fail
    refine Kr.seqStartW ?_
    iterate 2 (refine Kr.seqQ (v := ?_) (a' := ?_) (by rfl) ?_ ?_ ?_; rotate_left 2; (focus (go_simp; first | done | rfl)); (focus ((try simp only [Act.put, List.setIfInBounds_toArray, List.set_cons_zero, List.set_cons_succ]); first | done | rfl)))
    refine Kr.seqDoneW ?_
    go_upto_region 14 with fail
    refine Kr.seqStartW ?_
    (refine Kr.seqQ (v := ?_) (a' := ?_) (by rfl) ?_ ?_ ?_; rotate_left 2; (focus (go_simp; first | done | rfl)); (focus ((try simp only [Act.put, List.setIfInBounds_toArray, List.set_cons_zero, List.set_cons_succ]); first | done | rfl)))
    have hk := H.c
    simp only [Kr.Cells] at hk
    iterate 9 (refine Kr.seqQ (v := ?_) (a' := ?_) (by rfl) ?_ ?_ ?_; rotate_left 2; (focus (go_simp; first | done | rfl)); (focus ((try simp only [Act.put, List.setIfInBounds_toArray, List.set_cons_zero, List.set_cons_succ]); first | done | rfl)))
    clear hk
    refine Kr.seqDoneW ?_
    go_wp2
    go_ret
    exact ⟨rfl, H.g⟩
set_option linter.unusedSimpArgs false in
set_option maxRecDepth 100000 in
set_option maxHeartbeats 16000000 in
theorem crt_any_bad_q {pa : Option Addr} {na ca : Nat} {pp : Option Addr} {np cp : Nat} {pb : Option Addr} {nb cb : Nat} {pq : Option Addr} {nq cq : Nat} {lp lq la lb : List Nat} {w : World} (hs : ∀ x ∈ [(pa, na, ca), (pp, np, cp), (pb, nb, cb), (pq, nq, cq)], x.2.1 ≤ 40) (hw : (∀ x ∈ [(pp, np, cp), (pq, nq, cq)], x.2.1 ≤ 6) ∨ ((∃ x ∈ [(pp, np, cp), (pq, nq, cq)], 6 < x.2.1) ∧ 34 ≤ np + nq ∧ np + nq ≤ 80)) (ha : Nw w pa na ca la) (hp : Nw w pp np cp lp) (hb : Nw w pb nb cb lb) (hq : Nw w pq nq cq lq) (hr : ∀ W, Gr w W → Calls Try.prog 35 #[.agg #[.slice pa na ca], .agg #[.slice pp np cp], .agg #[.slice pb nb cb], .agg #[.slice pq nq cq]] W (HasE 0 1 W)) (tp : im lp = true) (tq : im lq = false) :
    Calls Try.prog 6 #[.agg #[.slice pa na ca], .agg #[.slice pp np cp], .agg #[.slice pb nb cb], .agg #[.slice pq nq cq]] w fun e w' => e = .returned (.bool true) ∧ Gr w w' := by
  have HS := Lib.hid hs
  have HW := Lib.hid hw
  clear hs hw
  have HR := Lib.hid hr
  clear hr
  have Tp := Lib.hid tp
  clear tp
  have Tq := Lib.hid tq
  clear tq
  have H := Sta.start w
  replace H := H.add (keepWs _ _ _ _) ha
  replace H := H.add (keepWs _ _ _ _) hp
  replace H := H.add (keepWs _ _ _ _) hb
  replace H := H.add (keepWs _ _ _ _) hq
  go_enter Try.func6, Try.ntmps6
  go_upto_region 0 with fail
  refine Kr.seqStartW ?_
  refine Kr.seqR (by rfl) (fun K hK => ?_)
  go_simp
  obtain ⟨y1, hy⟩ : ∃ y, w.alloc (.cells #[.slice pa na ca] 24) = y := ⟨_, rfl⟩
  obtain ⟨ba, hb⟩ : ∃ b, w.heap.size = b := ⟨_, rfl⟩
  rw [hy, hb]
  replace H := H.alloc hy hb rfl
  clear hy hb
  (refine Kr.outS hK (a' := ?_) ?_ ?_; rotate_left; (focus ((try simp only [Act.put, List.setIfInBounds_toArray, List.set_cons_zero, List.set_cons_succ]); first | done | rfl))); clear hK K
  refine Kr.seqR (by rfl) (fun K hK => ?_)
  go_simp
  obtain ⟨y2, hy⟩ : ∃ y, y1.alloc (.cells #[.slice pp np cp] 24) = y := ⟨_, rfl⟩
  obtain ⟨bp, hb⟩ : ∃ b, y1.heap.size = b := ⟨_, rfl⟩
  rw [hy, hb]
  replace H := H.alloc hy hb rfl
  clear hy hb
  (refine Kr.outS hK (a' := ?_) ?_ ?_; rotate_left; (focus ((try simp only [Act.put, List.setIfInBounds_toArray, List.set_cons_zero, List.set_cons_succ]); first | done | rfl))); clear hK K
  refine Kr.seqR (by rfl) (fun K hK => ?_)
  go_simp
  obtain ⟨y3, hy⟩ : ∃ y, y2.alloc (.cells #[.slice pb nb cb] 24) = y := ⟨_, rfl⟩
  obtain ⟨bb, hb⟩ : ∃ b, y2.heap.size = b := ⟨_, rfl⟩
  rw [hy, hb]
  replace H := H.alloc hy hb rfl
  clear hy hb
  (refine Kr.outS hK (a' := ?_) ?_ ?_; rotate_left; (focus ((try simp only [Act.put, List.setIfInBounds_toArray, List.set_cons_zero, List.set_cons_succ]); first | done | rfl))); clear hK K
  refine Kr.seqR (by rfl) (fun K hK => ?_)
  go_simp
  obtain ⟨y4, hy⟩ : ∃ y, y3.alloc (.cells #[.slice pq nq cq] 24) = y := ⟨_, rfl⟩
  obtain ⟨bq, hb⟩ : ∃ b, y3.heap.size = b := ⟨_, rfl⟩
  rw [hy, hb]
  replace H := H.alloc hy hb rfl
  clear hy hb
  (refine Kr.outS hK (a' := ?_) ?_ ?_; rotate_left; (focus ((try simp only [Act.put, List.setIfInBounds_toArray, List.set_cons_zero, List.set_cons_succ]); first | done | rfl))); clear hK K
  (refine Kr.seqQ (v := ?_) (a' := ?_) (by rfl) ?_ ?_ ?_; rotate_left 2; (focus (go_simp; first | done | rfl)); (focus ((try simp only [Act.put, List.setIfInBounds_toArray, List.set_cons_zero, List.set_cons_succ]); first | done | rfl)))
  refine Kr.seqDoneW ?_
  go_upto_region 1 with fail
  go_cut [39] from 12 to 38 (fun s39 W => s39 = .bool false ∧ Hid (Sta w W [(bq, 0, .slice pq nq cq), (bb, 0, .slice pb nb cb), (bp, 0, .slice pp np cp), (ba, 0, .slice pa na ca)] [Ws pq nq cq lq, Ws pb nb cb lb, Ws pp np cp lp, Ws pa na ca la]))
  case first =>
    rcases HW.out with h6 | ⟨hg, hl, hu⟩
    · have HS6 := Lib.hid h6
      clear h6
      refine Kr.seqStartW ?_
      refine Kr.seqR (by rfl) (fun K hK => ?_)
      go_simp
      go_at_call 18
      refine (awake3 _).mono ?_
      rintro e y5 ⟨rfl, hg⟩
      replace H := H.grow hg
      clear hg
      (refine Kr.outS hK (a' := ?_) ?_ ?_; rotate_left; (focus ((try simp only [Act.put, List.setIfInBounds_toArray, List.set_cons_zero, List.set_cons_succ]); first | done | rfl))); clear hK K
      iterate 2 (refine Kr.seqQ (v := ?_) (a' := ?_) (by rfl) ?_ ?_ ?_; rotate_left 2; (focus (go_simp; first | done | rfl)); (focus ((try simp only [Act.put, List.setIfInBounds_toArray, List.set_cons_zero, List.set_cons_succ]); first | done | rfl)))
      have hk := H.c
      simp only [Kr.Cells] at hk
      iterate 4 (refine Kr.seqQ (v := ?_) (a' := ?_) (by rfl) ?_ ?_ ?_; rotate_left 2; (focus (go_simp; first | done | rfl)); (focus ((try simp only [Act.put, List.setIfInBounds_toArray, List.set_cons_zero, List.set_cons_succ]); first | done | rfl)))
      refine Kr.seqR (by rfl) (fun K hK => ?_)
      go_simp
      clear hk
      obtain ⟨y6, hy⟩ : ∃ y, y5.alloc (.cells #[.slice pa na ca, .slice pp np cp, .slice pb nb cb, .slice pq nq cq] 24) = y := ⟨_, rfl⟩
      obtain ⟨by6, hb⟩ : ∃ b, y5.heap.size = b := ⟨_, rfl⟩
      rw [hy, hb]
      have HN : Nats y6 by6 0 [(pa, na, ca), (pp, np, cp), (pb, nb, cb), (pq, nq, cq)] := nats_mk hy hb
      have hg : Gr y5 y6 := hy ▸ (Gr.refl _).alloc _
      replace H := H.grow hg
      clear hg hy hb
      (refine Kr.outS hK (a' := ?_) ?_ ?_; rotate_left; (focus ((try simp only [Act.put, List.setIfInBounds_toArray, List.set_cons_zero, List.set_cons_succ]); first | done | rfl))); clear hK K
      refine Kr.seqR (by rfl) (fun K hK => ?_)
      go_simp
      go_at_call 19
      go_at_call 19
      refine (few_ok HN (by simp) HS.out).mono ?_
      rintro e y7 ⟨rfl, hg⟩
      replace H := H.grow hg
      clear hg
      clear HN
      (refine Kr.outS hK (a' := ?_) ?_ ?_; rotate_left; (focus ((try simp only [Act.put, List.setIfInBounds_toArray, List.set_cons_zero, List.set_cons_succ]); first | done | rfl))); clear hK K
      iterate 3 (refine Kr.seqQ (v := ?_) (a' := ?_) (by rfl) ?_ ?_ ?_; rotate_left 2; (focus (go_simp; first | done | rfl)); (focus ((try simp only [Act.put, List.setIfInBounds_toArray, List.set_cons_zero, List.set_cons_succ]); first | done | rfl)))
      have hk := H.c
      simp only [Kr.Cells] at hk
      iterate 2 (refine Kr.seqQ (v := ?_) (a' := ?_) (by rfl) ?_ ?_ ?_; rotate_left 2; (focus (go_simp; first | done | rfl)); (focus ((try simp only [Act.put, List.setIfInBounds_toArray, List.set_cons_zero, List.set_cons_succ]); first | done | rfl)))
      refine Kr.seqR (by rfl) (fun K hK => ?_)
      go_simp
      clear hk
      obtain ⟨y8, hy⟩ : ∃ y, y7.alloc (.cells #[.slice pp np cp, .slice pq nq cq] 24) = y := ⟨_, rfl⟩
      obtain ⟨by8, hb⟩ : ∃ b, y7.heap.size = b := ⟨_, rfl⟩
      rw [hy, hb]
      have HN : Nats y8 by8 0 [(pp, np, cp), (pq, nq, cq)] := nats_mk hy hb
      have hg : Gr y7 y8 := hy ▸ (Gr.refl _).alloc _
      replace H := H.grow hg
      clear hg hy hb
      (refine Kr.outS hK (a' := ?_) ?_ ?_; rotate_left; (focus ((try simp only [Act.put, List.setIfInBounds_toArray, List.set_cons_zero, List.set_cons_succ]); first | done | rfl))); clear hK K
      refine Kr.seqR (by rfl) (fun K hK => ?_)
      go_simp
      go_at_call 19
      go_at_call 19
      refine (few_ok HN (by simp) HS6.out).mono ?_
      rintro e y9 ⟨rfl, hg⟩
      replace H := H.grow hg
      clear hg
      clear HN
      (refine Kr.outS hK (a' := ?_) ?_ ?_; rotate_left; (focus ((try simp only [Act.put, List.setIfInBounds_toArray, List.set_cons_zero, List.set_cons_succ]); first | done | rfl))); clear hK K
      iterate 2 (refine Kr.seqQ (v := ?_) (a' := ?_) (by rfl) ?_ ?_ ?_; rotate_left 2; (focus (go_simp; first | done | rfl)); (focus ((try simp only [Act.put, List.setIfInBounds_toArray, List.set_cons_zero, List.set_cons_succ]); first | done | rfl)))
      (refine Kr.seqSkipQ (a' := ?_) (by rfl) ?_ ?_; rotate_left; (focus ((try simp only [Act.put, List.setIfInBounds_toArray, List.set_cons_zero, List.set_cons_succ]); first | done | rfl)))
      (refine Kr.seqSkipQ (a' := ?_) (by rfl) ?_ ?_; rotate_left; (focus ((try simp only [Act.put, List.setIfInBounds_toArray, List.set_cons_zero, List.set_cons_succ]); first | done | rfl)))
      (refine Kr.seqSkipQ (a' := ?_) (by rfl) ?_ ?_; rotate_left; (focus ((try simp only [Act.put, List.setIfInBounds_toArray, List.set_cons_zero, List.set_cons_succ]); first | done | rfl)))
      (refine Kr.seqSkipQ (a' := ?_) (by rfl) ?_ ?_; rotate_left; (focus ((try simp only [Act.put, List.setIfInBounds_toArray, List.set_cons_zero, List.set_cons_succ]); first | done | rfl)))
      (refine Kr.seqSkipQ (a' := ?_) (by rfl) ?_ ?_; rotate_left; (focus ((try simp only [Act.put, List.setIfInBounds_toArray, List.set_cons_zero, List.set_cons_succ]); first | done | rfl)))
      (refine Kr.seqSkipQ (a' := ?_) (by rfl) ?_ ?_; rotate_left; (focus ((try simp only [Act.put, List.setIfInBounds_toArray, List.set_cons_zero, List.set_cons_succ]); first | done | rfl)))
      (refine Kr.seqSkipQ (a' := ?_) (by rfl) ?_ ?_; rotate_left; (focus ((try simp only [Act.put, List.setIfInBounds_toArray, List.set_cons_zero, List.set_cons_succ]); first | done | rfl)))
      (refine Kr.seqSkipQ (a' := ?_) (by rfl) ?_ ?_; rotate_left; (focus ((try simp only [Act.put, List.setIfInBounds_toArray, List.set_cons_zero, List.set_cons_succ]); first | done | rfl)))
      iterate 2 (refine Kr.seqQ (v := ?_) (a' := ?_) (by rfl) ?_ ?_ ?_; rotate_left 2; (focus (go_simp; first | done | rfl)); (focus ((try simp only [Act.put, List.setIfInBounds_toArray, List.set_cons_zero, List.set_cons_succ]); first | done | rfl)))
      refine Kr.seqDoneW ?_
      go_wp2_with fail
      go_meet
      exact ⟨rfl, Lib.hid H⟩
    · have HG := Lib.hid hg
      have hLL : IntKind.i64.wrap ((np : Int) + (nq : Int)) = (np : Int) + (nq : Int) := IntWalk.i64_in _ (by omega)
      have hl2 : ¬ (np : Int) + (nq : Int) < 34 := by omega
      clear hg
      refine Kr.seqStartW ?_
      refine Kr.seqR (by rfl) (fun K hK => ?_)
      go_simp
      go_at_call 18
      refine (awake3 _).mono ?_
      rintro e y10 ⟨rfl, hg⟩
      replace H := H.grow hg
      clear hg
      (refine Kr.outS hK (a' := ?_) ?_ ?_; rotate_left; (focus ((try simp only [Act.put, List.setIfInBounds_toArray, List.set_cons_zero, List.set_cons_succ]); first | done | rfl))); clear hK K
      iterate 2 (refine Kr.seqQ (v := ?_) (a' := ?_) (by rfl) ?_ ?_ ?_; rotate_left 2; (focus (go_simp; first | done | rfl)); (focus ((try simp only [Act.put, List.setIfInBounds_toArray, List.set_cons_zero, List.set_cons_succ]); first | done | rfl)))
      have hk := H.c
      simp only [Kr.Cells] at hk
      iterate 4 (refine Kr.seqQ (v := ?_) (a' := ?_) (by rfl) ?_ ?_ ?_; rotate_left 2; (focus (go_simp; first | done | rfl)); (focus ((try simp only [Act.put, List.setIfInBounds_toArray, List.set_cons_zero, List.set_cons_succ]); first | done | rfl)))
      refine Kr.seqR (by rfl) (fun K hK => ?_)
      go_simp
      clear hk
      obtain ⟨y11, hy⟩ : ∃ y, y10.alloc (.cells #[.slice pa na ca, .slice pp np cp, .slice pb nb cb, .slice pq nq cq] 24) = y := ⟨_, rfl⟩
      obtain ⟨by11, hb⟩ : ∃ b, y10.heap.size = b := ⟨_, rfl⟩
      rw [hy, hb]
      have HN : Nats y11 by11 0 [(pa, na, ca), (pp, np, cp), (pb, nb, cb), (pq, nq, cq)] := nats_mk hy hb
      have hg : Gr y10 y11 := hy ▸ (Gr.refl _).alloc _
      replace H := H.grow hg
      clear hg hy hb
      (refine Kr.outS hK (a' := ?_) ?_ ?_; rotate_left; (focus ((try simp only [Act.put, List.setIfInBounds_toArray, List.set_cons_zero, List.set_cons_succ]); first | done | rfl))); clear hK K
      refine Kr.seqR (by rfl) (fun K hK => ?_)
      go_simp
      go_at_call 19
      go_at_call 19
      refine (few_ok HN (by simp) HS.out).mono ?_
      rintro e y12 ⟨rfl, hg⟩
      replace H := H.grow hg
      clear hg
      clear HN
      (refine Kr.outS hK (a' := ?_) ?_ ?_; rotate_left; (focus ((try simp only [Act.put, List.setIfInBounds_toArray, List.set_cons_zero, List.set_cons_succ]); first | done | rfl))); clear hK K
      iterate 3 (refine Kr.seqQ (v := ?_) (a' := ?_) (by rfl) ?_ ?_ ?_; rotate_left 2; (focus (go_simp; first | done | rfl)); (focus ((try simp only [Act.put, List.setIfInBounds_toArray, List.set_cons_zero, List.set_cons_succ]); first | done | rfl)))
      have hk := H.c
      simp only [Kr.Cells] at hk
      iterate 2 (refine Kr.seqQ (v := ?_) (a' := ?_) (by rfl) ?_ ?_ ?_; rotate_left 2; (focus (go_simp; first | done | rfl)); (focus ((try simp only [Act.put, List.setIfInBounds_toArray, List.set_cons_zero, List.set_cons_succ]); first | done | rfl)))
      refine Kr.seqR (by rfl) (fun K hK => ?_)
      go_simp
      clear hk
      obtain ⟨y13, hy⟩ : ∃ y, y12.alloc (.cells #[.slice pp np cp, .slice pq nq cq] 24) = y := ⟨_, rfl⟩
      obtain ⟨by13, hb⟩ : ∃ b, y12.heap.size = b := ⟨_, rfl⟩
      rw [hy, hb]
      have HN : Nats y13 by13 0 [(pp, np, cp), (pq, nq, cq)] := nats_mk hy hb
      have hg : Gr y12 y13 := hy ▸ (Gr.refl _).alloc _
      replace H := H.grow hg
      clear hg hy hb
      (refine Kr.outS hK (a' := ?_) ?_ ?_; rotate_left; (focus ((try simp only [Act.put, List.setIfInBounds_toArray, List.set_cons_zero, List.set_cons_succ]); first | done | rfl))); clear hK K
      refine Kr.seqR (by rfl) (fun K hK => ?_)
      go_simp
      go_at_call 19
      go_at_call 19
      refine (few_no HN (by simp) HG.out).mono ?_
      rintro e y14 ⟨rfl, hg⟩
      replace H := H.grow hg
      clear hg
      clear HN
      (refine Kr.outS hK (a' := ?_) ?_ ?_; rotate_left; (focus ((try simp only [Act.put, List.setIfInBounds_toArray, List.set_cons_zero, List.set_cons_succ]); first | done | rfl))); clear hK K
      iterate 3 (refine Kr.seqQ (v := ?_) (a' := ?_) (by rfl) ?_ ?_ ?_; rotate_left 2; (focus (go_simp; first | done | rfl)); (focus ((try simp only [Act.put, List.setIfInBounds_toArray, List.set_cons_zero, List.set_cons_succ]); first | done | rfl)))
      have hk := H.c
      simp only [Kr.Cells] at hk
      iterate 9 (refine Kr.seqQ (v := ?_) (a' := ?_) (by rfl) ?_ ?_ ?_; rotate_left 2; (focus (go_simp; first | done | rfl)); (focus ((try simp only [Act.put, List.setIfInBounds_toArray, List.set_cons_zero, List.set_cons_succ]); first | done | rfl)))
      clear hk
      refine Kr.seqDoneW ?_
      go_wp2_with fail
      go_meet
      exact ⟨rfl, Lib.hid H⟩
  case rest =>
    clear H
    obtain ⟨rfl, HH⟩ := hcut
    have H := HH.out
    clear HH
    go_upto_region 3 with fail
    refine Kr.seqStartW ?_
    have hk := H.c
    simp only [Kr.Cells] at hk
    iterate 4 (refine Kr.seqQ (v := ?_) (a' := ?_) (by rfl) ?_ ?_ ?_; rotate_left 2; (focus (go_simp; first | done | rfl)); (focus ((try simp only [Act.put, List.setIfInBounds_toArray, List.set_cons_zero, List.set_cons_succ]); first | done | rfl)))
    refine Kr.seqR (by rfl) (fun K hK => ?_)
    go_simp
    go_at_call 35
    refine (HR.out _ H.g).mono ?_
    rintro e y15 ⟨p15, n15, c15, rfl, hr, hg⟩
    obtain rfl : n15 = 0 := by rw [← hr.len, digs_zero]; rfl
    clear hk
    replace H := H.grow hg
    clear hr hg
    (refine Kr.outS hK (a' := ?_) ?_ ?_; rotate_left; (focus ((try simp only [Act.put, List.setIfInBounds_toArray, List.set_cons_zero, List.set_cons_succ]); first | done | rfl))); clear hK K
    iterate 3 (refine Kr.seqQ (v := ?_) (a' := ?_) (by rfl) ?_ ?_ ?_; rotate_left 2; (focus (go_simp; first | done | rfl)); (focus ((try simp only [Act.put, List.setIfInBounds_toArray, List.set_cons_zero, List.set_cons_succ]); first | done | rfl)))
    refine Kr.seqR (by rfl) (fun K hK => ?_)
    go_simp
    obtain ⟨y16, hy⟩ : ∃ y, y15.alloc (.cells #[.slice none 0 0] 24) = y := ⟨_, rfl⟩
    obtain ⟨bx, hb⟩ : ∃ b, y15.heap.size = b := ⟨_, rfl⟩
    rw [hy, hb]
    replace H := H.alloc hy hb rfl
    clear hy hb
    (refine Kr.outS hK (a' := ?_) ?_ ?_; rotate_left; (focus ((try simp only [Act.put, List.setIfInBounds_toArray, List.set_cons_zero, List.set_cons_succ]); first | done | rfl))); clear hK K
    have hk := H.c
    simp only [Kr.Cells] at hk
    refine Kr.seqR (by rfl) (fun K hK => ?_)
    go_simp
    clear hk
    obtain ⟨y17, hy⟩ : ∃ y, y16.setCell ⟨bx, 0, none⟩ (.slice p15 0 c15) = y := ⟨_, rfl⟩
    rw [hy]
    replace H := H.store 0 hy rfl rfl
    dsimp only [List.set] at H
    clear hy
    (refine Kr.outS hK (a' := ?_) ?_ ?_; rotate_left; (focus ((try simp only [Act.put, List.setIfInBounds_toArray, List.set_cons_zero, List.set_cons_succ]); first | done | rfl))); clear hK K
    (refine Kr.seqQ (v := ?_) (a' := ?_) (by rfl) ?_ ?_ ?_; rotate_left 2; (focus (go_simp; first | done | rfl)); (focus ((try simp only [Act.put, List.setIfInBounds_toArray, List.set_cons_zero, List.set_cons_succ]); first | done | rfl)))
    refine Kr.seqDoneW ?_
    go_upto_region 4 with fail
    refine Kr.seqStartW ?_
    (refine Kr.seqQ (v := ?_) (a' := ?_) (by rfl) ?_ ?_ ?_; rotate_left 2; (focus (go_simp; first | done | rfl)); (focus ((try simp only [Act.put, List.setIfInBounds_toArray, List.set_cons_zero, List.set_cons_succ]); first | done | rfl)))
    refine Kr.seqDoneW ?_
    go_upto_region 5 with fail
    refine Kr.seqStartW ?_
    have hk := H.c
    simp only [Kr.Cells] at hk
    (refine Kr.seqQ (v := ?_) (a' := ?_) (by rfl) ?_ ?_ ?_; rotate_left 2; (focus (go_simp; first | done | rfl)); (focus ((try simp only [Act.put, List.setIfInBounds_toArray, List.set_cons_zero, List.set_cons_succ]); first | done | rfl)))
    refine Kr.seqR (by rfl) (fun K hK => ?_)
    go_simp
    go_at_call 22
    refine (first_nil (H.ws 2 rfl)).mono ?_
    rintro e y18 ⟨rfl, hg⟩
    rw [Tp.out, if_pos rfl]
    clear hk
    replace H := H.grow hg
    clear hg
    (refine Kr.outS hK (a' := ?_) ?_ ?_; rotate_left; (focus ((try simp only [Act.put, List.setIfInBounds_toArray, List.set_cons_zero, List.set_cons_succ]); first | done | rfl))); clear hK K
    iterate 2 (refine Kr.seqQ (v := ?_) (a' := ?_) (by rfl) ?_ ?_ ?_; rotate_left 2; (focus (go_simp; first | done | rfl)); (focus ((try simp only [Act.put, List.setIfInBounds_toArray, List.set_cons_zero, List.set_cons_succ]); first | done | rfl)))
    have hk := H.c
    simp only [Kr.Cells] at hk
    (refine Kr.seqQ (v := ?_) (a' := ?_) (by rfl) ?_ ?_ ?_; rotate_left 2; (focus (go_simp; first | done | rfl)); (focus ((try simp only [Act.put, List.setIfInBounds_toArray, List.set_cons_zero, List.set_cons_succ]); first | done | rfl)))
    refine Kr.seqR (by rfl) (fun K hK => ?_)
    go_simp
    go_at_call 22
    refine (first_nil (H.ws 0 rfl)).mono ?_
    rintro e y19 ⟨rfl, hg⟩
    rw [Tq.out, if_neg (by decide)]
    clear hk
    replace H := H.grow hg
    clear hg
    (refine Kr.outS hK (a' := ?_) ?_ ?_; rotate_left; (focus ((try simp only [Act.put, List.setIfInBounds_toArray, List.set_cons_zero, List.set_cons_succ]); first | done | rfl))); clear hK K
    iterate 3 (refine Kr.seqQ (v := ?_) (a' := ?_) (by rfl) ?_ ?_ ?_; rotate_left 2; (focus (go_simp; first | done | rfl)); (focus ((try simp only [Act.put, List.setIfInBounds_toArray, List.set_cons_zero, List.set_cons_succ]); first | done | rfl)))
    (refine Kr.seqSkipQ (a' := ?_) (by rfl) ?_ ?_; rotate_left; (focus ((try simp only [Act.put, List.setIfInBounds_toArray, List.set_cons_zero, List.set_cons_succ]); first | done | rfl)))
    (refine Kr.seqSkipQ (a' := ?_) (by rfl) ?_ ?_; rotate_left; (focus ((try simp only [Act.put, List.setIfInBounds_toArray, List.set_cons_zero, List.set_cons_succ]); first | done | rfl)))
    (refine Kr.seqSkipQ (a' := ?_) (by rfl) ?_ ?_; rotate_left; (focus ((try simp only [Act.put, List.setIfInBounds_toArray, List.set_cons_zero, List.set_cons_succ]); first | done | rfl)))
    iterate 2 (refine Kr.seqQ (v := ?_) (a' := ?_) (by rfl) ?_ ?_ ?_; rotate_left 2; (focus (go_simp; first | done | rfl)); (focus ((try simp only [Act.put, List.setIfInBounds_toArray, List.set_cons_zero, List.set_cons_succ]); first | done | rfl)))
    (refine Kr.seqSkipQ (a' := ?_) (by rfl) ?_ ?_; rotate_left; (focus ((try simp only [Act.put, List.setIfInBounds_toArray, List.set_cons_zero, List.set_cons_succ]); first | done | rfl)))
    (refine Kr.seqSkipQ (a' := ?_) (by rfl) ?_ ?_; rotate_left; (focus ((try simp only [Act.put, List.setIfInBounds_toArray, List.set_cons_zero, List.set_cons_succ]); first | done | rfl)))
    (refine Kr.seqSkipQ (a' := ?_) (by rfl) ?_ ?_; rotate_left; (focus ((try simp only [Act.put, List.setIfInBounds_toArray, List.set_cons_zero, List.set_cons_succ]); first | done | rfl)))
    iterate 2 (refine Kr.seqQ (v := ?_) (a' := ?_) (by rfl) ?_ ?_ ?_; rotate_left 2; (focus (go_simp; first | done | rfl)); (focus ((try simp only [Act.put, List.setIfInBounds_toArray, List.set_cons_zero, List.set_cons_succ]); first | done | rfl)))
    refine Kr.seqDoneW ?_
    go_upto_region 6 with fail
    refine Kr.seqStartW ?_
    (refine Kr.seqQ (v := ?_) (a' := ?_) (by rfl) ?_ ?_ ?_; rotate_left 2; (focus (go_simp; first | done | rfl)); (focus ((try simp only [Act.put, List.setIfInBounds_toArray, List.set_cons_zero, List.set_cons_succ]); first | done | rfl)))
    refine Kr.seqDoneW ?_
    go_upto_region 13 with fail
    refine Kr.seqStartW ?_
    iterate 2 (refine Kr.seqQ (v := ?_) (a' := ?_) (by rfl) ?_ ?_ ?_; rotate_left 2; (focus (go_simp; first | done | rfl)); (focus ((try simp only [Act.put, List.setIfInBounds_toArray, List.set_cons_zero, List.set_cons_succ]); first | done | rfl)))
    refine Kr.seqDoneW ?_
    go_upto_region 14 with fail
    refine Kr.seqStartW ?_
    (refine Kr.seqQ (v := ?_) (a' := ?_) (by rfl) ?_ ?_ ?_; rotate_left 2; (focus (go_simp; first | done | rfl)); (focus ((try simp only [Act.put, List.setIfInBounds_toArray, List.set_cons_zero, List.set_cons_succ]); first | done | rfl)))
    have hk := H.c
    simp only [Kr.Cells] at hk
    iterate 9 (refine Kr.seqQ (v := ?_) (a' := ?_) (by rfl) ?_ ?_ ?_; rotate_left 2; (focus (go_simp; first | done | rfl)); (focus ((try simp only [Act.put, List.setIfInBounds_toArray, List.set_cons_zero, List.set_cons_succ]); first | done | rfl)))
    clear hk
    refine Kr.seqDoneW ?_
    go_wp2
    go_ret
    exact ⟨rfl, H.g⟩
set_option linter.unusedSimpArgs false in
set_option maxRecDepth 100000 in
set_option maxHeartbeats 16000000 in
theorem crt_any_bad_a {pa : Option Addr} {na ca : Nat} {pp : Option Addr} {np cp : Nat} {pb : Option Addr} {nb cb : Nat} {pq : Option Addr} {nq cq : Nat} {lp lq la lb : List Nat} {w : World} (hs : ∀ x ∈ [(pa, na, ca), (pp, np, cp), (pb, nb, cb), (pq, nq, cq)], x.2.1 ≤ 40) (hw : (∀ x ∈ [(pp, np, cp), (pq, nq, cq)], x.2.1 ≤ 6) ∨ ((∃ x ∈ [(pp, np, cp), (pq, nq, cq)], 6 < x.2.1) ∧ 34 ≤ np + nq ∧ np + nq ≤ 80)) (ha : Nw w pa na ca la) (hp : Nw w pp np cp lp) (hb : Nw w pb nb cb lb) (hq : Nw w pq nq cq lq) (hr : ∀ W, Gr w W → Calls Try.prog 35 #[.agg #[.slice pa na ca], .agg #[.slice pp np cp], .agg #[.slice pb nb cb], .agg #[.slice pq nq cq]] W (HasE 0 1 W)) (tp : im lp = true) (tq : im lq = true) (ta : decide (valid la) = false) :
    Calls Try.prog 6 #[.agg #[.slice pa na ca], .agg #[.slice pp np cp], .agg #[.slice pb nb cb], .agg #[.slice pq nq cq]] w fun e w' => e = .returned (.bool true) ∧ Gr w w' := by
  have HS := Lib.hid hs
  have HW := Lib.hid hw
  clear hs hw
  have HR := Lib.hid hr
  clear hr
  have Tp := Lib.hid tp
  clear tp
  have Tq := Lib.hid tq
  clear tq
  have Ta := Lib.hid ta
  clear ta
  have H := Sta.start w
  replace H := H.add (keepWs _ _ _ _) ha
  replace H := H.add (keepWs _ _ _ _) hp
  replace H := H.add (keepWs _ _ _ _) hb
  replace H := H.add (keepWs _ _ _ _) hq
  go_enter Try.func6, Try.ntmps6
  go_upto_region 0 with fail
  refine Kr.seqStartW ?_
  refine Kr.seqR (by rfl) (fun K hK => ?_)
  go_simp
  obtain ⟨y1, hy⟩ : ∃ y, w.alloc (.cells #[.slice pa na ca] 24) = y := ⟨_, rfl⟩
  obtain ⟨ba, hb⟩ : ∃ b, w.heap.size = b := ⟨_, rfl⟩
  rw [hy, hb]
  replace H := H.alloc hy hb rfl
  clear hy hb
  (refine Kr.outS hK (a' := ?_) ?_ ?_; rotate_left; (focus ((try simp only [Act.put, List.setIfInBounds_toArray, List.set_cons_zero, List.set_cons_succ]); first | done | rfl))); clear hK K
  refine Kr.seqR (by rfl) (fun K hK => ?_)
  go_simp
  obtain ⟨y2, hy⟩ : ∃ y, y1.alloc (.cells #[.slice pp np cp] 24) = y := ⟨_, rfl⟩
  obtain ⟨bp, hb⟩ : ∃ b, y1.heap.size = b := ⟨_, rfl⟩
  rw [hy, hb]
  replace H := H.alloc hy hb rfl
  clear hy hb
  (refine Kr.outS hK (a' := ?_) ?_ ?_; rotate_left; (focus ((try simp only [Act.put, List.setIfInBounds_toArray, List.set_cons_zero, List.set_cons_succ]); first | done | rfl))); clear hK K
  refine Kr.seqR (by rfl) (fun K hK => ?_)
  go_simp
  obtain ⟨y3, hy⟩ : ∃ y, y2.alloc (.cells #[.slice pb nb cb] 24) = y := ⟨_, rfl⟩
  obtain ⟨bb, hb⟩ : ∃ b, y2.heap.size = b := ⟨_, rfl⟩
  rw [hy, hb]
  replace H := H.alloc hy hb rfl
  clear hy hb
  (refine Kr.outS hK (a' := ?_) ?_ ?_; rotate_left; (focus ((try simp only [Act.put, List.setIfInBounds_toArray, List.set_cons_zero, List.set_cons_succ]); first | done | rfl))); clear hK K
  refine Kr.seqR (by rfl) (fun K hK => ?_)
  go_simp
  obtain ⟨y4, hy⟩ : ∃ y, y3.alloc (.cells #[.slice pq nq cq] 24) = y := ⟨_, rfl⟩
  obtain ⟨bq, hb⟩ : ∃ b, y3.heap.size = b := ⟨_, rfl⟩
  rw [hy, hb]
  replace H := H.alloc hy hb rfl
  clear hy hb
  (refine Kr.outS hK (a' := ?_) ?_ ?_; rotate_left; (focus ((try simp only [Act.put, List.setIfInBounds_toArray, List.set_cons_zero, List.set_cons_succ]); first | done | rfl))); clear hK K
  (refine Kr.seqQ (v := ?_) (a' := ?_) (by rfl) ?_ ?_ ?_; rotate_left 2; (focus (go_simp; first | done | rfl)); (focus ((try simp only [Act.put, List.setIfInBounds_toArray, List.set_cons_zero, List.set_cons_succ]); first | done | rfl)))
  refine Kr.seqDoneW ?_
  go_upto_region 1 with fail
  go_cut [39] from 12 to 38 (fun s39 W => s39 = .bool false ∧ Hid (Sta w W [(bq, 0, .slice pq nq cq), (bb, 0, .slice pb nb cb), (bp, 0, .slice pp np cp), (ba, 0, .slice pa na ca)] [Ws pq nq cq lq, Ws pb nb cb lb, Ws pp np cp lp, Ws pa na ca la]))
  case first =>
    rcases HW.out with h6 | ⟨hg, hl, hu⟩
    · have HS6 := Lib.hid h6
      clear h6
      refine Kr.seqStartW ?_
      refine Kr.seqR (by rfl) (fun K hK => ?_)
      go_simp
      go_at_call 18
      refine (awake3 _).mono ?_
      rintro e y5 ⟨rfl, hg⟩
      replace H := H.grow hg
      clear hg
      (refine Kr.outS hK (a' := ?_) ?_ ?_; rotate_left; (focus ((try simp only [Act.put, List.setIfInBounds_toArray, List.set_cons_zero, List.set_cons_succ]); first | done | rfl))); clear hK K
      iterate 2 (refine Kr.seqQ (v := ?_) (a' := ?_) (by rfl) ?_ ?_ ?_; rotate_left 2; (focus (go_simp; first | done | rfl)); (focus ((try simp only [Act.put, List.setIfInBounds_toArray, List.set_cons_zero, List.set_cons_succ]); first | done | rfl)))
      have hk := H.c
      simp only [Kr.Cells] at hk
      iterate 4 (refine Kr.seqQ (v := ?_) (a' := ?_) (by rfl) ?_ ?_ ?_; rotate_left 2; (focus (go_simp; first | done | rfl)); (focus ((try simp only [Act.put, List.setIfInBounds_toArray, List.set_cons_zero, List.set_cons_succ]); first | done | rfl)))
      refine Kr.seqR (by rfl) (fun K hK => ?_)
      go_simp
      clear hk
      obtain ⟨y6, hy⟩ : ∃ y, y5.alloc (.cells #[.slice pa na ca, .slice pp np cp, .slice pb nb cb, .slice pq nq cq] 24) = y := ⟨_, rfl⟩
      obtain ⟨by6, hb⟩ : ∃ b, y5.heap.size = b := ⟨_, rfl⟩
      rw [hy, hb]
      have HN : Nats y6 by6 0 [(pa, na, ca), (pp, np, cp), (pb, nb, cb), (pq, nq, cq)] := nats_mk hy hb
      have hg : Gr y5 y6 := hy ▸ (Gr.refl _).alloc _
      replace H := H.grow hg
      clear hg hy hb
      (refine Kr.outS hK (a' := ?_) ?_ ?_; rotate_left; (focus ((try simp only [Act.put, List.setIfInBounds_toArray, List.set_cons_zero, List.set_cons_succ]); first | done | rfl))); clear hK K
      refine Kr.seqR (by rfl) (fun K hK => ?_)
      go_simp
      go_at_call 19
      go_at_call 19
      refine (few_ok HN (by simp) HS.out).mono ?_
      rintro e y7 ⟨rfl, hg⟩
      replace H := H.grow hg
      clear hg
      clear HN
      (refine Kr.outS hK (a' := ?_) ?_ ?_; rotate_left; (focus ((try simp only [Act.put, List.setIfInBounds_toArray, List.set_cons_zero, List.set_cons_succ]); first | done | rfl))); clear hK K
      iterate 3 (refine Kr.seqQ (v := ?_) (a' := ?_) (by rfl) ?_ ?_ ?_; rotate_left 2; (focus (go_simp; first | done | rfl)); (focus ((try simp only [Act.put, List.setIfInBounds_toArray, List.set_cons_zero, List.set_cons_succ]); first | done | rfl)))
      have hk := H.c
      simp only [Kr.Cells] at hk
      iterate 2 (refine Kr.seqQ (v := ?_) (a' := ?_) (by rfl) ?_ ?_ ?_; rotate_left 2; (focus (go_simp; first | done | rfl)); (focus ((try simp only [Act.put, List.setIfInBounds_toArray, List.set_cons_zero, List.set_cons_succ]); first | done | rfl)))
      refine Kr.seqR (by rfl) (fun K hK => ?_)
      go_simp
      clear hk
      obtain ⟨y8, hy⟩ : ∃ y, y7.alloc (.cells #[.slice pp np cp, .slice pq nq cq] 24) = y := ⟨_, rfl⟩
      obtain ⟨by8, hb⟩ : ∃ b, y7.heap.size = b := ⟨_, rfl⟩
      rw [hy, hb]
      have HN : Nats y8 by8 0 [(pp, np, cp), (pq, nq, cq)] := nats_mk hy hb
      have hg : Gr y7 y8 := hy ▸ (Gr.refl _).alloc _
      replace H := H.grow hg
      clear hg hy hb
      (refine Kr.outS hK (a' := ?_) ?_ ?_; rotate_left; (focus ((try simp only [Act.put, List.setIfInBounds_toArray, List.set_cons_zero, List.set_cons_succ]); first | done | rfl))); clear hK K
      refine Kr.seqR (by rfl) (fun K hK => ?_)
      go_simp
      go_at_call 19
      go_at_call 19
      refine (few_ok HN (by simp) HS6.out).mono ?_
      rintro e y9 ⟨rfl, hg⟩
      replace H := H.grow hg
      clear hg
      clear HN
      (refine Kr.outS hK (a' := ?_) ?_ ?_; rotate_left; (focus ((try simp only [Act.put, List.setIfInBounds_toArray, List.set_cons_zero, List.set_cons_succ]); first | done | rfl))); clear hK K
      iterate 2 (refine Kr.seqQ (v := ?_) (a' := ?_) (by rfl) ?_ ?_ ?_; rotate_left 2; (focus (go_simp; first | done | rfl)); (focus ((try simp only [Act.put, List.setIfInBounds_toArray, List.set_cons_zero, List.set_cons_succ]); first | done | rfl)))
      (refine Kr.seqSkipQ (a' := ?_) (by rfl) ?_ ?_; rotate_left; (focus ((try simp only [Act.put, List.setIfInBounds_toArray, List.set_cons_zero, List.set_cons_succ]); first | done | rfl)))
      (refine Kr.seqSkipQ (a' := ?_) (by rfl) ?_ ?_; rotate_left; (focus ((try simp only [Act.put, List.setIfInBounds_toArray, List.set_cons_zero, List.set_cons_succ]); first | done | rfl)))
      (refine Kr.seqSkipQ (a' := ?_) (by rfl) ?_ ?_; rotate_left; (focus ((try simp only [Act.put, List.setIfInBounds_toArray, List.set_cons_zero, List.set_cons_succ]); first | done | rfl)))
      (refine Kr.seqSkipQ (a' := ?_) (by rfl) ?_ ?_; rotate_left; (focus ((try simp only [Act.put, List.setIfInBounds_toArray, List.set_cons_zero, List.set_cons_succ]); first | done | rfl)))
      (refine Kr.seqSkipQ (a' := ?_) (by rfl) ?_ ?_; rotate_left; (focus ((try simp only [Act.put, List.setIfInBounds_toArray, List.set_cons_zero, List.set_cons_succ]); first | done | rfl)))
      (refine Kr.seqSkipQ (a' := ?_) (by rfl) ?_ ?_; rotate_left; (focus ((try simp only [Act.put, List.setIfInBounds_toArray, List.set_cons_zero, List.set_cons_succ]); first | done | rfl)))
      (refine Kr.seqSkipQ (a' := ?_) (by rfl) ?_ ?_; rotate_left; (focus ((try simp only [Act.put, List.setIfInBounds_toArray, List.set_cons_zero, List.set_cons_succ]); first | done | rfl)))
      (refine Kr.seqSkipQ (a' := ?_) (by rfl) ?_ ?_; rotate_left; (focus ((try simp only [Act.put, List.setIfInBounds_toArray, List.set_cons_zero, List.set_cons_succ]); first | done | rfl)))
      iterate 2 (refine Kr.seqQ (v := ?_) (a' := ?_) (by rfl) ?_ ?_ ?_; rotate_left 2; (focus (go_simp; first | done | rfl)); (focus ((try simp only [Act.put, List.setIfInBounds_toArray, List.set_cons_zero, List.set_cons_succ]); first | done | rfl)))
      refine Kr.seqDoneW ?_
      go_wp2_with fail
      go_meet
      exact ⟨rfl, Lib.hid H⟩
    · have HG := Lib.hid hg
      have hLL : IntKind.i64.wrap ((np : Int) + (nq : Int)) = (np : Int) + (nq : Int) := IntWalk.i64_in _ (by omega)
      have hl2 : ¬ (np : Int) + (nq : Int) < 34 := by omega
      clear hg
      refine Kr.seqStartW ?_
      refine Kr.seqR (by rfl) (fun K hK => ?_)
      go_simp
      go_at_call 18
      refine (awake3 _).mono ?_
      rintro e y10 ⟨rfl, hg⟩
      replace H := H.grow hg
      clear hg
      (refine Kr.outS hK (a' := ?_) ?_ ?_; rotate_left; (focus ((try simp only [Act.put, List.setIfInBounds_toArray, List.set_cons_zero, List.set_cons_succ]); first | done | rfl))); clear hK K
      iterate 2 (refine Kr.seqQ (v := ?_) (a' := ?_) (by rfl) ?_ ?_ ?_; rotate_left 2; (focus (go_simp; first | done | rfl)); (focus ((try simp only [Act.put, List.setIfInBounds_toArray, List.set_cons_zero, List.set_cons_succ]); first | done | rfl)))
      have hk := H.c
      simp only [Kr.Cells] at hk
      iterate 4 (refine Kr.seqQ (v := ?_) (a' := ?_) (by rfl) ?_ ?_ ?_; rotate_left 2; (focus (go_simp; first | done | rfl)); (focus ((try simp only [Act.put, List.setIfInBounds_toArray, List.set_cons_zero, List.set_cons_succ]); first | done | rfl)))
      refine Kr.seqR (by rfl) (fun K hK => ?_)
      go_simp
      clear hk
      obtain ⟨y11, hy⟩ : ∃ y, y10.alloc (.cells #[.slice pa na ca, .slice pp np cp, .slice pb nb cb, .slice pq nq cq] 24) = y := ⟨_, rfl⟩
      obtain ⟨by11, hb⟩ : ∃ b, y10.heap.size = b := ⟨_, rfl⟩
      rw [hy, hb]
      have HN : Nats y11 by11 0 [(pa, na, ca), (pp, np, cp), (pb, nb, cb), (pq, nq, cq)] := nats_mk hy hb
      have hg : Gr y10 y11 := hy ▸ (Gr.refl _).alloc _
      replace H := H.grow hg
      clear hg hy hb
      (refine Kr.outS hK (a' := ?_) ?_ ?_; rotate_left; (focus ((try simp only [Act.put, List.setIfInBounds_toArray, List.set_cons_zero, List.set_cons_succ]); first | done | rfl))); clear hK K
      refine Kr.seqR (by rfl) (fun K hK => ?_)
      go_simp
      go_at_call 19
      go_at_call 19
      refine (few_ok HN (by simp) HS.out).mono ?_
      rintro e y12 ⟨rfl, hg⟩
      replace H := H.grow hg
      clear hg
      clear HN
      (refine Kr.outS hK (a' := ?_) ?_ ?_; rotate_left; (focus ((try simp only [Act.put, List.setIfInBounds_toArray, List.set_cons_zero, List.set_cons_succ]); first | done | rfl))); clear hK K
      iterate 3 (refine Kr.seqQ (v := ?_) (a' := ?_) (by rfl) ?_ ?_ ?_; rotate_left 2; (focus (go_simp; first | done | rfl)); (focus ((try simp only [Act.put, List.setIfInBounds_toArray, List.set_cons_zero, List.set_cons_succ]); first | done | rfl)))
      have hk := H.c
      simp only [Kr.Cells] at hk
      iterate 2 (refine Kr.seqQ (v := ?_) (a' := ?_) (by rfl) ?_ ?_ ?_; rotate_left 2; (focus (go_simp; first | done | rfl)); (focus ((try simp only [Act.put, List.setIfInBounds_toArray, List.set_cons_zero, List.set_cons_succ]); first | done | rfl)))
      refine Kr.seqR (by rfl) (fun K hK => ?_)
      go_simp
      clear hk
      obtain ⟨y13, hy⟩ : ∃ y, y12.alloc (.cells #[.slice pp np cp, .slice pq nq cq] 24) = y := ⟨_, rfl⟩
      obtain ⟨by13, hb⟩ : ∃ b, y12.heap.size = b := ⟨_, rfl⟩
      rw [hy, hb]
      have HN : Nats y13 by13 0 [(pp, np, cp), (pq, nq, cq)] := nats_mk hy hb
      have hg : Gr y12 y13 := hy ▸ (Gr.refl _).alloc _
      replace H := H.grow hg
      clear hg hy hb
      (refine Kr.outS hK (a' := ?_) ?_ ?_; rotate_left; (focus ((try simp only [Act.put, List.setIfInBounds_toArray, List.set_cons_zero, List.set_cons_succ]); first | done | rfl))); clear hK K
      refine Kr.seqR (by rfl) (fun K hK => ?_)
      go_simp
      go_at_call 19
      go_at_call 19
      refine (few_no HN (by simp) HG.out).mono ?_
      rintro e y14 ⟨rfl, hg⟩
      replace H := H.grow hg
      clear hg
      clear HN
      (refine Kr.outS hK (a' := ?_) ?_ ?_; rotate_left; (focus ((try simp only [Act.put, List.setIfInBounds_toArray, List.set_cons_zero, List.set_cons_succ]); first | done | rfl))); clear hK K
      iterate 3 (refine Kr.seqQ (v := ?_) (a' := ?_) (by rfl) ?_ ?_ ?_; rotate_left 2; (focus (go_simp; first | done | rfl)); (focus ((try simp only [Act.put, List.setIfInBounds_toArray, List.set_cons_zero, List.set_cons_succ]); first | done | rfl)))
      have hk := H.c
      simp only [Kr.Cells] at hk
      iterate 9 (refine Kr.seqQ (v := ?_) (a' := ?_) (by rfl) ?_ ?_ ?_; rotate_left 2; (focus (go_simp; first | done | rfl)); (focus ((try simp only [Act.put, List.setIfInBounds_toArray, List.set_cons_zero, List.set_cons_succ]); first | done | rfl)))
      clear hk
      refine Kr.seqDoneW ?_
      go_wp2_with fail
      go_meet
      exact ⟨rfl, Lib.hid H⟩
  case rest =>
    clear H
    obtain ⟨rfl, HH⟩ := hcut
    have H := HH.out
    clear HH
    go_upto_region 3 with fail
    refine Kr.seqStartW ?_
    have hk := H.c
    simp only [Kr.Cells] at hk
    iterate 4 (refine Kr.seqQ (v := ?_) (a' := ?_) (by rfl) ?_ ?_ ?_; rotate_left 2; (focus (go_simp; first | done | rfl)); (focus ((try simp only [Act.put, List.setIfInBounds_toArray, List.set_cons_zero, List.set_cons_succ]); first | done | rfl)))
    refine Kr.seqR (by rfl) (fun K hK => ?_)
    go_simp
    go_at_call 35
    refine (HR.out _ H.g).mono ?_
    rintro e y15 ⟨p15, n15, c15, rfl, hr, hg⟩
    obtain rfl : n15 = 0 := by rw [← hr.len, digs_zero]; rfl
    clear hk
    replace H := H.grow hg
    clear hr hg
    (refine Kr.outS hK (a' := ?_) ?_ ?_; rotate_left; (focus ((try simp only [Act.put, List.setIfInBounds_toArray, List.set_cons_zero, List.set_cons_succ]); first | done | rfl))); clear hK K
    iterate 3 (refine Kr.seqQ (v := ?_) (a' := ?_) (by rfl) ?_ ?_ ?_; rotate_left 2; (focus (go_simp; first | done | rfl)); (focus ((try simp only [Act.put, List.setIfInBounds_toArray, List.set_cons_zero, List.set_cons_succ]); first | done | rfl)))
    refine Kr.seqR (by rfl) (fun K hK => ?_)
    go_simp
    obtain ⟨y16, hy⟩ : ∃ y, y15.alloc (.cells #[.slice none 0 0] 24) = y := ⟨_, rfl⟩
    obtain ⟨bx, hb⟩ : ∃ b, y15.heap.size = b := ⟨_, rfl⟩
    rw [hy, hb]
    replace H := H.alloc hy hb rfl
    clear hy hb
    (refine Kr.outS hK (a' := ?_) ?_ ?_; rotate_left; (focus ((try simp only [Act.put, List.setIfInBounds_toArray, List.set_cons_zero, List.set_cons_succ]); first | done | rfl))); clear hK K
    have hk := H.c
    simp only [Kr.Cells] at hk
    refine Kr.seqR (by rfl) (fun K hK => ?_)
    go_simp
    clear hk
    obtain ⟨y17, hy⟩ : ∃ y, y16.setCell ⟨bx, 0, none⟩ (.slice p15 0 c15) = y := ⟨_, rfl⟩
    rw [hy]
    replace H := H.store 0 hy rfl rfl
    dsimp only [List.set] at H
    clear hy
    (refine Kr.outS hK (a' := ?_) ?_ ?_; rotate_left; (focus ((try simp only [Act.put, List.setIfInBounds_toArray, List.set_cons_zero, List.set_cons_succ]); first | done | rfl))); clear hK K
    (refine Kr.seqQ (v := ?_) (a' := ?_) (by rfl) ?_ ?_ ?_; rotate_left 2; (focus (go_simp; first | done | rfl)); (focus ((try simp only [Act.put, List.setIfInBounds_toArray, List.set_cons_zero, List.set_cons_succ]); first | done | rfl)))
    refine Kr.seqDoneW ?_
    go_upto_region 4 with fail
    refine Kr.seqStartW ?_
    (refine Kr.seqQ (v := ?_) (a' := ?_) (by rfl) ?_ ?_ ?_; rotate_left 2; (focus (go_simp; first | done | rfl)); (focus ((try simp only [Act.put, List.setIfInBounds_toArray, List.set_cons_zero, List.set_cons_succ]); first | done | rfl)))
    refine Kr.seqDoneW ?_
    go_upto_region 5 with fail
    refine Kr.seqStartW ?_
    have hk := H.c
    simp only [Kr.Cells] at hk
    (refine Kr.seqQ (v := ?_) (a' := ?_) (by rfl) ?_ ?_ ?_; rotate_left 2; (focus (go_simp; first | done | rfl)); (focus ((try simp only [Act.put, List.setIfInBounds_toArray, List.set_cons_zero, List.set_cons_succ]); first | done | rfl)))
    refine Kr.seqR (by rfl) (fun K hK => ?_)
    go_simp
    go_at_call 22
    refine (first_nil (H.ws 2 rfl)).mono ?_
    rintro e y18 ⟨rfl, hg⟩
    rw [Tp.out, if_pos rfl]
    clear hk
    replace H := H.grow hg
    clear hg
    (refine Kr.outS hK (a' := ?_) ?_ ?_; rotate_left; (focus ((try simp only [Act.put, List.setIfInBounds_toArray, List.set_cons_zero, List.set_cons_succ]); first | done | rfl))); clear hK K
    iterate 2 (refine Kr.seqQ (v := ?_) (a' := ?_) (by rfl) ?_ ?_ ?_; rotate_left 2; (focus (go_simp; first | done | rfl)); (focus ((try simp only [Act.put, List.setIfInBounds_toArray, List.set_cons_zero, List.set_cons_succ]); first | done | rfl)))
    have hk := H.c
    simp only [Kr.Cells] at hk
    (refine Kr.seqQ (v := ?_) (a' := ?_) (by rfl) ?_ ?_ ?_; rotate_left 2; (focus (go_simp; first | done | rfl)); (focus ((try simp only [Act.put, List.setIfInBounds_toArray, List.set_cons_zero, List.set_cons_succ]); first | done | rfl)))
    refine Kr.seqR (by rfl) (fun K hK => ?_)
    go_simp
    go_at_call 22
    refine (first_nil (H.ws 0 rfl)).mono ?_
    rintro e y19 ⟨rfl, hg⟩
    rw [Tq.out, if_pos rfl]
    clear hk
    replace H := H.grow hg
    clear hg
    (refine Kr.outS hK (a' := ?_) ?_ ?_; rotate_left; (focus ((try simp only [Act.put, List.setIfInBounds_toArray, List.set_cons_zero, List.set_cons_succ]); first | done | rfl))); clear hK K
    iterate 3 (refine Kr.seqQ (v := ?_) (a' := ?_) (by rfl) ?_ ?_ ?_; rotate_left 2; (focus (go_simp; first | done | rfl)); (focus ((try simp only [Act.put, List.setIfInBounds_toArray, List.set_cons_zero, List.set_cons_succ]); first | done | rfl)))
    have hk := H.c
    simp only [Kr.Cells] at hk
    (refine Kr.seqQ (v := ?_) (a' := ?_) (by rfl) ?_ ?_ ?_; rotate_left 2; (focus (go_simp; first | done | rfl)); (focus ((try simp only [Act.put, List.setIfInBounds_toArray, List.set_cons_zero, List.set_cons_succ]); first | done | rfl)))
    refine Kr.seqR (by rfl) (fun K hK => ?_)
    go_simp
    go_at_call 29
    refine (valid3_any _ _ _ _ _ (H.ws 3 rfl)).mono ?_
    rintro e y20 ⟨rfl, hg⟩
    rw [Ta.out]
    clear hk
    replace H := H.grow hg
    clear hg
    (refine Kr.outS hK (a' := ?_) ?_ ?_; rotate_left; (focus ((try simp only [Act.put, List.setIfInBounds_toArray, List.set_cons_zero, List.set_cons_succ]); first | done | rfl))); clear hK K
    iterate 3 (refine Kr.seqQ (v := ?_) (a' := ?_) (by rfl) ?_ ?_ ?_; rotate_left 2; (focus (go_simp; first | done | rfl)); (focus ((try simp only [Act.put, List.setIfInBounds_toArray, List.set_cons_zero, List.set_cons_succ]); first | done | rfl)))
    (refine Kr.seqSkipQ (a' := ?_) (by rfl) ?_ ?_; rotate_left; (focus ((try simp only [Act.put, List.setIfInBounds_toArray, List.set_cons_zero, List.set_cons_succ]); first | done | rfl)))
    (refine Kr.seqSkipQ (a' := ?_) (by rfl) ?_ ?_; rotate_left; (focus ((try simp only [Act.put, List.setIfInBounds_toArray, List.set_cons_zero, List.set_cons_succ]); first | done | rfl)))
    (refine Kr.seqSkipQ (a' := ?_) (by rfl) ?_ ?_; rotate_left; (focus ((try simp only [Act.put, List.setIfInBounds_toArray, List.set_cons_zero, List.set_cons_succ]); first | done | rfl)))
    iterate 2 (refine Kr.seqQ (v := ?_) (a' := ?_) (by rfl) ?_ ?_ ?_; rotate_left 2; (focus (go_simp; first | done | rfl)); (focus ((try simp only [Act.put, List.setIfInBounds_toArray, List.set_cons_zero, List.set_cons_succ]); first | done | rfl)))
    refine Kr.seqDoneW ?_
    go_upto_region 6 with fail
    refine Kr.seqStartW ?_
    (refine Kr.seqQ (v := ?_) (a' := ?_) (by rfl) ?_ ?_ ?_; rotate_left 2; (focus (go_simp; first | done | rfl)); (focus ((try simp only [Act.put, List.setIfInBounds_toArray, List.set_cons_zero, List.set_cons_succ]); first | done | rfl)))
    refine Kr.seqDoneW ?_
    go_upto_region 13 with fail
    refine Kr.seqStartW ?_
    iterate 2 (refine Kr.seqQ (v := ?_) (a' := ?_) (by rfl) ?_ ?_ ?_; rotate_left 2; (focus (go_simp; first | done | rfl)); (focus ((try simp only [Act.put, List.setIfInBounds_toArray, List.set_cons_zero, List.set_cons_succ]); first | done | rfl)))
    refine Kr.seqDoneW ?_
    go_upto_region 14 with fail
    refine Kr.seqStartW ?_
    (refine Kr.seqQ (v := ?_) (a' := ?_) (by rfl) ?_ ?_ ?_; rotate_left 2; (focus (go_simp; first | done | rfl)); (focus ((try simp only [Act.put, List.setIfInBounds_toArray, List.set_cons_zero, List.set_cons_succ]); first | done | rfl)))
    have hk := H.c
    simp only [Kr.Cells] at hk
    iterate 9 (refine Kr.seqQ (v := ?_) (a' := ?_) (by rfl) ?_ ?_ ?_; rotate_left 2; (focus (go_simp; first | done | rfl)); (focus ((try simp only [Act.put, List.setIfInBounds_toArray, List.set_cons_zero, List.set_cons_succ]); first | done | rfl)))
    clear hk
    refine Kr.seqDoneW ?_
    go_wp2
    go_ret
    exact ⟨rfl, H.g⟩
set_option linter.unusedSimpArgs false in
set_option maxRecDepth 100000 in
set_option maxHeartbeats 16000000 in
theorem crt_any_bad_b {pa : Option Addr} {na ca : Nat} {pp : Option Addr} {np cp : Nat} {pb : Option Addr} {nb cb : Nat} {pq : Option Addr} {nq cq : Nat} {lp lq la lb : List Nat} {w : World} (hs : ∀ x ∈ [(pa, na, ca), (pp, np, cp), (pb, nb, cb), (pq, nq, cq)], x.2.1 ≤ 40) (hw : (∀ x ∈ [(pp, np, cp), (pq, nq, cq)], x.2.1 ≤ 6) ∨ ((∃ x ∈ [(pp, np, cp), (pq, nq, cq)], 6 < x.2.1) ∧ 34 ≤ np + nq ∧ np + nq ≤ 80)) (ha : Nw w pa na ca la) (hp : Nw w pp np cp lp) (hb : Nw w pb nb cb lb) (hq : Nw w pq nq cq lq) (hr : ∀ W, Gr w W → Calls Try.prog 35 #[.agg #[.slice pa na ca], .agg #[.slice pp np cp], .agg #[.slice pb nb cb], .agg #[.slice pq nq cq]] W (HasE 0 1 W)) (tp : im lp = true) (tq : im lq = true) (ta : decide (valid la) = true) (tb : decide (valid lb) = false) :
    Calls Try.prog 6 #[.agg #[.slice pa na ca], .agg #[.slice pp np cp], .agg #[.slice pb nb cb], .agg #[.slice pq nq cq]] w fun e w' => e = .returned (.bool true) ∧ Gr w w' := by
  have HS := Lib.hid hs
  have HW := Lib.hid hw
  clear hs hw
  have HR := Lib.hid hr
  clear hr
  have Tp := Lib.hid tp
  clear tp
  have Tq := Lib.hid tq
  clear tq
  have Ta := Lib.hid ta
  clear ta
  have Tb := Lib.hid tb
  clear tb
  have H := Sta.start w
  replace H := H.add (keepWs _ _ _ _) ha
  replace H := H.add (keepWs _ _ _ _) hp
  replace H := H.add (keepWs _ _ _ _) hb
  replace H := H.add (keepWs _ _ _ _) hq
  go_enter Try.func6, Try.ntmps6
  go_upto_region 0 with fail
  refine Kr.seqStartW ?_
  refine Kr.seqR (by rfl) (fun K hK => ?_)
  go_simp
  obtain ⟨y1, hy⟩ : ∃ y, w.alloc (.cells #[.slice pa na ca] 24) = y := ⟨_, rfl⟩
  obtain ⟨ba, hb⟩ : ∃ b, w.heap.size = b := ⟨_, rfl⟩
  rw [hy, hb]
  replace H := H.alloc hy hb rfl
  clear hy hb
  (refine Kr.outS hK (a' := ?_) ?_ ?_; rotate_left; (focus ((try simp only [Act.put, List.setIfInBounds_toArray, List.set_cons_zero, List.set_cons_succ]); first | done | rfl))); clear hK K
  refine Kr.seqR (by rfl) (fun K hK => ?_)
  go_simp
  obtain ⟨y2, hy⟩ : ∃ y, y1.alloc (.cells #[.slice pp np cp] 24) = y := ⟨_, rfl⟩
  obtain ⟨bp, hb⟩ : ∃ b, y1.heap.size = b := ⟨_, rfl⟩
  rw [hy, hb]
  replace H := H.alloc hy hb rfl
  clear hy hb
  (refine Kr.outS hK (a' := ?_) ?_ ?_; rotate_left; (focus ((try simp only [Act.put, List.setIfInBounds_toArray, List.set_cons_zero, List.set_cons_succ]); first | done | rfl))); clear hK K
  refine Kr.seqR (by rfl) (fun K hK => ?_)
  go_simp
  obtain ⟨y3, hy⟩ : ∃ y, y2.alloc (.cells #[.slice pb nb cb] 24) = y := ⟨_, rfl⟩
  obtain ⟨bb, hb⟩ : ∃ b, y2.heap.size = b := ⟨_, rfl⟩
  rw [hy, hb]
  replace H := H.alloc hy hb rfl
  clear hy hb
  (refine Kr.outS hK (a' := ?_) ?_ ?_; rotate_left; (focus ((try simp only [Act.put, List.setIfInBounds_toArray, List.set_cons_zero, List.set_cons_succ]); first | done | rfl))); clear hK K
  refine Kr.seqR (by rfl) (fun K hK => ?_)
  go_simp
  obtain ⟨y4, hy⟩ : ∃ y, y3.alloc (.cells #[.slice pq nq cq] 24) = y := ⟨_, rfl⟩
  obtain ⟨bq, hb⟩ : ∃ b, y3.heap.size = b := ⟨_, rfl⟩
  rw [hy, hb]
  replace H := H.alloc hy hb rfl
  clear hy hb
  (refine Kr.outS hK (a' := ?_) ?_ ?_; rotate_left; (focus ((try simp only [Act.put, List.setIfInBounds_toArray, List.set_cons_zero, List.set_cons_succ]); first | done | rfl))); clear hK K
  (refine Kr.seqQ (v := ?_) (a' := ?_) (by rfl) ?_ ?_ ?_; rotate_left 2; (focus (go_simp; first | done | rfl)); (focus ((try simp only [Act.put, List.setIfInBounds_toArray, List.set_cons_zero, List.set_cons_succ]); first | done | rfl)))
  refine Kr.seqDoneW ?_
  go_upto_region 1 with fail
  go_cut [39] from 12 to 38 (fun s39 W => s39 = .bool false ∧ Hid (Sta w W [(bq, 0, .slice pq nq cq), (bb, 0, .slice pb nb cb), (bp, 0, .slice pp np cp), (ba, 0, .slice pa na ca)] [Ws pq nq cq lq, Ws pb nb cb lb, Ws pp np cp lp, Ws pa na ca la]))
  case first =>
    rcases HW.out with h6 | ⟨hg, hl, hu⟩
    · have HS6 := Lib.hid h6
      clear h6
      refine Kr.seqStartW ?_
      refine Kr.seqR (by rfl) (fun K hK => ?_)
      go_simp
      go_at_call 18
      refine (awake3 _).mono ?_
      rintro e y5 ⟨rfl, hg⟩
      replace H := H.grow hg
      clear hg
      (refine Kr.outS hK (a' := ?_) ?_ ?_; rotate_left; (focus ((try simp only [Act.put, List.setIfInBounds_toArray, List.set_cons_zero, List.set_cons_succ]); first | done | rfl))); clear hK K
      iterate 2 (refine Kr.seqQ (v := ?_) (a' := ?_) (by rfl) ?_ ?_ ?_; rotate_left 2; (focus (go_simp; first | done | rfl)); (focus ((try simp only [Act.put, List.setIfInBounds_toArray, List.set_cons_zero, List.set_cons_succ]); first | done | rfl)))
      have hk := H.c
      simp only [Kr.Cells] at hk
      iterate 4 (refine Kr.seqQ (v := ?_) (a' := ?_) (by rfl) ?_ ?_ ?_; rotate_left 2; (focus (go_simp; first | done | rfl)); (focus ((try simp only [Act.put, List.setIfInBounds_toArray, List.set_cons_zero, List.set_cons_succ]); first | done | rfl)))
      refine Kr.seqR (by rfl) (fun K hK => ?_)
      go_simp
      clear hk
      obtain ⟨y6, hy⟩ : ∃ y, y5.alloc (.cells #[.slice pa na ca, .slice pp np cp, .slice pb nb cb, .slice pq nq cq] 24) = y := ⟨_, rfl⟩
      obtain ⟨by6, hb⟩ : ∃ b, y5.heap.size = b := ⟨_, rfl⟩
      rw [hy, hb]
      have HN : Nats y6 by6 0 [(pa, na, ca), (pp, np, cp), (pb, nb, cb), (pq, nq, cq)] := nats_mk hy hb
      have hg : Gr y5 y6 := hy ▸ (Gr.refl _).alloc _
      replace H := H.grow hg
      clear hg hy hb
      (refine Kr.outS hK (a' := ?_) ?_ ?_; rotate_left; (focus ((try simp only [Act.put, List.setIfInBounds_toArray, List.set_cons_zero, List.set_cons_succ]); first | done | rfl))); clear hK K
      refine Kr.seqR (by rfl) (fun K hK => ?_)
      go_simp
      go_at_call 19
      go_at_call 19
      refine (few_ok HN (by simp) HS.out).mono ?_
      rintro e y7 ⟨rfl, hg⟩
      replace H := H.grow hg
      clear hg
      clear HN
      (refine Kr.outS hK (a' := ?_) ?_ ?_; rotate_left; (focus ((try simp only [Act.put, List.setIfInBounds_toArray, List.set_cons_zero, List.set_cons_succ]); first | done | rfl))); clear hK K
      iterate 3 (refine Kr.seqQ (v := ?_) (a' := ?_) (by rfl) ?_ ?_ ?_; rotate_left 2; (focus (go_simp; first | done | rfl)); (focus ((try simp only [Act.put, List.setIfInBounds_toArray, List.set_cons_zero, List.set_cons_succ]); first | done | rfl)))
      have hk := H.c
      simp only [Kr.Cells] at hk
      iterate 2 (refine Kr.seqQ (v := ?_) (a' := ?_) (by rfl) ?_ ?_ ?_; rotate_left 2; (focus (go_simp; first | done | rfl)); (focus ((try simp only [Act.put, List.setIfInBounds_toArray, List.set_cons_zero, List.set_cons_succ]); first | done | rfl)))
      refine Kr.seqR (by rfl) (fun K hK => ?_)
      go_simp
      clear hk
      obtain ⟨y8, hy⟩ : ∃ y, y7.alloc (.cells #[.slice pp np cp, .slice pq nq cq] 24) = y := ⟨_, rfl⟩
      obtain ⟨by8, hb⟩ : ∃ b, y7.heap.size = b := ⟨_, rfl⟩
      rw [hy, hb]
      have HN : Nats y8 by8 0 [(pp, np, cp), (pq, nq, cq)] := nats_mk hy hb
      have hg : Gr y7 y8 := hy ▸ (Gr.refl _).alloc _
      replace H := H.grow hg
      clear hg hy hb
      (refine Kr.outS hK (a' := ?_) ?_ ?_; rotate_left; (focus ((try simp only [Act.put, List.setIfInBounds_toArray, List.set_cons_zero, List.set_cons_succ]); first | done | rfl))); clear hK K
      refine Kr.seqR (by rfl) (fun K hK => ?_)
      go_simp
      go_at_call 19
      go_at_call 19
      refine (few_ok HN (by simp) HS6.out).mono ?_
      rintro e y9 ⟨rfl, hg⟩
      replace H := H.grow hg
      clear hg
      clear HN
      (refine Kr.outS hK (a' := ?_) ?_ ?_; rotate_left; (focus ((try simp only [Act.put, List.setIfInBounds_toArray, List.set_cons_zero, List.set_cons_succ]); first | done | rfl))); clear hK K
      iterate 2 (refine Kr.seqQ (v := ?_) (a' := ?_) (by rfl) ?_ ?_ ?_; rotate_left 2; (focus (go_simp; first | done | rfl)); (focus ((try simp only [Act.put, List.setIfInBounds_toArray, List.set_cons_zero, List.set_cons_succ]); first | done | rfl)))
      (refine Kr.seqSkipQ (a' := ?_) (by rfl) ?_ ?_; rotate_left; (focus ((try simp only [Act.put, List.setIfInBounds_toArray, List.set_cons_zero, List.set_cons_succ]); first | done | rfl)))
      (refine Kr.seqSkipQ (a' := ?_) (by rfl) ?_ ?_; rotate_left; (focus ((try simp only [Act.put, List.setIfInBounds_toArray, List.set_cons_zero, List.set_cons_succ]); first | done | rfl)))
      (refine Kr.seqSkipQ (a' := ?_) (by rfl) ?_ ?_; rotate_left; (focus ((try simp only [Act.put, List.setIfInBounds_toArray, List.set_cons_zero, List.set_cons_succ]); first | done | rfl)))
      (refine Kr.seqSkipQ (a' := ?_) (by rfl) ?_ ?_; rotate_left; (focus ((try simp only [Act.put, List.setIfInBounds_toArray, List.set_cons_zero, List.set_cons_succ]); first | done | rfl)))
      (refine Kr.seqSkipQ (a' := ?_) (by rfl) ?_ ?_; rotate_left; (focus ((try simp only [Act.put, List.setIfInBounds_toArray, List.set_cons_zero, List.set_cons_succ]); first | done | rfl)))
      (refine Kr.seqSkipQ (a' := ?_) (by rfl) ?_ ?_; rotate_left; (focus ((try simp only [Act.put, List.setIfInBounds_toArray, List.set_cons_zero, List.set_cons_succ]); first | done | rfl)))
      (refine Kr.seqSkipQ (a' := ?_) (by rfl) ?_ ?_; rotate_left; (focus ((try simp only [Act.put, List.setIfInBounds_toArray, List.set_cons_zero, List.set_cons_succ]); first | done | rfl)))
      (refine Kr.seqSkipQ (a' := ?_) (by rfl) ?_ ?_; rotate_left; (focus ((try simp only [Act.put, List.setIfInBounds_toArray, List.set_cons_zero, List.set_cons_succ]); first | done | rfl)))
      iterate 2 (refine Kr.seqQ (v := ?_) (a' := ?_) (by rfl) ?_ ?_ ?_; rotate_left 2; (focus (go_simp; first | done | rfl)); (focus ((try simp only [Act.put, List.setIfInBounds_toArray, List.set_cons_zero, List.set_cons_succ]); first | done | rfl)))
      refine Kr.seqDoneW ?_
      go_wp2_with fail
      go_meet
      exact ⟨rfl, Lib.hid H⟩
    · have HG := Lib.hid hg
      have hLL : IntKind.i64.wrap ((np : Int) + (nq : Int)) = (np : Int) + (nq : Int) := IntWalk.i64_in _ (by omega)
      have hl2 : ¬ (np : Int) + (nq : Int) < 34 := by omega
      clear hg
      refine Kr.seqStartW ?_
      refine Kr.seqR (by rfl) (fun K hK => ?_)
      go_simp
      go_at_call 18
      refine (awake3 _).mono ?_
      rintro e y10 ⟨rfl, hg⟩
      replace H := H.grow hg
      clear hg
      (refine Kr.outS hK (a' := ?_) ?_ ?_; rotate_left; (focus ((try simp only [Act.put, List.setIfInBounds_toArray, List.set_cons_zero, List.set_cons_succ]); first | done | rfl))); clear hK K
      iterate 2 (refine Kr.seqQ (v := ?_) (a' := ?_) (by rfl) ?_ ?_ ?_; rotate_left 2; (focus (go_simp; first | done | rfl)); (focus ((try simp only [Act.put, List.setIfInBounds_toArray, List.set_cons_zero, List.set_cons_succ]); first | done | rfl)))
      have hk := H.c
      simp only [Kr.Cells] at hk
      iterate 4 (refine Kr.seqQ (v := ?_) (a' := ?_) (by rfl) ?_ ?_ ?_; rotate_left 2; (focus (go_simp; first | done | rfl)); (focus ((try simp only [Act.put, List.setIfInBounds_toArray, List.set_cons_zero, List.set_cons_succ]); first | done | rfl)))
      refine Kr.seqR (by rfl) (fun K hK => ?_)
      go_simp
      clear hk
      obtain ⟨y11, hy⟩ : ∃ y, y10.alloc (.cells #[.slice pa na ca, .slice pp np cp, .slice pb nb cb, .slice pq nq cq] 24) = y := ⟨_, rfl⟩
      obtain ⟨by11, hb⟩ : ∃ b, y10.heap.size = b := ⟨_, rfl⟩
      rw [hy, hb]
      have HN : Nats y11 by11 0 [(pa, na, ca), (pp, np, cp), (pb, nb, cb), (pq, nq, cq)] := nats_mk hy hb
      have hg : Gr y10 y11 := hy ▸ (Gr.refl _).alloc _
      replace H := H.grow hg
      clear hg hy hb
      (refine Kr.outS hK (a' := ?_) ?_ ?_; rotate_left; (focus ((try simp only [Act.put, List.setIfInBounds_toArray, List.set_cons_zero, List.set_cons_succ]); first | done | rfl))); clear hK K
      refine Kr.seqR (by rfl) (fun K hK => ?_)
      go_simp
      go_at_call 19
      go_at_call 19
      refine (few_ok HN (by simp) HS.out).mono ?_
      rintro e y12 ⟨rfl, hg⟩
      replace H := H.grow hg
      clear hg
      clear HN
      (refine Kr.outS hK (a' := ?_) ?_ ?_; rotate_left; (focus ((try simp only [Act.put, List.setIfInBounds_toArray, List.set_cons_zero, List.set_cons_succ]); first | done | rfl))); clear hK K
      iterate 3 (refine Kr.seqQ (v := ?_) (a' := ?_) (by rfl) ?_ ?_ ?_; rotate_left 2; (focus (go_simp; first | done | rfl)); (focus ((try simp only [Act.put, List.setIfInBounds_toArray, List.set_cons_zero, List.set_cons_succ]); first | done | rfl)))
      have hk := H.c
      simp only [Kr.Cells] at hk
      iterate 2 (refine Kr.seqQ (v := ?_) (a' := ?_) (by rfl) ?_ ?_ ?_; rotate_left 2; (focus (go_simp; first | done | rfl)); (focus ((try simp only [Act.put, List.setIfInBounds_toArray, List.set_cons_zero, List.set_cons_succ]); first | done | rfl)))
      refine Kr.seqR (by rfl) (fun K hK => ?_)
      go_simp
      clear hk
      obtain ⟨y13, hy⟩ : ∃ y, y12.alloc (.cells #[.slice pp np cp, .slice pq nq cq] 24) = y := ⟨_, rfl⟩
      obtain ⟨by13, hb⟩ : ∃ b, y12.heap.size = b := ⟨_, rfl⟩
      rw [hy, hb]
      have HN : Nats y13 by13 0 [(pp, np, cp), (pq, nq, cq)] := nats_mk hy hb
      have hg : Gr y12 y13 := hy ▸ (Gr.refl _).alloc _
      replace H := H.grow hg
      clear hg hy hb
      (refine Kr.outS hK (a' := ?_) ?_ ?_; rotate_left; (focus ((try simp only [Act.put, List.setIfInBounds_toArray, List.set_cons_zero, List.set_cons_succ]); first | done | rfl))); clear hK K
      refine Kr.seqR (by rfl) (fun K hK => ?_)
      go_simp
      go_at_call 19
      go_at_call 19
      refine (few_no HN (by simp) HG.out).mono ?_
      rintro e y14 ⟨rfl, hg⟩
      replace H := H.grow hg
      clear hg
      clear HN
      (refine Kr.outS hK (a' := ?_) ?_ ?_; rotate_left; (focus ((try simp only [Act.put, List.setIfInBounds_toArray, List.set_cons_zero, List.set_cons_succ]); first | done | rfl))); clear hK K
      iterate 3 (refine Kr.seqQ (v := ?_) (a' := ?_) (by rfl) ?_ ?_ ?_; rotate_left 2; (focus (go_simp; first | done | rfl)); (focus ((try simp only [Act.put, List.setIfInBounds_toArray, List.set_cons_zero, List.set_cons_succ]); first | done | rfl)))
      have hk := H.c
      simp only [Kr.Cells] at hk
      iterate 9 (refine Kr.seqQ (v := ?_) (a' := ?_) (by rfl) ?_ ?_ ?_; rotate_left 2; (focus (go_simp; first | done | rfl)); (focus ((try simp only [Act.put, List.setIfInBounds_toArray, List.set_cons_zero, List.set_cons_succ]); first | done | rfl)))
      clear hk
      refine Kr.seqDoneW ?_
      go_wp2_with fail
      go_meet
      exact ⟨rfl, Lib.hid H⟩
  case rest =>
    clear H
    obtain ⟨rfl, HH⟩ := hcut
    have H := HH.out
    clear HH
    go_upto_region 3 with fail
    refine Kr.seqStartW ?_
    have hk := H.c
    simp only [Kr.Cells] at hk
    iterate 4 (refine Kr.seqQ (v := ?_) (a' := ?_) (by rfl) ?_ ?_ ?_; rotate_left 2; (focus (go_simp; first | done | rfl)); (focus ((try simp only [Act.put, List.setIfInBounds_toArray, List.set_cons_zero, List.set_cons_succ]); first | done | rfl)))
    refine Kr.seqR (by rfl) (fun K hK => ?_)
    go_simp
    go_at_call 35
    refine (HR.out _ H.g).mono ?_
    rintro e y15 ⟨p15, n15, c15, rfl, hr, hg⟩
    obtain rfl : n15 = 0 := by rw [← hr.len, digs_zero]; rfl
    clear hk
    replace H := H.grow hg
    clear hr hg
    (refine Kr.outS hK (a' := ?_) ?_ ?_; rotate_left; (focus ((try simp only [Act.put, List.setIfInBounds_toArray, List.set_cons_zero, List.set_cons_succ]); first | done | rfl))); clear hK K
    iterate 3 (refine Kr.seqQ (v := ?_) (a' := ?_) (by rfl) ?_ ?_ ?_; rotate_left 2; (focus (go_simp; first | done | rfl)); (focus ((try simp only [Act.put, List.setIfInBounds_toArray, List.set_cons_zero, List.set_cons_succ]); first | done | rfl)))
    refine Kr.seqR (by rfl) (fun K hK => ?_)
    go_simp
    obtain ⟨y16, hy⟩ : ∃ y, y15.alloc (.cells #[.slice none 0 0] 24) = y := ⟨_, rfl⟩
    obtain ⟨bx, hb⟩ : ∃ b, y15.heap.size = b := ⟨_, rfl⟩
    rw [hy, hb]
    replace H := H.alloc hy hb rfl
    clear hy hb
    (refine Kr.outS hK (a' := ?_) ?_ ?_; rotate_left; (focus ((try simp only [Act.put, List.setIfInBounds_toArray, List.set_cons_zero, List.set_cons_succ]); first | done | rfl))); clear hK K
    have hk := H.c
    simp only [Kr.Cells] at hk
    refine Kr.seqR (by rfl) (fun K hK => ?_)
    go_simp
    clear hk
    obtain ⟨y17, hy⟩ : ∃ y, y16.setCell ⟨bx, 0, none⟩ (.slice p15 0 c15) = y := ⟨_, rfl⟩
    rw [hy]
    replace H := H.store 0 hy rfl rfl
    dsimp only [List.set] at H
    clear hy
    (refine Kr.outS hK (a' := ?_) ?_ ?_; rotate_left; (focus ((try simp only [Act.put, List.setIfInBounds_toArray, List.set_cons_zero, List.set_cons_succ]); first | done | rfl))); clear hK K
    (refine Kr.seqQ (v := ?_) (a' := ?_) (by rfl) ?_ ?_ ?_; rotate_left 2; (focus (go_simp; first | done | rfl)); (focus ((try simp only [Act.put, List.setIfInBounds_toArray, List.set_cons_zero, List.set_cons_succ]); first | done | rfl)))
    refine Kr.seqDoneW ?_
    go_upto_region 4 with fail
    refine Kr.seqStartW ?_
    (refine Kr.seqQ (v := ?_) (a' := ?_) (by rfl) ?_ ?_ ?_; rotate_left 2; (focus (go_simp; first | done | rfl)); (focus ((try simp only [Act.put, List.setIfInBounds_toArray, List.set_cons_zero, List.set_cons_succ]); first | done | rfl)))
    refine Kr.seqDoneW ?_
    go_upto_region 5 with fail
    refine Kr.seqStartW ?_
    have hk := H.c
    simp only [Kr.Cells] at hk
    (refine Kr.seqQ (v := ?_) (a' := ?_) (by rfl) ?_ ?_ ?_; rotate_left 2; (focus (go_simp; first | done | rfl)); (focus ((try simp only [Act.put, List.setIfInBounds_toArray, List.set_cons_zero, List.set_cons_succ]); first | done | rfl)))
    refine Kr.seqR (by rfl) (fun K hK => ?_)
    go_simp
    go_at_call 22
    refine (first_nil (H.ws 2 rfl)).mono ?_
    rintro e y18 ⟨rfl, hg⟩
    rw [Tp.out, if_pos rfl]
    clear hk
    replace H := H.grow hg
    clear hg
    (refine Kr.outS hK (a' := ?_) ?_ ?_; rotate_left; (focus ((try simp only [Act.put, List.setIfInBounds_toArray, List.set_cons_zero, List.set_cons_succ]); first | done | rfl))); clear hK K
    iterate 2 (refine Kr.seqQ (v := ?_) (a' := ?_) (by rfl) ?_ ?_ ?_; rotate_left 2; (focus (go_simp; first | done | rfl)); (focus ((try simp only [Act.put, List.setIfInBounds_toArray, List.set_cons_zero, List.set_cons_succ]); first | done | rfl)))
    have hk := H.c
    simp only [Kr.Cells] at hk
    (refine Kr.seqQ (v := ?_) (a' := ?_) (by rfl) ?_ ?_ ?_; rotate_left 2; (focus (go_simp; first | done | rfl)); (focus ((try simp only [Act.put, List.setIfInBounds_toArray, List.set_cons_zero, List.set_cons_succ]); first | done | rfl)))
    refine Kr.seqR (by rfl) (fun K hK => ?_)
    go_simp
    go_at_call 22
    refine (first_nil (H.ws 0 rfl)).mono ?_
    rintro e y19 ⟨rfl, hg⟩
    rw [Tq.out, if_pos rfl]
    clear hk
    replace H := H.grow hg
    clear hg
    (refine Kr.outS hK (a' := ?_) ?_ ?_; rotate_left; (focus ((try simp only [Act.put, List.setIfInBounds_toArray, List.set_cons_zero, List.set_cons_succ]); first | done | rfl))); clear hK K
    iterate 3 (refine Kr.seqQ (v := ?_) (a' := ?_) (by rfl) ?_ ?_ ?_; rotate_left 2; (focus (go_simp; first | done | rfl)); (focus ((try simp only [Act.put, List.setIfInBounds_toArray, List.set_cons_zero, List.set_cons_succ]); first | done | rfl)))
    have hk := H.c
    simp only [Kr.Cells] at hk
    (refine Kr.seqQ (v := ?_) (a' := ?_) (by rfl) ?_ ?_ ?_; rotate_left 2; (focus (go_simp; first | done | rfl)); (focus ((try simp only [Act.put, List.setIfInBounds_toArray, List.set_cons_zero, List.set_cons_succ]); first | done | rfl)))
    refine Kr.seqR (by rfl) (fun K hK => ?_)
    go_simp
    go_at_call 29
    refine (valid3_any _ _ _ _ _ (H.ws 3 rfl)).mono ?_
    rintro e y20 ⟨rfl, hg⟩
    rw [Ta.out]
    clear hk
    replace H := H.grow hg
    clear hg
    (refine Kr.outS hK (a' := ?_) ?_ ?_; rotate_left; (focus ((try simp only [Act.put, List.setIfInBounds_toArray, List.set_cons_zero, List.set_cons_succ]); first | done | rfl))); clear hK K
    iterate 3 (refine Kr.seqQ (v := ?_) (a' := ?_) (by rfl) ?_ ?_ ?_; rotate_left 2; (focus (go_simp; first | done | rfl)); (focus ((try simp only [Act.put, List.setIfInBounds_toArray, List.set_cons_zero, List.set_cons_succ]); first | done | rfl)))
    have hk := H.c
    simp only [Kr.Cells] at hk
    (refine Kr.seqQ (v := ?_) (a' := ?_) (by rfl) ?_ ?_ ?_; rotate_left 2; (focus (go_simp; first | done | rfl)); (focus ((try simp only [Act.put, List.setIfInBounds_toArray, List.set_cons_zero, List.set_cons_succ]); first | done | rfl)))
    refine Kr.seqR (by rfl) (fun K hK => ?_)
    go_simp
    go_at_call 29
    refine (valid3_any _ _ _ _ _ (H.ws 1 rfl)).mono ?_
    rintro e y21 ⟨rfl, hg⟩
    rw [Tb.out]
    clear hk
    replace H := H.grow hg
    clear hg
    (refine Kr.outS hK (a' := ?_) ?_ ?_; rotate_left; (focus ((try simp only [Act.put, List.setIfInBounds_toArray, List.set_cons_zero, List.set_cons_succ]); first | done | rfl))); clear hK K
    iterate 3 (refine Kr.seqQ (v := ?_) (a' := ?_) (by rfl) ?_ ?_ ?_; rotate_left 2; (focus (go_simp; first | done | rfl)); (focus ((try simp only [Act.put, List.setIfInBounds_toArray, List.set_cons_zero, List.set_cons_succ]); first | done | rfl)))
    refine Kr.seqDoneW ?_
    go_upto_region 6 with fail
    refine Kr.seqStartW ?_
    (refine Kr.seqQ (v := ?_) (a' := ?_) (by rfl) ?_ ?_ ?_; rotate_left 2; (focus (go_simp; first | done | rfl)); (focus ((try simp only [Act.put, List.setIfInBounds_toArray, List.set_cons_zero, List.set_cons_succ]); first | done | rfl)))
    refine Kr.seqDoneW ?_
    go_upto_region 13 with fail
    refine Kr.seqStartW ?_
    iterate 2 (refine Kr.seqQ (v := ?_) (a' := ?_) (by rfl) ?_ ?_ ?_; rotate_left 2; (focus (go_simp; first | done | rfl)); (focus ((try simp only [Act.put, List.setIfInBounds_toArray, List.set_cons_zero, List.set_cons_succ]); first | done | rfl)))
    refine Kr.seqDoneW ?_
    go_upto_region 14 with fail
    refine Kr.seqStartW ?_
    (refine Kr.seqQ (v := ?_) (a' := ?_) (by rfl) ?_ ?_ ?_; rotate_left 2; (focus (go_simp; first | done | rfl)); (focus ((try simp only [Act.put, List.setIfInBounds_toArray, List.set_cons_zero, List.set_cons_succ]); first | done | rfl)))
    have hk := H.c
    simp only [Kr.Cells] at hk
    iterate 9 (refine Kr.seqQ (v := ?_) (a' := ?_) (by rfl) ?_ ?_ ?_; rotate_left 2; (focus (go_simp; first | done | rfl)); (focus ((try simp only [Act.put, List.setIfInBounds_toArray, List.set_cons_zero, List.set_cons_succ]); first | done | rfl)))
    clear hk
    refine Kr.seqDoneW ?_
    go_wp2
    go_ret
    exact ⟨rfl, H.g⟩
set_option linter.unusedSimpArgs false in
set_option maxRecDepth 100000 in
set_option maxHeartbeats 16000000 in
theorem crt_any_ra {pa : Option Addr} {na ca : Nat} {pp : Option Addr} {np cp : Nat} {pb : Option Addr} {nb cb : Nat} {pq : Option Addr} {nq cq : Nat} {a p b q : Nat} {w : World} (hs : ∀ x ∈ [(pa, na, ca), (pp, np, cp), (pb, nb, cb), (pq, nq, cq)], x.2.1 ≤ 40) (hw : (∀ x ∈ [(pp, np, cp), (pq, nq, cq)], x.2.1 ≤ 6) ∨ ((∃ x ∈ [(pp, np, cp), (pq, nq, cq)], 6 < x.2.1) ∧ 34 ≤ np + nq ∧ np + nq ≤ 80)) (ha : Nw w pa na ca (digs a)) (hp : Nw w pp np cp (digs p)) (hb : Nw w pb nb cb (digs b)) (hq : Nw w pq nq cq (digs q)) (p0 : 0 < p) (vp : p < pw 32) (q0 : 0 < q) (vq : q < pw 32) (va : a < pw 64) (vb : b < pw 64) (hr : ∀ W, Gr w W → Calls Try.prog 35 #[.agg #[.slice pa na ca], .agg #[.slice pp np cp], .agg #[.slice pb nb cb], .agg #[.slice pq nq cq]] W (HasE 0 2 W)) (hx : ¬ a < p) :
    Calls Try.prog 6 #[.agg #[.slice pa na ca], .agg #[.slice pp np cp], .agg #[.slice pb nb cb], .agg #[.slice pq nq cq]] w fun e w' => e = .returned (.bool true) ∧ Gr w w' := by
  have HS := Lib.hid hs
  have HW := Lib.hid hw
  clear hs hw
  have P0 := Lib.hid p0
  have VP := Lib.hid vp
  have Q0 := Lib.hid q0
  have VQ := Lib.hid vq
  have VA := Lib.hid va
  have VB := Lib.hid vb
  clear p0 vp q0 vq va vb
  have VP9 : Hid (p < pw 900) := Lib.hid (Nat.lt_of_lt_of_le VP.out (pw_mono (by decide)))
  have VQ9 : Hid (q < pw 900) := Lib.hid (Nat.lt_of_lt_of_le VQ.out (pw_mono (by decide)))
  have HR := Lib.hid hr
  clear hr
  have HX := Lib.hid hx
  clear hx
  have H := Sta.start w
  replace H := H.num ha
  replace H := H.num hp
  replace H := H.num hb
  replace H := H.num hq
  go_enter Try.func6, Try.ntmps6
  go_upto_region 0 with fail
  refine Kr.seqStartW ?_
  refine Kr.seqR (by rfl) (fun K hK => ?_)
  go_simp
  obtain ⟨y1, hy⟩ : ∃ y, w.alloc (.cells #[.slice pa na ca] 24) = y := ⟨_, rfl⟩
  obtain ⟨ba, hb⟩ : ∃ b, w.heap.size = b := ⟨_, rfl⟩
  rw [hy, hb]
  replace H := H.alloc hy hb rfl
  clear hy hb
  (refine Kr.outS hK (a' := ?_) ?_ ?_; rotate_left; (focus ((try simp only [Act.put, List.setIfInBounds_toArray, List.set_cons_zero, List.set_cons_succ]); first | done | rfl))); clear hK K
  refine Kr.seqR (by rfl) (fun K hK => ?_)
  go_simp
  obtain ⟨y2, hy⟩ : ∃ y, y1.alloc (.cells #[.slice pp np cp] 24) = y := ⟨_, rfl⟩
  obtain ⟨bp, hb⟩ : ∃ b, y1.heap.size = b := ⟨_, rfl⟩
  rw [hy, hb]
  replace H := H.alloc hy hb rfl
  clear hy hb
  (refine Kr.outS hK (a' := ?_) ?_ ?_; rotate_left; (focus ((try simp only [Act.put, List.setIfInBounds_toArray, List.set_cons_zero, List.set_cons_succ]); first | done | rfl))); clear hK K
  refine Kr.seqR (by rfl) (fun K hK => ?_)
  go_simp
  obtain ⟨y3, hy⟩ : ∃ y, y2.alloc (.cells #[.slice pb nb cb] 24) = y := ⟨_, rfl⟩
  obtain ⟨bb, hb⟩ : ∃ b, y2.heap.size = b := ⟨_, rfl⟩
  rw [hy, hb]
  replace H := H.alloc hy hb rfl
  clear hy hb
  (refine Kr.outS hK (a' := ?_) ?_ ?_; rotate_left; (focus ((try simp only [Act.put, List.setIfInBounds_toArray, List.set_cons_zero, List.set_cons_succ]); first | done | rfl))); clear hK K
  refine Kr.seqR (by rfl) (fun K hK => ?_)
  go_simp
  obtain ⟨y4, hy⟩ : ∃ y, y3.alloc (.cells #[.slice pq nq cq] 24) = y := ⟨_, rfl⟩
  obtain ⟨bq, hb⟩ : ∃ b, y3.heap.size = b := ⟨_, rfl⟩
  rw [hy, hb]
  replace H := H.alloc hy hb rfl
  clear hy hb
  (refine Kr.outS hK (a' := ?_) ?_ ?_; rotate_left; (focus ((try simp only [Act.put, List.setIfInBounds_toArray, List.set_cons_zero, List.set_cons_succ]); first | done | rfl))); clear hK K
  (refine Kr.seqQ (v := ?_) (a' := ?_) (by rfl) ?_ ?_ ?_; rotate_left 2; (focus (go_simp; first | done | rfl)); (focus ((try simp only [Act.put, List.setIfInBounds_toArray, List.set_cons_zero, List.set_cons_succ]); first | done | rfl)))
  refine Kr.seqDoneW ?_
  go_upto_region 1 with fail
  go_cut [39] from 12 to 38 (fun s39 W => s39 = .bool false ∧ Hid (Sta w W [(bq, 0, .slice pq nq cq), (bb, 0, .slice pb nb cb), (bp, 0, .slice pp np cp), (ba, 0, .slice pa na ca)] [N pq nq cq (q), N pb nb cb (b), N pp np cp (p), N pa na ca (a)]))
  case first =>
    rcases HW.out with h6 | ⟨hg, hl, hu⟩
    · have HS6 := Lib.hid h6
      clear h6
      refine Kr.seqStartW ?_
      refine Kr.seqR (by rfl) (fun K hK => ?_)
      go_simp
      go_at_call 18
      refine (awake3 _).mono ?_
      rintro e y5 ⟨rfl, hg⟩
      replace H := H.grow hg
      clear hg
      (refine Kr.outS hK (a' := ?_) ?_ ?_; rotate_left; (focus ((try simp only [Act.put, List.setIfInBounds_toArray, List.set_cons_zero, List.set_cons_succ]); first | done | rfl))); clear hK K
      iterate 2 (refine Kr.seqQ (v := ?_) (a' := ?_) (by rfl) ?_ ?_ ?_; rotate_left 2; (focus (go_simp; first | done | rfl)); (focus ((try simp only [Act.put, List.setIfInBounds_toArray, List.set_cons_zero, List.set_cons_succ]); first | done | rfl)))
      have hk := H.c
      simp only [Kr.Cells] at hk
      iterate 4 (refine Kr.seqQ (v := ?_) (a' := ?_) (by rfl) ?_ ?_ ?_; rotate_left 2; (focus (go_simp; first | done | rfl)); (focus ((try simp only [Act.put, List.setIfInBounds_toArray, List.set_cons_zero, List.set_cons_succ]); first | done | rfl)))
      refine Kr.seqR (by rfl) (fun K hK => ?_)
      go_simp
      clear hk
      obtain ⟨y6, hy⟩ : ∃ y, y5.alloc (.cells #[.slice pa na ca, .slice pp np cp, .slice pb nb cb, .slice pq nq cq] 24) = y := ⟨_, rfl⟩
      obtain ⟨by6, hb⟩ : ∃ b, y5.heap.size = b := ⟨_, rfl⟩
      rw [hy, hb]
      have HN : Nats y6 by6 0 [(pa, na, ca), (pp, np, cp), (pb, nb, cb), (pq, nq, cq)] := nats_mk hy hb
      have hg : Gr y5 y6 := hy ▸ (Gr.refl _).alloc _
      replace H := H.grow hg
      clear hg hy hb
      (refine Kr.outS hK (a' := ?_) ?_ ?_; rotate_left; (focus ((try simp only [Act.put, List.setIfInBounds_toArray, List.set_cons_zero, List.set_cons_succ]); first | done | rfl))); clear hK K
      refine Kr.seqR (by rfl) (fun K hK => ?_)
      go_simp
      go_at_call 19
      go_at_call 19
      refine (few_ok HN (by simp) HS.out).mono ?_
      rintro e y7 ⟨rfl, hg⟩
      replace H := H.grow hg
      clear hg
      clear HN
      (refine Kr.outS hK (a' := ?_) ?_ ?_; rotate_left; (focus ((try simp only [Act.put, List.setIfInBounds_toArray, List.set_cons_zero, List.set_cons_succ]); first | done | rfl))); clear hK K
      iterate 3 (refine Kr.seqQ (v := ?_) (a' := ?_) (by rfl) ?_ ?_ ?_; rotate_left 2; (focus (go_simp; first | done | rfl)); (focus ((try simp only [Act.put, List.setIfInBounds_toArray, List.set_cons_zero, List.set_cons_succ]); first | done | rfl)))
      have hk := H.c
      simp only [Kr.Cells] at hk
      iterate 2 (refine Kr.seqQ (v := ?_) (a' := ?_) (by rfl) ?_ ?_ ?_; rotate_left 2; (focus (go_simp; first | done | rfl)); (focus ((try simp only [Act.put, List.setIfInBounds_toArray, List.set_cons_zero, List.set_cons_succ]); first | done | rfl)))
      refine Kr.seqR (by rfl) (fun K hK => ?_)
      go_simp
      clear hk
      obtain ⟨y8, hy⟩ : ∃ y, y7.alloc (.cells #[.slice pp np cp, .slice pq nq cq] 24) = y := ⟨_, rfl⟩
      obtain ⟨by8, hb⟩ : ∃ b, y7.heap.size = b := ⟨_, rfl⟩
      rw [hy, hb]
      have HN : Nats y8 by8 0 [(pp, np, cp), (pq, nq, cq)] := nats_mk hy hb
      have hg : Gr y7 y8 := hy ▸ (Gr.refl _).alloc _
      replace H := H.grow hg
      clear hg hy hb
      (refine Kr.outS hK (a' := ?_) ?_ ?_; rotate_left; (focus ((try simp only [Act.put, List.setIfInBounds_toArray, List.set_cons_zero, List.set_cons_succ]); first | done | rfl))); clear hK K
      refine Kr.seqR (by rfl) (fun K hK => ?_)
      go_simp
      go_at_call 19
      go_at_call 19
      refine (few_ok HN (by simp) HS6.out).mono ?_
      rintro e y9 ⟨rfl, hg⟩
      replace H := H.grow hg
      clear hg
      clear HN
      (refine Kr.outS hK (a' := ?_) ?_ ?_; rotate_left; (focus ((try simp only [Act.put, List.setIfInBounds_toArray, List.set_cons_zero, List.set_cons_succ]); first | done | rfl))); clear hK K
      iterate 2 (refine Kr.seqQ (v := ?_) (a' := ?_) (by rfl) ?_ ?_ ?_; rotate_left 2; (focus (go_simp; first | done | rfl)); (focus ((try simp only [Act.put, List.setIfInBounds_toArray, List.set_cons_zero, List.set_cons_succ]); first | done | rfl)))
      (refine Kr.seqSkipQ (a' := ?_) (by rfl) ?_ ?_; rotate_left; (focus ((try simp only [Act.put, List.setIfInBounds_toArray, List.set_cons_zero, List.set_cons_succ]); first | done | rfl)))
      (refine Kr.seqSkipQ (a' := ?_) (by rfl) ?_ ?_; rotate_left; (focus ((try simp only [Act.put, List.setIfInBounds_toArray, List.set_cons_zero, List.set_cons_succ]); first | done | rfl)))
      (refine Kr.seqSkipQ (a' := ?_) (by rfl) ?_ ?_; rotate_left; (focus ((try simp only [Act.put, List.setIfInBounds_toArray, List.set_cons_zero, List.set_cons_succ]); first | done | rfl)))
      (refine Kr.seqSkipQ (a' := ?_) (by rfl) ?_ ?_; rotate_left; (focus ((try simp only [Act.put, List.setIfInBounds_toArray, List.set_cons_zero, List.set_cons_succ]); first | done | rfl)))
      (refine Kr.seqSkipQ (a' := ?_) (by rfl) ?_ ?_; rotate_left; (focus ((try simp only [Act.put, List.setIfInBounds_toArray, List.set_cons_zero, List.set_cons_succ]); first | done | rfl)))
      (refine Kr.seqSkipQ (a' := ?_) (by rfl) ?_ ?_; rotate_left; (focus ((try simp only [Act.put, List.setIfInBounds_toArray, List.set_cons_zero, List.set_cons_succ]); first | done | rfl)))
      (refine Kr.seqSkipQ (a' := ?_) (by rfl) ?_ ?_; rotate_left; (focus ((try simp only [Act.put, List.setIfInBounds_toArray, List.set_cons_zero, List.set_cons_succ]); first | done | rfl)))
      (refine Kr.seqSkipQ (a' := ?_) (by rfl) ?_ ?_; rotate_left; (focus ((try simp only [Act.put, List.setIfInBounds_toArray, List.set_cons_zero, List.set_cons_succ]); first | done | rfl)))
      iterate 2 (refine Kr.seqQ (v := ?_) (a' := ?_) (by rfl) ?_ ?_ ?_; rotate_left 2; (focus (go_simp; first | done | rfl)); (focus ((try simp only [Act.put, List.setIfInBounds_toArray, List.set_cons_zero, List.set_cons_succ]); first | done | rfl)))
      refine Kr.seqDoneW ?_
      go_wp2_with fail
      go_meet
      exact ⟨rfl, Lib.hid H⟩
    · have HG := Lib.hid hg
      have hLL : IntKind.i64.wrap ((np : Int) + (nq : Int)) = (np : Int) + (nq : Int) := IntWalk.i64_in _ (by omega)
      have hl2 : ¬ (np : Int) + (nq : Int) < 34 := by omega
      clear hg
      refine Kr.seqStartW ?_
      refine Kr.seqR (by rfl) (fun K hK => ?_)
      go_simp
      go_at_call 18
      refine (awake3 _).mono ?_
      rintro e y10 ⟨rfl, hg⟩
      replace H := H.grow hg
      clear hg
      (refine Kr.outS hK (a' := ?_) ?_ ?_; rotate_left; (focus ((try simp only [Act.put, List.setIfInBounds_toArray, List.set_cons_zero, List.set_cons_succ]); first | done | rfl))); clear hK K
      iterate 2 (refine Kr.seqQ (v := ?_) (a' := ?_) (by rfl) ?_ ?_ ?_; rotate_left 2; (focus (go_simp; first | done | rfl)); (focus ((try simp only [Act.put, List.setIfInBounds_toArray, List.set_cons_zero, List.set_cons_succ]); first | done | rfl)))
      have hk := H.c
      simp only [Kr.Cells] at hk
      iterate 4 (refine Kr.seqQ (v := ?_) (a' := ?_) (by rfl) ?_ ?_ ?_; rotate_left 2; (focus (go_simp; first | done | rfl)); (focus ((try simp only [Act.put, List.setIfInBounds_toArray, List.set_cons_zero, List.set_cons_succ]); first | done | rfl)))
      refine Kr.seqR (by rfl) (fun K hK => ?_)
      go_simp
      clear hk
      obtain ⟨y11, hy⟩ : ∃ y, y10.alloc (.cells #[.slice pa na ca, .slice pp np cp, .slice pb nb cb, .slice pq nq cq] 24) = y := ⟨_, rfl⟩
      obtain ⟨by11, hb⟩ : ∃ b, y10.heap.size = b := ⟨_, rfl⟩
      rw [hy, hb]
      have HN : Nats y11 by11 0 [(pa, na, ca), (pp, np, cp), (pb, nb, cb), (pq, nq, cq)] := nats_mk hy hb
      have hg : Gr y10 y11 := hy ▸ (Gr.refl _).alloc _
      replace H := H.grow hg
      clear hg hy hb
      (refine Kr.outS hK (a' := ?_) ?_ ?_; rotate_left; (focus ((try simp only [Act.put, List.setIfInBounds_toArray, List.set_cons_zero, List.set_cons_succ]); first | done | rfl))); clear hK K
      refine Kr.seqR (by rfl) (fun K hK => ?_)
      go_simp
      go_at_call 19
      go_at_call 19
      refine (few_ok HN (by simp) HS.out).mono ?_
      rintro e y12 ⟨rfl, hg⟩
      replace H := H.grow hg
      clear hg
      clear HN
      (refine Kr.outS hK (a' := ?_) ?_ ?_; rotate_left; (focus ((try simp only [Act.put, List.setIfInBounds_toArray, List.set_cons_zero, List.set_cons_succ]); first | done | rfl))); clear hK K
      iterate 3 (refine Kr.seqQ (v := ?_) (a' := ?_) (by rfl) ?_ ?_ ?_; rotate_left 2; (focus (go_simp; first | done | rfl)); (focus ((try simp only [Act.put, List.setIfInBounds_toArray, List.set_cons_zero, List.set_cons_succ]); first | done | rfl)))
      have hk := H.c
      simp only [Kr.Cells] at hk
      iterate 2 (refine Kr.seqQ (v := ?_) (a' := ?_) (by rfl) ?_ ?_ ?_; rotate_left 2; (focus (go_simp; first | done | rfl)); (focus ((try simp only [Act.put, List.setIfInBounds_toArray, List.set_cons_zero, List.set_cons_succ]); first | done | rfl)))
      refine Kr.seqR (by rfl) (fun K hK => ?_)
      go_simp
      clear hk
      obtain ⟨y13, hy⟩ : ∃ y, y12.alloc (.cells #[.slice pp np cp, .slice pq nq cq] 24) = y := ⟨_, rfl⟩
      obtain ⟨by13, hb⟩ : ∃ b, y12.heap.size = b := ⟨_, rfl⟩
      rw [hy, hb]
      have HN : Nats y13 by13 0 [(pp, np, cp), (pq, nq, cq)] := nats_mk hy hb
      have hg : Gr y12 y13 := hy ▸ (Gr.refl _).alloc _
      replace H := H.grow hg
      clear hg hy hb
      (refine Kr.outS hK (a' := ?_) ?_ ?_; rotate_left; (focus ((try simp only [Act.put, List.setIfInBounds_toArray, List.set_cons_zero, List.set_cons_succ]); first | done | rfl))); clear hK K
      refine Kr.seqR (by rfl) (fun K hK => ?_)
      go_simp
      go_at_call 19
      go_at_call 19
      refine (few_no HN (by simp) HG.out).mono ?_
      rintro e y14 ⟨rfl, hg⟩
      replace H := H.grow hg
      clear hg
      clear HN
      (refine Kr.outS hK (a' := ?_) ?_ ?_; rotate_left; (focus ((try simp only [Act.put, List.setIfInBounds_toArray, List.set_cons_zero, List.set_cons_succ]); first | done | rfl))); clear hK K
      iterate 3 (refine Kr.seqQ (v := ?_) (a' := ?_) (by rfl) ?_ ?_ ?_; rotate_left 2; (focus (go_simp; first | done | rfl)); (focus ((try simp only [Act.put, List.setIfInBounds_toArray, List.set_cons_zero, List.set_cons_succ]); first | done | rfl)))
      have hk := H.c
      simp only [Kr.Cells] at hk
      iterate 9 (refine Kr.seqQ (v := ?_) (a' := ?_) (by rfl) ?_ ?_ ?_; rotate_left 2; (focus (go_simp; first | done | rfl)); (focus ((try simp only [Act.put, List.setIfInBounds_toArray, List.set_cons_zero, List.set_cons_succ]); first | done | rfl)))
      clear hk
      refine Kr.seqDoneW ?_
      go_wp2_with fail
      go_meet
      exact ⟨rfl, Lib.hid H⟩
  case rest =>
    clear H
    obtain ⟨rfl, HH⟩ := hcut
    have H := HH.out
    clear HH
    go_upto_region 3 with fail
    refine Kr.seqStartW ?_
    have hk := H.c
    simp only [Kr.Cells] at hk
    iterate 4 (refine Kr.seqQ (v := ?_) (a' := ?_) (by rfl) ?_ ?_ ?_; rotate_left 2; (focus (go_simp; first | done | rfl)); (focus ((try simp only [Act.put, List.setIfInBounds_toArray, List.set_cons_zero, List.set_cons_succ]); first | done | rfl)))
    refine Kr.seqR (by rfl) (fun K hK => ?_)
    go_simp
    go_at_call 35
    refine (HR.out _ H.g).mono ?_
    rintro e y15 ⟨p15, n15, c15, rfl, hr, hg⟩
    obtain rfl : n15 = 0 := by rw [← hr.len, digs_zero]; rfl
    clear hk
    replace H := H.grow hg
    clear hr hg
    (refine Kr.outS hK (a' := ?_) ?_ ?_; rotate_left; (focus ((try simp only [Act.put, List.setIfInBounds_toArray, List.set_cons_zero, List.set_cons_succ]); first | done | rfl))); clear hK K
    iterate 3 (refine Kr.seqQ (v := ?_) (a' := ?_) (by rfl) ?_ ?_ ?_; rotate_left 2; (focus (go_simp; first | done | rfl)); (focus ((try simp only [Act.put, List.setIfInBounds_toArray, List.set_cons_zero, List.set_cons_succ]); first | done | rfl)))
    refine Kr.seqR (by rfl) (fun K hK => ?_)
    go_simp
    obtain ⟨y16, hy⟩ : ∃ y, y15.alloc (.cells #[.slice none 0 0] 24) = y := ⟨_, rfl⟩
    obtain ⟨bx, hb⟩ : ∃ b, y15.heap.size = b := ⟨_, rfl⟩
    rw [hy, hb]
    replace H := H.alloc hy hb rfl
    clear hy hb
    (refine Kr.outS hK (a' := ?_) ?_ ?_; rotate_left; (focus ((try simp only [Act.put, List.setIfInBounds_toArray, List.set_cons_zero, List.set_cons_succ]); first | done | rfl))); clear hK K
    have hk := H.c
    simp only [Kr.Cells] at hk
    refine Kr.seqR (by rfl) (fun K hK => ?_)
    go_simp
    clear hk
    obtain ⟨y17, hy⟩ : ∃ y, y16.setCell ⟨bx, 0, none⟩ (.slice p15 0 c15) = y := ⟨_, rfl⟩
    rw [hy]
    replace H := H.store 0 hy rfl rfl
    dsimp only [List.set] at H
    clear hy
    (refine Kr.outS hK (a' := ?_) ?_ ?_; rotate_left; (focus ((try simp only [Act.put, List.setIfInBounds_toArray, List.set_cons_zero, List.set_cons_succ]); first | done | rfl))); clear hK K
    (refine Kr.seqQ (v := ?_) (a' := ?_) (by rfl) ?_ ?_ ?_; rotate_left 2; (focus (go_simp; first | done | rfl)); (focus ((try simp only [Act.put, List.setIfInBounds_toArray, List.set_cons_zero, List.set_cons_succ]); first | done | rfl)))
    refine Kr.seqDoneW ?_
    go_upto_region 4 with fail
    refine Kr.seqStartW ?_
    (refine Kr.seqQ (v := ?_) (a' := ?_) (by rfl) ?_ ?_ ?_; rotate_left 2; (focus (go_simp; first | done | rfl)); (focus ((try simp only [Act.put, List.setIfInBounds_toArray, List.set_cons_zero, List.set_cons_succ]); first | done | rfl)))
    refine Kr.seqDoneW ?_
    go_upto_region 5 with fail
    refine Kr.seqStartW ?_
    have hk := H.c
    simp only [Kr.Cells] at hk
    (refine Kr.seqQ (v := ?_) (a' := ?_) (by rfl) ?_ ?_ ?_; rotate_left 2; (focus (go_simp; first | done | rfl)); (focus ((try simp only [Act.put, List.setIfInBounds_toArray, List.set_cons_zero, List.set_cons_succ]); first | done | rfl)))
    refine Kr.seqR (by rfl) (fun K hK => ?_)
    go_simp
    go_at_call 22
    refine (first_nil (H.nw 2 rfl)).mono ?_
    rintro e y18 ⟨rfl, hg⟩
    rw [im_digs P0.out VP.out, if_pos rfl]
    clear hk
    replace H := H.grow hg
    clear hg
    (refine Kr.outS hK (a' := ?_) ?_ ?_; rotate_left; (focus ((try simp only [Act.put, List.setIfInBounds_toArray, List.set_cons_zero, List.set_cons_succ]); first | done | rfl))); clear hK K
    iterate 2 (refine Kr.seqQ (v := ?_) (a' := ?_) (by rfl) ?_ ?_ ?_; rotate_left 2; (focus (go_simp; first | done | rfl)); (focus ((try simp only [Act.put, List.setIfInBounds_toArray, List.set_cons_zero, List.set_cons_succ]); first | done | rfl)))
    have hk := H.c
    simp only [Kr.Cells] at hk
    (refine Kr.seqQ (v := ?_) (a' := ?_) (by rfl) ?_ ?_ ?_; rotate_left 2; (focus (go_simp; first | done | rfl)); (focus ((try simp only [Act.put, List.setIfInBounds_toArray, List.set_cons_zero, List.set_cons_succ]); first | done | rfl)))
    refine Kr.seqR (by rfl) (fun K hK => ?_)
    go_simp
    go_at_call 22
    refine (first_nil (H.nw 0 rfl)).mono ?_
    rintro e y19 ⟨rfl, hg⟩
    rw [im_digs Q0.out VQ.out, if_pos rfl]
    clear hk
    replace H := H.grow hg
    clear hg
    (refine Kr.outS hK (a' := ?_) ?_ ?_; rotate_left; (focus ((try simp only [Act.put, List.setIfInBounds_toArray, List.set_cons_zero, List.set_cons_succ]); first | done | rfl))); clear hK K
    iterate 3 (refine Kr.seqQ (v := ?_) (a' := ?_) (by rfl) ?_ ?_ ?_; rotate_left 2; (focus (go_simp; first | done | rfl)); (focus ((try simp only [Act.put, List.setIfInBounds_toArray, List.set_cons_zero, List.set_cons_succ]); first | done | rfl)))
    have hk := H.c
    simp only [Kr.Cells] at hk
    (refine Kr.seqQ (v := ?_) (a' := ?_) (by rfl) ?_ ?_ ?_; rotate_left 2; (focus (go_simp; first | done | rfl)); (focus ((try simp only [Act.put, List.setIfInBounds_toArray, List.set_cons_zero, List.set_cons_succ]); first | done | rfl)))
    refine Kr.seqR (by rfl) (fun K hK => ?_)
    go_simp
    go_at_call 29
    refine (valid3_any _ _ _ _ _ (H.nw 3 rfl)).mono ?_
    rintro e y20 ⟨rfl, hg⟩
    rw [dv VA.out]
    clear hk
    replace H := H.grow hg
    clear hg
    (refine Kr.outS hK (a' := ?_) ?_ ?_; rotate_left; (focus ((try simp only [Act.put, List.setIfInBounds_toArray, List.set_cons_zero, List.set_cons_succ]); first | done | rfl))); clear hK K
    iterate 3 (refine Kr.seqQ (v := ?_) (a' := ?_) (by rfl) ?_ ?_ ?_; rotate_left 2; (focus (go_simp; first | done | rfl)); (focus ((try simp only [Act.put, List.setIfInBounds_toArray, List.set_cons_zero, List.set_cons_succ]); first | done | rfl)))
    have hk := H.c
    simp only [Kr.Cells] at hk
    (refine Kr.seqQ (v := ?_) (a' := ?_) (by rfl) ?_ ?_ ?_; rotate_left 2; (focus (go_simp; first | done | rfl)); (focus ((try simp only [Act.put, List.setIfInBounds_toArray, List.set_cons_zero, List.set_cons_succ]); first | done | rfl)))
    refine Kr.seqR (by rfl) (fun K hK => ?_)
    go_simp
    go_at_call 29
    refine (valid3_any _ _ _ _ _ (H.nw 1 rfl)).mono ?_
    rintro e y21 ⟨rfl, hg⟩
    rw [dv VB.out]
    clear hk
    replace H := H.grow hg
    clear hg
    (refine Kr.outS hK (a' := ?_) ?_ ?_; rotate_left; (focus ((try simp only [Act.put, List.setIfInBounds_toArray, List.set_cons_zero, List.set_cons_succ]); first | done | rfl))); clear hK K
    iterate 3 (refine Kr.seqQ (v := ?_) (a' := ?_) (by rfl) ?_ ?_ ?_; rotate_left 2; (focus (go_simp; first | done | rfl)); (focus ((try simp only [Act.put, List.setIfInBounds_toArray, List.set_cons_zero, List.set_cons_succ]); first | done | rfl)))
    refine Kr.seqDoneW ?_
    go_upto_region 7 with fail
    refine Kr.seqStartW ?_
    have hk := H.c
    simp only [Kr.Cells] at hk
    iterate 2 (refine Kr.seqQ (v := ?_) (a' := ?_) (by rfl) ?_ ?_ ?_; rotate_left 2; (focus (go_simp; first | done | rfl)); (focus ((try simp only [Act.put, List.setIfInBounds_toArray, List.set_cons_zero, List.set_cons_succ]); first | done | rfl)))
    refine Kr.seqR (by rfl) (fun K hK => ?_)
    go_simp
    go_at_call 36
    refine (less3_v (H.nw 3 rfl) (H.nw 2 rfl)).mono ?_
    rintro e y22 ⟨rfl, hg⟩
    rw [decide_eq_false HX.out]
    clear hk
    replace H := H.grow hg
    clear hg
    (refine Kr.outS hK (a' := ?_) ?_ ?_; rotate_left; (focus ((try simp only [Act.put, List.setIfInBounds_toArray, List.set_cons_zero, List.set_cons_succ]); first | done | rfl))); clear hK K
    iterate 2 (refine Kr.seqQ (v := ?_) (a' := ?_) (by rfl) ?_ ?_ ?_; rotate_left 2; (focus (go_simp; first | done | rfl)); (focus ((try simp only [Act.put, List.setIfInBounds_toArray, List.set_cons_zero, List.set_cons_succ]); first | done | rfl)))
    (refine Kr.seqSkipQ (a' := ?_) (by rfl) ?_ ?_; rotate_left; (focus ((try simp only [Act.put, List.setIfInBounds_toArray, List.set_cons_zero, List.set_cons_succ]); first | done | rfl)))
    (refine Kr.seqSkipQ (a' := ?_) (by rfl) ?_ ?_; rotate_left; (focus ((try simp only [Act.put, List.setIfInBounds_toArray, List.set_cons_zero, List.set_cons_succ]); first | done | rfl)))
    (refine Kr.seqSkipQ (a' := ?_) (by rfl) ?_ ?_; rotate_left; (focus ((try simp only [Act.put, List.setIfInBounds_toArray, List.set_cons_zero, List.set_cons_succ]); first | done | rfl)))
    (refine Kr.seqSkipQ (a' := ?_) (by rfl) ?_ ?_; rotate_left; (focus ((try simp only [Act.put, List.setIfInBounds_toArray, List.set_cons_zero, List.set_cons_succ]); first | done | rfl)))
    iterate 2 (refine Kr.seqQ (v := ?_) (a' := ?_) (by rfl) ?_ ?_ ?_; rotate_left 2; (focus (go_simp; first | done | rfl)); (focus ((try simp only [Act.put, List.setIfInBounds_toArray, List.set_cons_zero, List.set_cons_succ]); first | done | rfl)))
    refine Kr.seqDoneW ?_
    go_upto_region 8 with fail
    refine Kr.seqStartW ?_
    (refine Kr.seqQ (v := ?_) (a' := ?_) (by rfl) ?_ ?_ ?_; rotate_left 2; (focus (go_simp; first | done | rfl)); (focus ((try simp only [Act.put, List.setIfInBounds_toArray, List.set_cons_zero, List.set_cons_succ]); first | done | rfl)))
    refine Kr.seqDoneW ?_
    go_upto_region 13 with fail
    refine Kr.seqStartW ?_
    iterate 2 (refine Kr.seqQ (v := ?_) (a' := ?_) (by rfl) ?_ ?_ ?_; rotate_left 2; (focus (go_simp; first | done | rfl)); (focus ((try simp only [Act.put, List.setIfInBounds_toArray, List.set_cons_zero, List.set_cons_succ]); first | done | rfl)))
    refine Kr.seqDoneW ?_
    go_upto_region 14 with fail
    refine Kr.seqStartW ?_
    (refine Kr.seqQ (v := ?_) (a' := ?_) (by rfl) ?_ ?_ ?_; rotate_left 2; (focus (go_simp; first | done | rfl)); (focus ((try simp only [Act.put, List.setIfInBounds_toArray, List.set_cons_zero, List.set_cons_succ]); first | done | rfl)))
    have hk := H.c
    simp only [Kr.Cells] at hk
    iterate 9 (refine Kr.seqQ (v := ?_) (a' := ?_) (by rfl) ?_ ?_ ?_; rotate_left 2; (focus (go_simp; first | done | rfl)); (focus ((try simp only [Act.put, List.setIfInBounds_toArray, List.set_cons_zero, List.set_cons_succ]); first | done | rfl)))
    clear hk
    refine Kr.seqDoneW ?_
    go_wp2
    go_ret
    exact ⟨rfl, H.g⟩
set_option linter.unusedSimpArgs false in
set_option maxRecDepth 100000 in
set_option maxHeartbeats 16000000 in
theorem crt_any_rb {pa : Option Addr} {na ca : Nat} {pp : Option Addr} {np cp : Nat} {pb : Option Addr} {nb cb : Nat} {pq : Option Addr} {nq cq : Nat} {a p b q : Nat} {w : World} (hs : ∀ x ∈ [(pa, na, ca), (pp, np, cp), (pb, nb, cb), (pq, nq, cq)], x.2.1 ≤ 40) (hw : (∀ x ∈ [(pp, np, cp), (pq, nq, cq)], x.2.1 ≤ 6) ∨ ((∃ x ∈ [(pp, np, cp), (pq, nq, cq)], 6 < x.2.1) ∧ 34 ≤ np + nq ∧ np + nq ≤ 80)) (ha : Nw w pa na ca (digs a)) (hp : Nw w pp np cp (digs p)) (hb : Nw w pb nb cb (digs b)) (hq : Nw w pq nq cq (digs q)) (p0 : 0 < p) (vp : p < pw 32) (q0 : 0 < q) (vq : q < pw 32) (va : a < pw 64) (vb : b < pw 64) (hr : ∀ W, Gr w W → Calls Try.prog 35 #[.agg #[.slice pa na ca], .agg #[.slice pp np cp], .agg #[.slice pb nb cb], .agg #[.slice pq nq cq]] W (HasE 0 2 W)) (hx : a < p) (hy : ¬ b < q) :
    Calls Try.prog 6 #[.agg #[.slice pa na ca], .agg #[.slice pp np cp], .agg #[.slice pb nb cb], .agg #[.slice pq nq cq]] w fun e w' => e = .returned (.bool true) ∧ Gr w w' := by
  have HS := Lib.hid hs
  have HW := Lib.hid hw
  clear hs hw
  have P0 := Lib.hid p0
  have VP := Lib.hid vp
  have Q0 := Lib.hid q0
  have VQ := Lib.hid vq
  have VA := Lib.hid va
  have VB := Lib.hid vb
  clear p0 vp q0 vq va vb
  have VP9 : Hid (p < pw 900) := Lib.hid (Nat.lt_of_lt_of_le VP.out (pw_mono (by decide)))
  have VQ9 : Hid (q < pw 900) := Lib.hid (Nat.lt_of_lt_of_le VQ.out (pw_mono (by decide)))
  have HR := Lib.hid hr
  clear hr
  have HX := Lib.hid hx
  have HY := Lib.hid hy
  clear hx hy
  have H := Sta.start w
  replace H := H.num ha
  replace H := H.num hp
  replace H := H.num hb
  replace H := H.num hq
  go_enter Try.func6, Try.ntmps6
  go_upto_region 0 with fail
  refine Kr.seqStartW ?_
  refine Kr.seqR (by rfl) (fun K hK => ?_)
  go_simp
  obtain ⟨y1, hy⟩ : ∃ y, w.alloc (.cells #[.slice pa na ca] 24) = y := ⟨_, rfl⟩
  obtain ⟨ba, hb⟩ : ∃ b, w.heap.size = b := ⟨_, rfl⟩
  rw [hy, hb]
  replace H := H.alloc hy hb rfl
  clear hy hb
  (refine Kr.outS hK (a' := ?_) ?_ ?_; rotate_left; (focus ((try simp only [Act.put, List.setIfInBounds_toArray, List.set_cons_zero, List.set_cons_succ]); first | done | rfl))); clear hK K
  refine Kr.seqR (by rfl) (fun K hK => ?_)
  go_simp
  obtain ⟨y2, hy⟩ : ∃ y, y1.alloc (.cells #[.slice pp np cp] 24) = y := ⟨_, rfl⟩
  obtain ⟨bp, hb⟩ : ∃ b, y1.heap.size = b := ⟨_, rfl⟩
  rw [hy, hb]
  replace H := H.alloc hy hb rfl
  clear hy hb
  (refine Kr.outS hK (a' := ?_) ?_ ?_; rotate_left; (focus ((try simp only [Act.put, List.setIfInBounds_toArray, List.set_cons_zero, List.set_cons_succ]); first | done | rfl))); clear hK K
  refine Kr.seqR (by rfl) (fun K hK => ?_)
  go_simp
  obtain ⟨y3, hy⟩ : ∃ y, y2.alloc (.cells #[.slice pb nb cb] 24) = y := ⟨_, rfl⟩
  obtain ⟨bb, hb⟩ : ∃ b, y2.heap.size = b := ⟨_, rfl⟩
  rw [hy, hb]
  replace H := H.alloc hy hb rfl
  clear hy hb
  (refine Kr.outS hK (a' := ?_) ?_ ?_; rotate_left; (focus ((try simp only [Act.put, List.setIfInBounds_toArray, List.set_cons_zero, List.set_cons_succ]); first | done | rfl))); clear hK K
  refine Kr.seqR (by rfl) (fun K hK => ?_)
  go_simp
  obtain ⟨y4, hy⟩ : ∃ y, y3.alloc (.cells #[.slice pq nq cq] 24) = y := ⟨_, rfl⟩
  obtain ⟨bq, hb⟩ : ∃ b, y3.heap.size = b := ⟨_, rfl⟩
  rw [hy, hb]
  replace H := H.alloc hy hb rfl
  clear hy hb
  (refine Kr.outS hK (a' := ?_) ?_ ?_; rotate_left; (focus ((try simp only [Act.put, List.setIfInBounds_toArray, List.set_cons_zero, List.set_cons_succ]); first | done | rfl))); clear hK K
  (refine Kr.seqQ (v := ?_) (a' := ?_) (by rfl) ?_ ?_ ?_; rotate_left 2; (focus (go_simp; first | done | rfl)); (focus ((try simp only [Act.put, List.setIfInBounds_toArray, List.set_cons_zero, List.set_cons_succ]); first | done | rfl)))
  refine Kr.seqDoneW ?_
  go_upto_region 1 with fail
  go_cut [39] from 12 to 38 (fun s39 W => s39 = .bool false ∧ Hid (Sta w W [(bq, 0, .slice pq nq cq), (bb, 0, .slice pb nb cb), (bp, 0, .slice pp np cp), (ba, 0, .slice pa na ca)] [N pq nq cq (q), N pb nb cb (b), N pp np cp (p), N pa na ca (a)]))
  case first =>
    rcases HW.out with h6 | ⟨hg, hl, hu⟩
    · have HS6 := Lib.hid h6
      clear h6
      refine Kr.seqStartW ?_
      refine Kr.seqR (by rfl) (fun K hK => ?_)
      go_simp
      go_at_call 18
      refine (awake3 _).mono ?_
      rintro e y5 ⟨rfl, hg⟩
      replace H := H.grow hg
      clear hg
      (refine Kr.outS hK (a' := ?_) ?_ ?_; rotate_left; (focus ((try simp only [Act.put, List.setIfInBounds_toArray, List.set_cons_zero, List.set_cons_succ]); first | done | rfl))); clear hK K
      iterate 2 (refine Kr.seqQ (v := ?_) (a' := ?_) (by rfl) ?_ ?_ ?_; rotate_left 2; (focus (go_simp; first | done | rfl)); (focus ((try simp only [Act.put, List.setIfInBounds_toArray, List.set_cons_zero, List.set_cons_succ]); first | done | rfl)))
      have hk := H.c
      simp only [Kr.Cells] at hk
      iterate 4 (refine Kr.seqQ (v := ?_) (a' := ?_) (by rfl) ?_ ?_ ?_; rotate_left 2; (focus (go_simp; first | done | rfl)); (focus ((try simp only [Act.put, List.setIfInBounds_toArray, List.set_cons_zero, List.set_cons_succ]); first | done | rfl)))
      refine Kr.seqR (by rfl) (fun K hK => ?_)
      go_simp
      clear hk
      obtain ⟨y6, hy⟩ : ∃ y, y5.alloc (.cells #[.slice pa na ca, .slice pp np cp, .slice pb nb cb, .slice pq nq cq] 24) = y := ⟨_, rfl⟩
      obtain ⟨by6, hb⟩ : ∃ b, y5.heap.size = b := ⟨_, rfl⟩
      rw [hy, hb]
      have HN : Nats y6 by6 0 [(pa, na, ca), (pp, np, cp), (pb, nb, cb), (pq, nq, cq)] := nats_mk hy hb
      have hg : Gr y5 y6 := hy ▸ (Gr.refl _).alloc _
      replace H := H.grow hg
      clear hg hy hb
      (refine Kr.outS hK (a' := ?_) ?_ ?_; rotate_left; (focus ((try simp only [Act.put, List.setIfInBounds_toArray, List.set_cons_zero, List.set_cons_succ]); first | done | rfl))); clear hK K
      refine Kr.seqR (by rfl) (fun K hK => ?_)
      go_simp
      go_at_call 19
      go_at_call 19
      refine (few_ok HN (by simp) HS.out).mono ?_
      rintro e y7 ⟨rfl, hg⟩
      replace H := H.grow hg
      clear hg
      clear HN
      (refine Kr.outS hK (a' := ?_) ?_ ?_; rotate_left; (focus ((try simp only [Act.put, List.setIfInBounds_toArray, List.set_cons_zero, List.set_cons_succ]); first | done | rfl))); clear hK K
      iterate 3 (refine Kr.seqQ (v := ?_) (a' := ?_) (by rfl) ?_ ?_ ?_; rotate_left 2; (focus (go_simp; first | done | rfl)); (focus ((try simp only [Act.put, List.setIfInBounds_toArray, List.set_cons_zero, List.set_cons_succ]); first | done | rfl)))
      have hk := H.c
      simp only [Kr.Cells] at hk
      iterate 2 (refine Kr.seqQ (v := ?_) (a' := ?_) (by rfl) ?_ ?_ ?_; rotate_left 2; (focus (go_simp; first | done | rfl)); (focus ((try simp only [Act.put, List.setIfInBounds_toArray, List.set_cons_zero, List.set_cons_succ]); first | done | rfl)))
      refine Kr.seqR (by rfl) (fun K hK => ?_)
      go_simp
      clear hk
      obtain ⟨y8, hy⟩ : ∃ y, y7.alloc (.cells #[.slice pp np cp, .slice pq nq cq] 24) = y := ⟨_, rfl⟩
      obtain ⟨by8, hb⟩ : ∃ b, y7.heap.size = b := ⟨_, rfl⟩
      rw [hy, hb]
      have HN : Nats y8 by8 0 [(pp, np, cp), (pq, nq, cq)] := nats_mk hy hb
      have hg : Gr y7 y8 := hy ▸ (Gr.refl _).alloc _
      replace H := H.grow hg
      clear hg hy hb
      (refine Kr.outS hK (a' := ?_) ?_ ?_; rotate_left; (focus ((try simp only [Act.put, List.setIfInBounds_toArray, List.set_cons_zero, List.set_cons_succ]); first | done | rfl))); clear hK K
      refine Kr.seqR (by rfl) (fun K hK => ?_)
      go_simp
      go_at_call 19
      go_at_call 19
      refine (few_ok HN (by simp) HS6.out).mono ?_
      rintro e y9 ⟨rfl, hg⟩
      replace H := H.grow hg
      clear hg
      clear HN
      (refine Kr.outS hK (a' := ?_) ?_ ?_; rotate_left; (focus ((try simp only [Act.put, List.setIfInBounds_toArray, List.set_cons_zero, List.set_cons_succ]); first | done | rfl))); clear hK K
      iterate 2 (refine Kr.seqQ (v := ?_) (a' := ?_) (by rfl) ?_ ?_ ?_; rotate_left 2; (focus (go_simp; first | done | rfl)); (focus ((try simp only [Act.put, List.setIfInBounds_toArray, List.set_cons_zero, List.set_cons_succ]); first | done | rfl)))
      (refine Kr.seqSkipQ (a' := ?_) (by rfl) ?_ ?_; rotate_left; (focus ((try simp only [Act.put, List.setIfInBounds_toArray, List.set_cons_zero, List.set_cons_succ]); first | done | rfl)))
      (refine Kr.seqSkipQ (a' := ?_) (by rfl) ?_ ?_; rotate_left; (focus ((try simp only [Act.put, List.setIfInBounds_toArray, List.set_cons_zero, List.set_cons_succ]); first | done | rfl)))
      (refine Kr.seqSkipQ (a' := ?_) (by rfl) ?_ ?_; rotate_left; (focus ((try simp only [Act.put, List.setIfInBounds_toArray, List.set_cons_zero, List.set_cons_succ]); first | done | rfl)))
      (refine Kr.seqSkipQ (a' := ?_) (by rfl) ?_ ?_; rotate_left; (focus ((try simp only [Act.put, List.setIfInBounds_toArray, List.set_cons_zero, List.set_cons_succ]); first | done | rfl)))
      (refine Kr.seqSkipQ (a' := ?_) (by rfl) ?_ ?_; rotate_left; (focus ((try simp only [Act.put, List.setIfInBounds_toArray, List.set_cons_zero, List.set_cons_succ]); first | done | rfl)))
      (refine Kr.seqSkipQ (a' := ?_) (by rfl) ?_ ?_; rotate_left; (focus ((try simp only [Act.put, List.setIfInBounds_toArray, List.set_cons_zero, List.set_cons_succ]); first | done | rfl)))
      (refine Kr.seqSkipQ (a' := ?_) (by rfl) ?_ ?_; rotate_left; (focus ((try simp only [Act.put, List.setIfInBounds_toArray, List.set_cons_zero, List.set_cons_succ]); first | done | rfl)))
      (refine Kr.seqSkipQ (a' := ?_) (by rfl) ?_ ?_; rotate_left; (focus ((try simp only [Act.put, List.setIfInBounds_toArray, List.set_cons_zero, List.set_cons_succ]); first | done | rfl)))
      iterate 2 (refine Kr.seqQ (v := ?_) (a' := ?_) (by rfl) ?_ ?_ ?_; rotate_left 2; (focus (go_simp; first | done | rfl)); (focus ((try simp only [Act.put, List.setIfInBounds_toArray, List.set_cons_zero, List.set_cons_succ]); first | done | rfl)))
      refine Kr.seqDoneW ?_
      go_wp2_with fail
      go_meet
      exact ⟨rfl, Lib.hid H⟩
    · have HG := Lib.hid hg
      have hLL : IntKind.i64.wrap ((np : Int) + (nq : Int)) = (np : Int) + (nq : Int) := IntWalk.i64_in _ (by omega)
      have hl2 : ¬ (np : Int) + (nq : Int) < 34 := by omega
      clear hg
      refine Kr.seqStartW ?_
      refine Kr.seqR (by rfl) (fun K hK => ?_)
      go_simp
      go_at_call 18
      refine (awake3 _).mono ?_
      rintro e y10 ⟨rfl, hg⟩
      replace H := H.grow hg
      clear hg
      (refine Kr.outS hK (a' := ?_) ?_ ?_; rotate_left; (focus ((try simp only [Act.put, List.setIfInBounds_toArray, List.set_cons_zero, List.set_cons_succ]); first | done | rfl))); clear hK K
      iterate 2 (refine Kr.seqQ (v := ?_) (a' := ?_) (by rfl) ?_ ?_ ?_; rotate_left 2; (focus (go_simp; first | done | rfl)); (focus ((try simp only [Act.put, List.setIfInBounds_toArray, List.set_cons_zero, List.set_cons_succ]); first | done | rfl)))
      have hk := H.c
      simp only [Kr.Cells] at hk
      iterate 4 (refine Kr.seqQ (v := ?_) (a' := ?_) (by rfl) ?_ ?_ ?_; rotate_left 2; (focus (go_simp; first | done | rfl)); (focus ((try simp only [Act.put, List.setIfInBounds_toArray, List.set_cons_zero, List.set_cons_succ]); first | done | rfl)))
      refine Kr.seqR (by rfl) (fun K hK => ?_)
      go_simp
      clear hk
      obtain ⟨y11, hy⟩ : ∃ y, y10.alloc (.cells #[.slice pa na ca, .slice pp np cp, .slice pb nb cb, .slice pq nq cq] 24) = y := ⟨_, rfl⟩
      obtain ⟨by11, hb⟩ : ∃ b, y10.heap.size = b := ⟨_, rfl⟩
      rw [hy, hb]
      have HN : Nats y11 by11 0 [(pa, na, ca), (pp, np, cp), (pb, nb, cb), (pq, nq, cq)] := nats_mk hy hb
      have hg : Gr y10 y11 := hy ▸ (Gr.refl _).alloc _
      replace H := H.grow hg
      clear hg hy hb
      (refine Kr.outS hK (a' := ?_) ?_ ?_; rotate_left; (focus ((try simp only [Act.put, List.setIfInBounds_toArray, List.set_cons_zero, List.set_cons_succ]); first | done | rfl))); clear hK K
      refine Kr.seqR (by rfl) (fun K hK => ?_)
      go_simp
      go_at_call 19
      go_at_call 19
      refine (few_ok HN (by simp) HS.out).mono ?_
      rintro e y12 ⟨rfl, hg⟩
      replace H := H.grow hg
      clear hg
      clear HN
      (refine Kr.outS hK (a' := ?_) ?_ ?_; rotate_left; (focus ((try simp only [Act.put, List.setIfInBounds_toArray, List.set_cons_zero, List.set_cons_succ]); first | done | rfl))); clear hK K
      iterate 3 (refine Kr.seqQ (v := ?_) (a' := ?_) (by rfl) ?_ ?_ ?_; rotate_left 2; (focus (go_simp; first | done | rfl)); (focus ((try simp only [Act.put, List.setIfInBounds_toArray, List.set_cons_zero, List.set_cons_succ]); first | done | rfl)))
      have hk := H.c
      simp only [Kr.Cells] at hk
      iterate 2 (refine Kr.seqQ (v := ?_) (a' := ?_) (by rfl) ?_ ?_ ?_; rotate_left 2; (focus (go_simp; first | done | rfl)); (focus ((try simp only [Act.put, List.setIfInBounds_toArray, List.set_cons_zero, List.set_cons_succ]); first | done | rfl)))
      refine Kr.seqR (by rfl) (fun K hK => ?_)
      go_simp
      clear hk
      obtain ⟨y13, hy⟩ : ∃ y, y12.alloc (.cells #[.slice pp np cp, .slice pq nq cq] 24) = y := ⟨_, rfl⟩
      obtain ⟨by13, hb⟩ : ∃ b, y12.heap.size = b := ⟨_, rfl⟩
      rw [hy, hb]
      have HN : Nats y13 by13 0 [(pp, np, cp), (pq, nq, cq)] := nats_mk hy hb
      have hg : Gr y12 y13 := hy ▸ (Gr.refl _).alloc _
      replace H := H.grow hg
      clear hg hy hb
      (refine Kr.outS hK (a' := ?_) ?_ ?_; rotate_left; (focus ((try simp only [Act.put, List.setIfInBounds_toArray, List.set_cons_zero, List.set_cons_succ]); first | done | rfl))); clear hK K
      refine Kr.seqR (by rfl) (fun K hK => ?_)
      go_simp
      go_at_call 19
      go_at_call 19
      refine (few_no HN (by simp) HG.out).mono ?_
      rintro e y14 ⟨rfl, hg⟩
      replace H := H.grow hg
      clear hg
      clear HN
      (refine Kr.outS hK (a' := ?_) ?_ ?_; rotate_left; (focus ((try simp only [Act.put, List.setIfInBounds_toArray, List.set_cons_zero, List.set_cons_succ]); first | done | rfl))); clear hK K
      iterate 3 (refine Kr.seqQ (v := ?_) (a' := ?_) (by rfl) ?_ ?_ ?_; rotate_left 2; (focus (go_simp; first | done | rfl)); (focus ((try simp only [Act.put, List.setIfInBounds_toArray, List.set_cons_zero, List.set_cons_succ]); first | done | rfl)))
      have hk := H.c
      simp only [Kr.Cells] at hk
      iterate 9 (refine Kr.seqQ (v := ?_) (a' := ?_) (by rfl) ?_ ?_ ?_; rotate_left 2; (focus (go_simp; first | done | rfl)); (focus ((try simp only [Act.put, List.setIfInBounds_toArray, List.set_cons_zero, List.set_cons_succ]); first | done | rfl)))
      clear hk
      refine Kr.seqDoneW ?_
      go_wp2_with fail
      go_meet
      exact ⟨rfl, Lib.hid H⟩
  case rest =>
    clear H
    obtain ⟨rfl, HH⟩ := hcut
    have H := HH.out
    clear HH
    go_upto_region 3 with fail
    refine Kr.seqStartW ?_
    have hk := H.c
    simp only [Kr.Cells] at hk
    iterate 4 (refine Kr.seqQ (v := ?_) (a' := ?_) (by rfl) ?_ ?_ ?_; rotate_left 2; (focus (go_simp; first | done | rfl)); (focus ((try simp only [Act.put, List.setIfInBounds_toArray, List.set_cons_zero, List.set_cons_succ]); first | done | rfl)))
    refine Kr.seqR (by rfl) (fun K hK => ?_)
    go_simp
    go_at_call 35
    refine (HR.out _ H.g).mono ?_
    rintro e y15 ⟨p15, n15, c15, rfl, hr, hg⟩
    obtain rfl : n15 = 0 := by rw [← hr.len, digs_zero]; rfl
    clear hk
    replace H := H.grow hg
    clear hr hg
    (refine Kr.outS hK (a' := ?_) ?_ ?_; rotate_left; (focus ((try simp only [Act.put, List.setIfInBounds_toArray, List.set_cons_zero, List.set_cons_succ]); first | done | rfl))); clear hK K
    iterate 3 (refine Kr.seqQ (v := ?_) (a' := ?_) (by rfl) ?_ ?_ ?_; rotate_left 2; (focus (go_simp; first | done | rfl)); (focus ((try simp only [Act.put, List.setIfInBounds_toArray, List.set_cons_zero, List.set_cons_succ]); first | done | rfl)))
    refine Kr.seqR (by rfl) (fun K hK => ?_)
    go_simp
    obtain ⟨y16, hy⟩ : ∃ y, y15.alloc (.cells #[.slice none 0 0] 24) = y := ⟨_, rfl⟩
    obtain ⟨bx, hb⟩ : ∃ b, y15.heap.size = b := ⟨_, rfl⟩
    rw [hy, hb]
    replace H := H.alloc hy hb rfl
    clear hy hb
    (refine Kr.outS hK (a' := ?_) ?_ ?_; rotate_left; (focus ((try simp only [Act.put, List.setIfInBounds_toArray, List.set_cons_zero, List.set_cons_succ]); first | done | rfl))); clear hK K
    have hk := H.c
    simp only [Kr.Cells] at hk
    refine Kr.seqR (by rfl) (fun K hK => ?_)
    go_simp
    clear hk
    obtain ⟨y17, hy⟩ : ∃ y, y16.setCell ⟨bx, 0, none⟩ (.slice p15 0 c15) = y := ⟨_, rfl⟩
    rw [hy]
    replace H := H.store 0 hy rfl rfl
    dsimp only [List.set] at H
    clear hy
    (refine Kr.outS hK (a' := ?_) ?_ ?_; rotate_left; (focus ((try simp only [Act.put, List.setIfInBounds_toArray, List.set_cons_zero, List.set_cons_succ]); first | done | rfl))); clear hK K
    (refine Kr.seqQ (v := ?_) (a' := ?_) (by rfl) ?_ ?_ ?_; rotate_left 2; (focus (go_simp; first | done | rfl)); (focus ((try simp only [Act.put, List.setIfInBounds_toArray, List.set_cons_zero, List.set_cons_succ]); first | done | rfl)))
    refine Kr.seqDoneW ?_
    go_upto_region 4 with fail
    refine Kr.seqStartW ?_
    (refine Kr.seqQ (v := ?_) (a' := ?_) (by rfl) ?_ ?_ ?_; rotate_left 2; (focus (go_simp; first | done | rfl)); (focus ((try simp only [Act.put, List.setIfInBounds_toArray, List.set_cons_zero, List.set_cons_succ]); first | done | rfl)))
    refine Kr.seqDoneW ?_
    go_upto_region 5 with fail
    refine Kr.seqStartW ?_
    have hk := H.c
    simp only [Kr.Cells] at hk
    (refine Kr.seqQ (v := ?_) (a' := ?_) (by rfl) ?_ ?_ ?_; rotate_left 2; (focus (go_simp; first | done | rfl)); (focus ((try simp only [Act.put, List.setIfInBounds_toArray, List.set_cons_zero, List.set_cons_succ]); first | done | rfl)))
    refine Kr.seqR (by rfl) (fun K hK => ?_)
    go_simp
    go_at_call 22
    refine (first_nil (H.nw 2 rfl)).mono ?_
    rintro e y18 ⟨rfl, hg⟩
    rw [im_digs P0.out VP.out, if_pos rfl]
    clear hk
    replace H := H.grow hg
    clear hg
    (refine Kr.outS hK (a' := ?_) ?_ ?_; rotate_left; (focus ((try simp only [Act.put, List.setIfInBounds_toArray, List.set_cons_zero, List.set_cons_succ]); first | done | rfl))); clear hK K
    iterate 2 (refine Kr.seqQ (v := ?_) (a' := ?_) (by rfl) ?_ ?_ ?_; rotate_left 2; (focus (go_simp; first | done | rfl)); (focus ((try simp only [Act.put, List.setIfInBounds_toArray, List.set_cons_zero, List.set_cons_succ]); first | done | rfl)))
    have hk := H.c
    simp only [Kr.Cells] at hk
    (refine Kr.seqQ (v := ?_) (a' := ?_) (by rfl) ?_ ?_ ?_; rotate_left 2; (focus (go_simp; first | done | rfl)); (focus ((try simp only [Act.put, List.setIfInBounds_toArray, List.set_cons_zero, List.set_cons_succ]); first | done | rfl)))
    refine Kr.seqR (by rfl) (fun K hK => ?_)
    go_simp
    go_at_call 22
    refine (first_nil (H.nw 0 rfl)).mono ?_
    rintro e y19 ⟨rfl, hg⟩
    rw [im_digs Q0.out VQ.out, if_pos rfl]
    clear hk
    replace H := H.grow hg
    clear hg
    (refine Kr.outS hK (a' := ?_) ?_ ?_; rotate_left; (focus ((try simp only [Act.put, List.setIfInBounds_toArray, List.set_cons_zero, List.set_cons_succ]); first | done | rfl))); clear hK K
    iterate 3 (refine Kr.seqQ (v := ?_) (a' := ?_) (by rfl) ?_ ?_ ?_; rotate_left 2; (focus (go_simp; first | done | rfl)); (focus ((try simp only [Act.put, List.setIfInBounds_toArray, List.set_cons_zero, List.set_cons_succ]); first | done | rfl)))
    have hk := H.c
    simp only [Kr.Cells] at hk
    (refine Kr.seqQ (v := ?_) (a' := ?_) (by rfl) ?_ ?_ ?_; rotate_left 2; (focus (go_simp; first | done | rfl)); (focus ((try simp only [Act.put, List.setIfInBounds_toArray, List.set_cons_zero, List.set_cons_succ]); first | done | rfl)))
    refine Kr.seqR (by rfl) (fun K hK => ?_)
    go_simp
    go_at_call 29
    refine (valid3_any _ _ _ _ _ (H.nw 3 rfl)).mono ?_
    rintro e y20 ⟨rfl, hg⟩
    rw [dv VA.out]
    clear hk
    replace H := H.grow hg
    clear hg
    (refine Kr.outS hK (a' := ?_) ?_ ?_; rotate_left; (focus ((try simp only [Act.put, List.setIfInBounds_toArray, List.set_cons_zero, List.set_cons_succ]); first | done | rfl))); clear hK K
    iterate 3 (refine Kr.seqQ (v := ?_) (a' := ?_) (by rfl) ?_ ?_ ?_; rotate_left 2; (focus (go_simp; first | done | rfl)); (focus ((try simp only [Act.put, List.setIfInBounds_toArray, List.set_cons_zero, List.set_cons_succ]); first | done | rfl)))
    have hk := H.c
    simp only [Kr.Cells] at hk
    (refine Kr.seqQ (v := ?_) (a' := ?_) (by rfl) ?_ ?_ ?_; rotate_left 2; (focus (go_simp; first | done | rfl)); (focus ((try simp only [Act.put, List.setIfInBounds_toArray, List.set_cons_zero, List.set_cons_succ]); first | done | rfl)))
    refine Kr.seqR (by rfl) (fun K hK => ?_)
    go_simp
    go_at_call 29
    refine (valid3_any _ _ _ _ _ (H.nw 1 rfl)).mono ?_
    rintro e y21 ⟨rfl, hg⟩
    rw [dv VB.out]
    clear hk
    replace H := H.grow hg
    clear hg
    (refine Kr.outS hK (a' := ?_) ?_ ?_; rotate_left; (focus ((try simp only [Act.put, List.setIfInBounds_toArray, List.set_cons_zero, List.set_cons_succ]); first | done | rfl))); clear hK K
    iterate 3 (refine Kr.seqQ (v := ?_) (a' := ?_) (by rfl) ?_ ?_ ?_; rotate_left 2; (focus (go_simp; first | done | rfl)); (focus ((try simp only [Act.put, List.setIfInBounds_toArray, List.set_cons_zero, List.set_cons_succ]); first | done | rfl)))
    refine Kr.seqDoneW ?_
    go_upto_region 7 with fail
    refine Kr.seqStartW ?_
    have hk := H.c
    simp only [Kr.Cells] at hk
    iterate 2 (refine Kr.seqQ (v := ?_) (a' := ?_) (by rfl) ?_ ?_ ?_; rotate_left 2; (focus (go_simp; first | done | rfl)); (focus ((try simp only [Act.put, List.setIfInBounds_toArray, List.set_cons_zero, List.set_cons_succ]); first | done | rfl)))
    refine Kr.seqR (by rfl) (fun K hK => ?_)
    go_simp
    go_at_call 36
    refine (less3_v (H.nw 3 rfl) (H.nw 2 rfl)).mono ?_
    rintro e y22 ⟨rfl, hg⟩
    rw [decide_eq_true HX.out]
    clear hk
    replace H := H.grow hg
    clear hg
    (refine Kr.outS hK (a' := ?_) ?_ ?_; rotate_left; (focus ((try simp only [Act.put, List.setIfInBounds_toArray, List.set_cons_zero, List.set_cons_succ]); first | done | rfl))); clear hK K
    iterate 2 (refine Kr.seqQ (v := ?_) (a' := ?_) (by rfl) ?_ ?_ ?_; rotate_left 2; (focus (go_simp; first | done | rfl)); (focus ((try simp only [Act.put, List.setIfInBounds_toArray, List.set_cons_zero, List.set_cons_succ]); first | done | rfl)))
    have hk := H.c
    simp only [Kr.Cells] at hk
    iterate 2 (refine Kr.seqQ (v := ?_) (a' := ?_) (by rfl) ?_ ?_ ?_; rotate_left 2; (focus (go_simp; first | done | rfl)); (focus ((try simp only [Act.put, List.setIfInBounds_toArray, List.set_cons_zero, List.set_cons_succ]); first | done | rfl)))
    refine Kr.seqR (by rfl) (fun K hK => ?_)
    go_simp
    go_at_call 36
    refine (less3_v (H.nw 1 rfl) (H.nw 0 rfl)).mono ?_
    rintro e y23 ⟨rfl, hg⟩
    rw [decide_eq_false HY.out]
    clear hk
    replace H := H.grow hg
    clear hg
    (refine Kr.outS hK (a' := ?_) ?_ ?_; rotate_left; (focus ((try simp only [Act.put, List.setIfInBounds_toArray, List.set_cons_zero, List.set_cons_succ]); first | done | rfl))); clear hK K
    iterate 3 (refine Kr.seqQ (v := ?_) (a' := ?_) (by rfl) ?_ ?_ ?_; rotate_left 2; (focus (go_simp; first | done | rfl)); (focus ((try simp only [Act.put, List.setIfInBounds_toArray, List.set_cons_zero, List.set_cons_succ]); first | done | rfl)))
    refine Kr.seqDoneW ?_
    go_upto_region 8 with fail
    refine Kr.seqStartW ?_
    (refine Kr.seqQ (v := ?_) (a' := ?_) (by rfl) ?_ ?_ ?_; rotate_left 2; (focus (go_simp; first | done | rfl)); (focus ((try simp only [Act.put, List.setIfInBounds_toArray, List.set_cons_zero, List.set_cons_succ]); first | done | rfl)))
    refine Kr.seqDoneW ?_
    go_upto_region 13 with fail
    refine Kr.seqStartW ?_
    iterate 2 (refine Kr.seqQ (v := ?_) (a' := ?_) (by rfl) ?_ ?_ ?_; rotate_left 2; (focus (go_simp; first | done | rfl)); (focus ((try simp only [Act.put, List.setIfInBounds_toArray, List.set_cons_zero, List.set_cons_succ]); first | done | rfl)))
    refine Kr.seqDoneW ?_
    go_upto_region 14 with fail
    refine Kr.seqStartW ?_
    (refine Kr.seqQ (v := ?_) (a' := ?_) (by rfl) ?_ ?_ ?_; rotate_left 2; (focus (go_simp; first | done | rfl)); (focus ((try simp only [Act.put, List.setIfInBounds_toArray, List.set_cons_zero, List.set_cons_succ]); first | done | rfl)))
    have hk := H.c
    simp only [Kr.Cells] at hk
    iterate 9 (refine Kr.seqQ (v := ?_) (a' := ?_) (by rfl) ?_ ?_ ?_; rotate_left 2; (focus (go_simp; first | done | rfl)); (focus ((try simp only [Act.put, List.setIfInBounds_toArray, List.set_cons_zero, List.set_cons_succ]); first | done | rfl)))
    clear hk
    refine Kr.seqDoneW ?_
    go_wp2
    go_ret
    exact ⟨rfl, H.g⟩
set_option linter.unusedSimpArgs false in
set_option maxRecDepth 100000 in
set_option maxHeartbeats 16000000 in
theorem crt_any_no {pa : Option Addr} {na ca : Nat} {pp : Option Addr} {np cp : Nat} {pb : Option Addr} {nb cb : Nat} {pq : Option Addr} {nq cq : Nat} {a p b q : Nat} {w : World} (hs : ∀ x ∈ [(pa, na, ca), (pp, np, cp), (pb, nb, cb), (pq, nq, cq)], x.2.1 ≤ 40) (hw : (∀ x ∈ [(pp, np, cp), (pq, nq, cq)], x.2.1 ≤ 6) ∨ ((∃ x ∈ [(pp, np, cp), (pq, nq, cq)], 6 < x.2.1) ∧ 34 ≤ np + nq ∧ np + nq ≤ 80)) (ha : Nw w pa na ca (digs a)) (hp : Nw w pp np cp (digs p)) (hb : Nw w pb nb cb (digs b)) (hq : Nw w pq nq cq (digs q)) (p0 : 0 < p) (vp : p < pw 32) (q0 : 0 < q) (vq : q < pw 32) (va : a < pw 64) (vb : b < pw 64) (hr : ∀ W, Gr w W → Calls Try.prog 35 #[.agg #[.slice pa na ca], .agg #[.slice pp np cp], .agg #[.slice pb nb cb], .agg #[.slice pq nq cq]] W (HasE 0 10 W)) (hx : a < p) (hy : b < q) (hg1 : Nat.gcd p q ≠ 1) :
    Calls Try.prog 6 #[.agg #[.slice pa na ca], .agg #[.slice pp np cp], .agg #[.slice pb nb cb], .agg #[.slice pq nq cq]] w fun e w' => e = .returned (.bool true) ∧ Gr w w' := by
  have HS := Lib.hid hs
  have HW := Lib.hid hw
  clear hs hw
  have P0 := Lib.hid p0
  have VP := Lib.hid vp
  have Q0 := Lib.hid q0
  have VQ := Lib.hid vq
  have VA := Lib.hid va
  have VB := Lib.hid vb
  clear p0 vp q0 vq va vb
  have VP9 : Hid (p < pw 900) := Lib.hid (Nat.lt_of_lt_of_le VP.out (pw_mono (by decide)))
  have VQ9 : Hid (q < pw 900) := Lib.hid (Nat.lt_of_lt_of_le VQ.out (pw_mono (by decide)))
  have HR := Lib.hid hr
  clear hr
  have HX := Lib.hid hx
  have HY := Lib.hid hy
  have HG1 := Lib.hid hg1
  clear hx hy hg1
  have H := Sta.start w
  replace H := H.num ha
  replace H := H.num hp
  replace H := H.num hb
  replace H := H.num hq
  go_enter Try.func6, Try.ntmps6
  go_upto_region 0 with fail
  refine Kr.seqStartW ?_
  refine Kr.seqR (by rfl) (fun K hK => ?_)
  go_simp
  obtain ⟨y1, hy⟩ : ∃ y, w.alloc (.cells #[.slice pa na ca] 24) = y := ⟨_, rfl⟩
  obtain ⟨ba, hb⟩ : ∃ b, w.heap.size = b := ⟨_, rfl⟩
  rw [hy, hb]
  replace H := H.alloc hy hb rfl
  clear hy hb
  (refine Kr.outS hK (a' := ?_) ?_ ?_; rotate_left; (focus ((try simp only [Act.put, List.setIfInBounds_toArray, List.set_cons_zero, List.set_cons_succ]); first | done | rfl))); clear hK K
  refine Kr.seqR (by rfl) (fun K hK => ?_)
  go_simp
  obtain ⟨y2, hy⟩ : ∃ y, y1.alloc (.cells #[.slice pp np cp] 24) = y := ⟨_, rfl⟩
  obtain ⟨bp, hb⟩ : ∃ b, y1.heap.size = b := ⟨_, rfl⟩
  rw [hy, hb]
  replace H := H.alloc hy hb rfl
  clear hy hb
  (refine Kr.outS hK (a' := ?_) ?_ ?_; rotate_left; (focus ((try simp only [Act.put, List.setIfInBounds_toArray, List.set_cons_zero, List.set_cons_succ]); first | done | rfl))); clear hK K
  refine Kr.seqR (by rfl) (fun K hK => ?_)
  go_simp
  obtain ⟨y3, hy⟩ : ∃ y, y2.alloc (.cells #[.slice pb nb cb] 24) = y := ⟨_, rfl⟩
  obtain ⟨bb, hb⟩ : ∃ b, y2.heap.size = b := ⟨_, rfl⟩
  rw [hy, hb]
  replace H := H.alloc hy hb rfl
  clear hy hb
  (refine Kr.outS hK (a' := ?_) ?_ ?_; rotate_left; (focus ((try simp only [Act.put, List.setIfInBounds_toArray, List.set_cons_zero, List.set_cons_succ]); first | done | rfl))); clear hK K
  refine Kr.seqR (by rfl) (fun K hK => ?_)
  go_simp
  obtain ⟨y4, hy⟩ : ∃ y, y3.alloc (.cells #[.slice pq nq cq] 24) = y := ⟨_, rfl⟩
  obtain ⟨bq, hb⟩ : ∃ b, y3.heap.size = b := ⟨_, rfl⟩
  rw [hy, hb]
  replace H := H.alloc hy hb rfl
  clear hy hb
  (refine Kr.outS hK (a' := ?_) ?_ ?_; rotate_left; (focus ((try simp only [Act.put, List.setIfInBounds_toArray, List.set_cons_zero, List.set_cons_succ]); first | done | rfl))); clear hK K
  (refine Kr.seqQ (v := ?_) (a' := ?_) (by rfl) ?_ ?_ ?_; rotate_left 2; (focus (go_simp; first | done | rfl)); (focus ((try simp only [Act.put, List.setIfInBounds_toArray, List.set_cons_zero, List.set_cons_succ]); first | done | rfl)))
  refine Kr.seqDoneW ?_
  go_upto_region 1 with fail
  go_cut [39] from 12 to 38 (fun s39 W => s39 = .bool false ∧ Hid (Sta w W [(bq, 0, .slice pq nq cq), (bb, 0, .slice pb nb cb), (bp, 0, .slice pp np cp), (ba, 0, .slice pa na ca)] [N pq nq cq (q), N pb nb cb (b), N pp np cp (p), N pa na ca (a)]))
  case first =>
    rcases HW.out with h6 | ⟨hg, hl, hu⟩
    · have HS6 := Lib.hid h6
      clear h6
      refine Kr.seqStartW ?_
      refine Kr.seqR (by rfl) (fun K hK => ?_)
      go_simp
      go_at_call 18
      refine (awake3 _).mono ?_
      rintro e y5 ⟨rfl, hg⟩
      replace H := H.grow hg
      clear hg
      (refine Kr.outS hK (a' := ?_) ?_ ?_; rotate_left; (focus ((try simp only [Act.put, List.setIfInBounds_toArray, List.set_cons_zero, List.set_cons_succ]); first | done | rfl))); clear hK K
      iterate 2 (refine Kr.seqQ (v := ?_) (a' := ?_) (by rfl) ?_ ?_ ?_; rotate_left 2; (focus (go_simp; first | done | rfl)); (focus ((try simp only [Act.put, List.setIfInBounds_toArray, List.set_cons_zero, List.set_cons_succ]); first | done | rfl)))
      have hk := H.c
      simp only [Kr.Cells] at hk
      iterate 4 (refine Kr.seqQ (v := ?_) (a' := ?_) (by rfl) ?_ ?_ ?_; rotate_left 2; (focus (go_simp; first | done | rfl)); (focus ((try simp only [Act.put, List.setIfInBounds_toArray, List.set_cons_zero, List.set_cons_succ]); first | done | rfl)))
      refine Kr.seqR (by rfl) (fun K hK => ?_)
      go_simp
      clear hk
      obtain ⟨y6, hy⟩ : ∃ y, y5.alloc (.cells #[.slice pa na ca, .slice pp np cp, .slice pb nb cb, .slice pq nq cq] 24) = y := ⟨_, rfl⟩
      obtain ⟨by6, hb⟩ : ∃ b, y5.heap.size = b := ⟨_, rfl⟩
      rw [hy, hb]
      have HN : Nats y6 by6 0 [(pa, na, ca), (pp, np, cp), (pb, nb, cb), (pq, nq, cq)] := nats_mk hy hb
      have hg : Gr y5 y6 := hy ▸ (Gr.refl _).alloc _
      replace H := H.grow hg
      clear hg hy hb
      (refine Kr.outS hK (a' := ?_) ?_ ?_; rotate_left; (focus ((try simp only [Act.put, List.setIfInBounds_toArray, List.set_cons_zero, List.set_cons_succ]); first | done | rfl))); clear hK K
      refine Kr.seqR (by rfl) (fun K hK => ?_)
      go_simp
      go_at_call 19
      go_at_call 19
      refine (few_ok HN (by simp) HS.out).mono ?_
      rintro e y7 ⟨rfl, hg⟩
      replace H := H.grow hg
      clear hg
      clear HN
      (refine Kr.outS hK (a' := ?_) ?_ ?_; rotate_left; (focus ((try simp only [Act.put, List.setIfInBounds_toArray, List.set_cons_zero, List.set_cons_succ]); first | done | rfl))); clear hK K
      iterate 3 (refine Kr.seqQ (v := ?_) (a' := ?_) (by rfl) ?_ ?_ ?_; rotate_left 2; (focus (go_simp; first | done | rfl)); (focus ((try simp only [Act.put, List.setIfInBounds_toArray, List.set_cons_zero, List.set_cons_succ]); first | done | rfl)))
      have hk := H.c
      simp only [Kr.Cells] at hk
      iterate 2 (refine Kr.seqQ (v := ?_) (a' := ?_) (by rfl) ?_ ?_ ?_; rotate_left 2; (focus (go_simp; first | done | rfl)); (focus ((try simp only [Act.put, List.setIfInBounds_toArray, List.set_cons_zero, List.set_cons_succ]); first | done | rfl)))
      refine Kr.seqR (by rfl) (fun K hK => ?_)
      go_simp
      clear hk
      obtain ⟨y8, hy⟩ : ∃ y, y7.alloc (.cells #[.slice pp np cp, .slice pq nq cq] 24) = y := ⟨_, rfl⟩
      obtain ⟨by8, hb⟩ : ∃ b, y7.heap.size = b := ⟨_, rfl⟩
      rw [hy, hb]
      have HN : Nats y8 by8 0 [(pp, np, cp), (pq, nq, cq)] := nats_mk hy hb
      have hg : Gr y7 y8 := hy ▸ (Gr.refl _).alloc _
      replace H := H.grow hg
      clear hg hy hb
      (refine Kr.outS hK (a' := ?_) ?_ ?_; rotate_left; (focus ((try simp only [Act.put, List.setIfInBounds_toArray, List.set_cons_zero, List.set_cons_succ]); first | done | rfl))); clear hK K
      refine Kr.seqR (by rfl) (fun K hK => ?_)
      go_simp
      go_at_call 19
      go_at_call 19
      refine (few_ok HN (by simp) HS6.out).mono ?_
      rintro e y9 ⟨rfl, hg⟩
      replace H := H.grow hg
      clear hg
      clear HN
      (refine Kr.outS hK (a' := ?_) ?_ ?_; rotate_left; (focus ((try simp only [Act.put, List.setIfInBounds_toArray, List.set_cons_zero, List.set_cons_succ]); first | done | rfl))); clear hK K
      iterate 2 (refine Kr.seqQ (v := ?_) (a' := ?_) (by rfl) ?_ ?_ ?_; rotate_left 2; (focus (go_simp; first | done | rfl)); (focus ((try simp only [Act.put, List.setIfInBounds_toArray, List.set_cons_zero, List.set_cons_succ]); first | done | rfl)))
      (refine Kr.seqSkipQ (a' := ?_) (by rfl) ?_ ?_; rotate_left; (focus ((try simp only [Act.put, List.setIfInBounds_toArray, List.set_cons_zero, List.set_cons_succ]); first | done | rfl)))
      (refine Kr.seqSkipQ (a' := ?_) (by rfl) ?_ ?_; rotate_left; (focus ((try simp only [Act.put, List.setIfInBounds_toArray, List.set_cons_zero, List.set_cons_succ]); first | done | rfl)))
      (refine Kr.seqSkipQ (a' := ?_) (by rfl) ?_ ?_; rotate_left; (focus ((try simp only [Act.put, List.setIfInBounds_toArray, List.set_cons_zero, List.set_cons_succ]); first | done | rfl)))
      (refine Kr.seqSkipQ (a' := ?_) (by rfl) ?_ ?_; rotate_left; (focus ((try simp only [Act.put, List.setIfInBounds_toArray, List.set_cons_zero, List.set_cons_succ]); first | done | rfl)))
      (refine Kr.seqSkipQ (a' := ?_) (by rfl) ?_ ?_; rotate_left; (focus ((try simp only [Act.put, List.setIfInBounds_toArray, List.set_cons_zero, List.set_cons_succ]); first | done | rfl)))
      (refine Kr.seqSkipQ (a' := ?_) (by rfl) ?_ ?_; rotate_left; (focus ((try simp only [Act.put, List.setIfInBounds_toArray, List.set_cons_zero, List.set_cons_succ]); first | done | rfl)))
      (refine Kr.seqSkipQ (a' := ?_) (by rfl) ?_ ?_; rotate_left; (focus ((try simp only [Act.put, List.setIfInBounds_toArray, List.set_cons_zero, List.set_cons_succ]); first | done | rfl)))
      (refine Kr.seqSkipQ (a' := ?_) (by rfl) ?_ ?_; rotate_left; (focus ((try simp only [Act.put, List.setIfInBounds_toArray, List.set_cons_zero, List.set_cons_succ]); first | done | rfl)))
      iterate 2 (refine Kr.seqQ (v := ?_) (a' := ?_) (by rfl) ?_ ?_ ?_; rotate_left 2; (focus (go_simp; first | done | rfl)); (focus ((try simp only [Act.put, List.setIfInBounds_toArray, List.set_cons_zero, List.set_cons_succ]); first | done | rfl)))
      refine Kr.seqDoneW ?_
      go_wp2_with fail
      go_meet
      exact ⟨rfl, Lib.hid H⟩
    · have HG := Lib.hid hg
      have hLL : IntKind.i64.wrap ((np : Int) + (nq : Int)) = (np : Int) + (nq : Int) := IntWalk.i64_in _ (by omega)
      have hl2 : ¬ (np : Int) + (nq : Int) < 34 := by omega
      clear hg
      refine Kr.seqStartW ?_
      refine Kr.seqR (by rfl) (fun K hK => ?_)
      go_simp
      go_at_call 18
      refine (awake3 _).mono ?_
      rintro e y10 ⟨rfl, hg⟩
      replace H := H.grow hg
      clear hg
      (refine Kr.outS hK (a' := ?_) ?_ ?_; rotate_left; (focus ((try simp only [Act.put, List.setIfInBounds_toArray, List.set_cons_zero, List.set_cons_succ]); first | done | rfl))); clear hK K
      iterate 2 (refine Kr.seqQ (v := ?_) (a' := ?_) (by rfl) ?_ ?_ ?_; rotate_left 2; (focus (go_simp; first | done | rfl)); (focus ((try simp only [Act.put, List.setIfInBounds_toArray, List.set_cons_zero, List.set_cons_succ]); first | done | rfl)))
      have hk := H.c
      simp only [Kr.Cells] at hk
      iterate 4 (refine Kr.seqQ (v := ?_) (a' := ?_) (by rfl) ?_ ?_ ?_; rotate_left 2; (focus (go_simp; first | done | rfl)); (focus ((try simp only [Act.put, List.setIfInBounds_toArray, List.set_cons_zero, List.set_cons_succ]); first | done | rfl)))
      refine Kr.seqR (by rfl) (fun K hK => ?_)
      go_simp
      clear hk
      obtain ⟨y11, hy⟩ : ∃ y, y10.alloc (.cells #[.slice pa na ca, .slice pp np cp, .slice pb nb cb, .slice pq nq cq] 24) = y := ⟨_, rfl⟩
      obtain ⟨by11, hb⟩ : ∃ b, y10.heap.size = b := ⟨_, rfl⟩
      rw [hy, hb]
      have HN : Nats y11 by11 0 [(pa, na, ca), (pp, np, cp), (pb, nb, cb), (pq, nq, cq)] := nats_mk hy hb
      have hg : Gr y10 y11 := hy ▸ (Gr.refl _).alloc _
      replace H := H.grow hg
      clear hg hy hb
      (refine Kr.outS hK (a' := ?_) ?_ ?_; rotate_left; (focus ((try simp only [Act.put, List.setIfInBounds_toArray, List.set_cons_zero, List.set_cons_succ]); first | done | rfl))); clear hK K
      refine Kr.seqR (by rfl) (fun K hK => ?_)
      go_simp
      go_at_call 19
      go_at_call 19
      refine (few_ok HN (by simp) HS.out).mono ?_
      rintro e y12 ⟨rfl, hg⟩
      replace H := H.grow hg
      clear hg
      clear HN
      (refine Kr.outS hK (a' := ?_) ?_ ?_; rotate_left; (focus ((try simp only [Act.put, List.setIfInBounds_toArray, List.set_cons_zero, List.set_cons_succ]); first | done | rfl))); clear hK K
      iterate 3 (refine Kr.seqQ (v := ?_) (a' := ?_) (by rfl) ?_ ?_ ?_; rotate_left 2; (focus (go_simp; first | done | rfl)); (focus ((try simp only [Act.put, List.setIfInBounds_toArray, List.set_cons_zero, List.set_cons_succ]); first | done | rfl)))
      have hk := H.c
      simp only [Kr.Cells] at hk
      iterate 2 (refine Kr.seqQ (v := ?_) (a' := ?_) (by rfl) ?_ ?_ ?_; rotate_left 2; (focus (go_simp; first | done | rfl)); (focus ((try simp only [Act.put, List.setIfInBounds_toArray, List.set_cons_zero, List.set_cons_succ]); first | done | rfl)))
      refine Kr.seqR (by rfl) (fun K hK => ?_)
      go_simp
      clear hk
      obtain ⟨y13, hy⟩ : ∃ y, y12.alloc (.cells #[.slice pp np cp, .slice pq nq cq] 24) = y := ⟨_, rfl⟩
      obtain ⟨by13, hb⟩ : ∃ b, y12.heap.size = b := ⟨_, rfl⟩
      rw [hy, hb]
      have HN : Nats y13 by13 0 [(pp, np, cp), (pq, nq, cq)] := nats_mk hy hb
      have hg : Gr y12 y13 := hy ▸ (Gr.refl _).alloc _
      replace H := H.grow hg
      clear hg hy hb
      (refine Kr.outS hK (a' := ?_) ?_ ?_; rotate_left; (focus ((try simp only [Act.put, List.setIfInBounds_toArray, List.set_cons_zero, List.set_cons_succ]); first | done | rfl))); clear hK K
      refine Kr.seqR (by rfl) (fun K hK => ?_)
      go_simp
      go_at_call 19
      go_at_call 19
      refine (few_no HN (by simp) HG.out).mono ?_
      rintro e y14 ⟨rfl, hg⟩
      replace H := H.grow hg
      clear hg
      clear HN
      (refine Kr.outS hK (a' := ?_) ?_ ?_; rotate_left; (focus ((try simp only [Act.put, List.setIfInBounds_toArray, List.set_cons_zero, List.set_cons_succ]); first | done | rfl))); clear hK K
      iterate 3 (refine Kr.seqQ (v := ?_) (a' := ?_) (by rfl) ?_ ?_ ?_; rotate_left 2; (focus (go_simp; first | done | rfl)); (focus ((try simp only [Act.put, List.setIfInBounds_toArray, List.set_cons_zero, List.set_cons_succ]); first | done | rfl)))
      have hk := H.c
      simp only [Kr.Cells] at hk
      iterate 9 (refine Kr.seqQ (v := ?_) (a' := ?_) (by rfl) ?_ ?_ ?_; rotate_left 2; (focus (go_simp; first | done | rfl)); (focus ((try simp only [Act.put, List.setIfInBounds_toArray, List.set_cons_zero, List.set_cons_succ]); first | done | rfl)))
      clear hk
      refine Kr.seqDoneW ?_
      go_wp2_with fail
      go_meet
      exact ⟨rfl, Lib.hid H⟩
  case rest =>
    clear H
    obtain ⟨rfl, HH⟩ := hcut
    have H := HH.out
    clear HH
    go_upto_region 3 with fail
    refine Kr.seqStartW ?_
    have hk := H.c
    simp only [Kr.Cells] at hk
    iterate 4 (refine Kr.seqQ (v := ?_) (a' := ?_) (by rfl) ?_ ?_ ?_; rotate_left 2; (focus (go_simp; first | done | rfl)); (focus ((try simp only [Act.put, List.setIfInBounds_toArray, List.set_cons_zero, List.set_cons_succ]); first | done | rfl)))
    refine Kr.seqR (by rfl) (fun K hK => ?_)
    go_simp
    go_at_call 35
    refine (HR.out _ H.g).mono ?_
    rintro e y15 ⟨p15, n15, c15, rfl, hr, hg⟩
    obtain rfl : n15 = 0 := by rw [← hr.len, digs_zero]; rfl
    clear hk
    replace H := H.grow hg
    clear hr hg
    (refine Kr.outS hK (a' := ?_) ?_ ?_; rotate_left; (focus ((try simp only [Act.put, List.setIfInBounds_toArray, List.set_cons_zero, List.set_cons_succ]); first | done | rfl))); clear hK K
    iterate 3 (refine Kr.seqQ (v := ?_) (a' := ?_) (by rfl) ?_ ?_ ?_; rotate_left 2; (focus (go_simp; first | done | rfl)); (focus ((try simp only [Act.put, List.setIfInBounds_toArray, List.set_cons_zero, List.set_cons_succ]); first | done | rfl)))
    refine Kr.seqR (by rfl) (fun K hK => ?_)
    go_simp
    obtain ⟨y16, hy⟩ : ∃ y, y15.alloc (.cells #[.slice none 0 0] 24) = y := ⟨_, rfl⟩
    obtain ⟨bx, hb⟩ : ∃ b, y15.heap.size = b := ⟨_, rfl⟩
    rw [hy, hb]
    replace H := H.alloc hy hb rfl
    clear hy hb
    (refine Kr.outS hK (a' := ?_) ?_ ?_; rotate_left; (focus ((try simp only [Act.put, List.setIfInBounds_toArray, List.set_cons_zero, List.set_cons_succ]); first | done | rfl))); clear hK K
    have hk := H.c
    simp only [Kr.Cells] at hk
    refine Kr.seqR (by rfl) (fun K hK => ?_)
    go_simp
    clear hk
    obtain ⟨y17, hy⟩ : ∃ y, y16.setCell ⟨bx, 0, none⟩ (.slice p15 0 c15) = y := ⟨_, rfl⟩
    rw [hy]
    replace H := H.store 0 hy rfl rfl
    dsimp only [List.set] at H
    clear hy
    (refine Kr.outS hK (a' := ?_) ?_ ?_; rotate_left; (focus ((try simp only [Act.put, List.setIfInBounds_toArray, List.set_cons_zero, List.set_cons_succ]); first | done | rfl))); clear hK K
    (refine Kr.seqQ (v := ?_) (a' := ?_) (by rfl) ?_ ?_ ?_; rotate_left 2; (focus (go_simp; first | done | rfl)); (focus ((try simp only [Act.put, List.setIfInBounds_toArray, List.set_cons_zero, List.set_cons_succ]); first | done | rfl)))
    refine Kr.seqDoneW ?_
    go_upto_region 4 with fail
    refine Kr.seqStartW ?_
    (refine Kr.seqQ (v := ?_) (a' := ?_) (by rfl) ?_ ?_ ?_; rotate_left 2; (focus (go_simp; first | done | rfl)); (focus ((try simp only [Act.put, List.setIfInBounds_toArray, List.set_cons_zero, List.set_cons_succ]); first | done | rfl)))
    refine Kr.seqDoneW ?_
    go_upto_region 5 with fail
    refine Kr.seqStartW ?_
    have hk := H.c
    simp only [Kr.Cells] at hk
    (refine Kr.seqQ (v := ?_) (a' := ?_) (by rfl) ?_ ?_ ?_; rotate_left 2; (focus (go_simp; first | done | rfl)); (focus ((try simp only [Act.put, List.setIfInBounds_toArray, List.set_cons_zero, List.set_cons_succ]); first | done | rfl)))
    refine Kr.seqR (by rfl) (fun K hK => ?_)
    go_simp
    go_at_call 22
    refine (first_nil (H.nw 2 rfl)).mono ?_
    rintro e y18 ⟨rfl, hg⟩
    rw [im_digs P0.out VP.out, if_pos rfl]
    clear hk
    replace H := H.grow hg
    clear hg
    (refine Kr.outS hK (a' := ?_) ?_ ?_; rotate_left; (focus ((try simp only [Act.put, List.setIfInBounds_toArray, List.set_cons_zero, List.set_cons_succ]); first | done | rfl))); clear hK K
    iterate 2 (refine Kr.seqQ (v := ?_) (a' := ?_) (by rfl) ?_ ?_ ?_; rotate_left 2; (focus (go_simp; first | done | rfl)); (focus ((try simp only [Act.put, List.setIfInBounds_toArray, List.set_cons_zero, List.set_cons_succ]); first | done | rfl)))
    have hk := H.c
    simp only [Kr.Cells] at hk
    (refine Kr.seqQ (v := ?_) (a' := ?_) (by rfl) ?_ ?_ ?_; rotate_left 2; (focus (go_simp; first | done | rfl)); (focus ((try simp only [Act.put, List.setIfInBounds_toArray, List.set_cons_zero, List.set_cons_succ]); first | done | rfl)))
    refine Kr.seqR (by rfl) (fun K hK => ?_)
    go_simp
    go_at_call 22
    refine (first_nil (H.nw 0 rfl)).mono ?_
    rintro e y19 ⟨rfl, hg⟩
    rw [im_digs Q0.out VQ.out, if_pos rfl]
    clear hk
    replace H := H.grow hg
    clear hg
    (refine Kr.outS hK (a' := ?_) ?_ ?_; rotate_left; (focus ((try simp only [Act.put, List.setIfInBounds_toArray, List.set_cons_zero, List.set_cons_succ]); first | done | rfl))); clear hK K
    iterate 3 (refine Kr.seqQ (v := ?_) (a' := ?_) (by rfl) ?_ ?_ ?_; rotate_left 2; (focus (go_simp; first | done | rfl)); (focus ((try simp only [Act.put, List.setIfInBounds_toArray, List.set_cons_zero, List.set_cons_succ]); first | done | rfl)))
    have hk := H.c
    simp only [Kr.Cells] at hk
    (refine Kr.seqQ (v := ?_) (a' := ?_) (by rfl) ?_ ?_ ?_; rotate_left 2; (focus (go_simp; first | done | rfl)); (focus ((try simp only [Act.put, List.setIfInBounds_toArray, List.set_cons_zero, List.set_cons_succ]); first | done | rfl)))
    refine Kr.seqR (by rfl) (fun K hK => ?_)
    go_simp
    go_at_call 29
    refine (valid3_any _ _ _ _ _ (H.nw 3 rfl)).mono ?_
    rintro e y20 ⟨rfl, hg⟩
    rw [dv VA.out]
    clear hk
    replace H := H.grow hg
    clear hg
    (refine Kr.outS hK (a' := ?_) ?_ ?_; rotate_left; (focus ((try simp only [Act.put, List.setIfInBounds_toArray, List.set_cons_zero, List.set_cons_succ]); first | done | rfl))); clear hK K
    iterate 3 (refine Kr.seqQ (v := ?_) (a' := ?_) (by rfl) ?_ ?_ ?_; rotate_left 2; (focus (go_simp; first | done | rfl)); (focus ((try simp only [Act.put, List.setIfInBounds_toArray, List.set_cons_zero, List.set_cons_succ]); first | done | rfl)))
    have hk := H.c
    simp only [Kr.Cells] at hk
    (refine Kr.seqQ (v := ?_) (a' := ?_) (by rfl) ?_ ?_ ?_; rotate_left 2; (focus (go_simp; first | done | rfl)); (focus ((try simp only [Act.put, List.setIfInBounds_toArray, List.set_cons_zero, List.set_cons_succ]); first | done | rfl)))
    refine Kr.seqR (by rfl) (fun K hK => ?_)
    go_simp
    go_at_call 29
    refine (valid3_any _ _ _ _ _ (H.nw 1 rfl)).mono ?_
    rintro e y21 ⟨rfl, hg⟩
    rw [dv VB.out]
    clear hk
    replace H := H.grow hg
    clear hg
    (refine Kr.outS hK (a' := ?_) ?_ ?_; rotate_left; (focus ((try simp only [Act.put, List.setIfInBounds_toArray, List.set_cons_zero, List.set_cons_succ]); first | done | rfl))); clear hK K
    iterate 3 (refine Kr.seqQ (v := ?_) (a' := ?_) (by rfl) ?_ ?_ ?_; rotate_left 2; (focus (go_simp; first | done | rfl)); (focus ((try simp only [Act.put, List.setIfInBounds_toArray, List.set_cons_zero, List.set_cons_succ]); first | done | rfl)))
    refine Kr.seqDoneW ?_
    go_upto_region 7 with fail
    refine Kr.seqStartW ?_
    have hk := H.c
    simp only [Kr.Cells] at hk
    iterate 2 (refine Kr.seqQ (v := ?_) (a' := ?_) (by rfl) ?_ ?_ ?_; rotate_left 2; (focus (go_simp; first | done | rfl)); (focus ((try simp only [Act.put, List.setIfInBounds_toArray, List.set_cons_zero, List.set_cons_succ]); first | done | rfl)))
    refine Kr.seqR (by rfl) (fun K hK => ?_)
    go_simp
    go_at_call 36
    refine (less3_v (H.nw 3 rfl) (H.nw 2 rfl)).mono ?_
    rintro e y22 ⟨rfl, hg⟩
    rw [decide_eq_true HX.out]
    clear hk
    replace H := H.grow hg
    clear hg
    (refine Kr.outS hK (a' := ?_) ?_ ?_; rotate_left; (focus ((try simp only [Act.put, List.setIfInBounds_toArray, List.set_cons_zero, List.set_cons_succ]); first | done | rfl))); clear hK K
    iterate 2 (refine Kr.seqQ (v := ?_) (a' := ?_) (by rfl) ?_ ?_ ?_; rotate_left 2; (focus (go_simp; first | done | rfl)); (focus ((try simp only [Act.put, List.setIfInBounds_toArray, List.set_cons_zero, List.set_cons_succ]); first | done | rfl)))
    have hk := H.c
    simp only [Kr.Cells] at hk
    iterate 2 (refine Kr.seqQ (v := ?_) (a' := ?_) (by rfl) ?_ ?_ ?_; rotate_left 2; (focus (go_simp; first | done | rfl)); (focus ((try simp only [Act.put, List.setIfInBounds_toArray, List.set_cons_zero, List.set_cons_succ]); first | done | rfl)))
    refine Kr.seqR (by rfl) (fun K hK => ?_)
    go_simp
    go_at_call 36
    refine (less3_v (H.nw 1 rfl) (H.nw 0 rfl)).mono ?_
    rintro e y23 ⟨rfl, hg⟩
    rw [decide_eq_true HY.out]
    clear hk
    replace H := H.grow hg
    clear hg
    (refine Kr.outS hK (a' := ?_) ?_ ?_; rotate_left; (focus ((try simp only [Act.put, List.setIfInBounds_toArray, List.set_cons_zero, List.set_cons_succ]); first | done | rfl))); clear hK K
    iterate 3 (refine Kr.seqQ (v := ?_) (a' := ?_) (by rfl) ?_ ?_ ?_; rotate_left 2; (focus (go_simp; first | done | rfl)); (focus ((try simp only [Act.put, List.setIfInBounds_toArray, List.set_cons_zero, List.set_cons_succ]); first | done | rfl)))
    refine Kr.seqDoneW ?_
    go_upto_region 9 with fail
    refine Kr.seqStartW ?_
    have hk := H.c
    simp only [Kr.Cells] at hk
    iterate 2 (refine Kr.seqQ (v := ?_) (a' := ?_) (by rfl) ?_ ?_ ?_; rotate_left 2; (focus (go_simp; first | done | rfl)); (focus ((try simp only [Act.put, List.setIfInBounds_toArray, List.set_cons_zero, List.set_cons_succ]); first | done | rfl)))
    refine Kr.seqR (by rfl) (fun K hK => ?_)
    go_simp
    go_at_call 33
    refine (rgcd3_v (H.nw 2 rfl) (H.nw 0 rfl) VP9.out VQ9.out).mono ?_
    rintro e y24 ⟨p24, n24, c24, rfl, hr, hg⟩
    clear hk
    replace H := H.grow hg
    replace H := H.num hr
    clear hr hg
    (refine Kr.outS hK (a' := ?_) ?_ ?_; rotate_left; (focus ((try simp only [Act.put, List.setIfInBounds_toArray, List.set_cons_zero, List.set_cons_succ]); first | done | rfl))); clear hK K
    refine Kr.seqR (by rfl) (fun K hK => ?_)
    go_simp
    go_at_call 38
    refine (of3_v 1 (by decide) _).mono ?_
    rintro e y25 ⟨p25, n25, c25, rfl, hr, hg⟩
    replace H := H.grow hg
    replace H := H.num hr.toNw
    clear hr hg
    (refine Kr.outS hK (a' := ?_) ?_ ?_; rotate_left; (focus ((try simp only [Act.put, List.setIfInBounds_toArray, List.set_cons_zero, List.set_cons_succ]); first | done | rfl))); clear hK K
    refine Kr.seqR (by rfl) (fun K hK => ?_)
    go_simp
    go_at_call 37
    refine (same3r_v (H.nw 1 rfl) (H.nw 0 rfl)).mono ?_
    rintro e y26 ⟨rfl, hg⟩
    rw [decide_eq_false HG1.out]
    replace H := H.grow hg
    clear hg
    (refine Kr.outS hK (a' := ?_) ?_ ?_; rotate_left; (focus ((try simp only [Act.put, List.setIfInBounds_toArray, List.set_cons_zero, List.set_cons_succ]); first | done | rfl))); clear hK K
    iterate 2 (refine Kr.seqQ (v := ?_) (a' := ?_) (by rfl) ?_ ?_ ?_; rotate_left 2; (focus (go_simp; first | done | rfl)); (focus ((try simp only [Act.put, List.setIfInBounds_toArray, List.set_cons_zero, List.set_cons_succ]); first | done | rfl)))
    refine Kr.seqDoneW ?_
    go_upto_region 10 with fail
    refine Kr.seqStartW ?_
    (refine Kr.seqQ (v := ?_) (a' := ?_) (by rfl) ?_ ?_ ?_; rotate_left 2; (focus (go_simp; first | done | rfl)); (focus ((try simp only [Act.put, List.setIfInBounds_toArray, List.set_cons_zero, List.set_cons_succ]); first | done | rfl)))
    refine Kr.seqDoneW ?_
    go_upto_region 13 with fail
    refine Kr.seqStartW ?_
    iterate 2 (refine Kr.seqQ (v := ?_) (a' := ?_) (by rfl) ?_ ?_ ?_; rotate_left 2; (focus (go_simp; first | done | rfl)); (focus ((try simp only [Act.put, List.setIfInBounds_toArray, List.set_cons_zero, List.set_cons_succ]); first | done | rfl)))
    refine Kr.seqDoneW ?_
    go_upto_region 14 with fail
    refine Kr.seqStartW ?_
    (refine Kr.seqQ (v := ?_) (a' := ?_) (by rfl) ?_ ?_ ?_; rotate_left 2; (focus (go_simp; first | done | rfl)); (focus ((try simp only [Act.put, List.setIfInBounds_toArray, List.set_cons_zero, List.set_cons_succ]); first | done | rfl)))
    have hk := H.c
    simp only [Kr.Cells] at hk
    iterate 9 (refine Kr.seqQ (v := ?_) (a' := ?_) (by rfl) ?_ ?_ ?_; rotate_left 2; (focus (go_simp; first | done | rfl)); (focus ((try simp only [Act.put, List.setIfInBounds_toArray, List.set_cons_zero, List.set_cons_succ]); first | done | rfl)))
    clear hk
    refine Kr.seqDoneW ?_
    go_wp2
    go_ret
    exact ⟨rfl, H.g⟩
set_option linter.unusedSimpArgs false in
set_option maxRecDepth 100000 in
set_option maxHeartbeats 16000000 in
theorem crt_any_ok {pa : Option Addr} {na ca : Nat} {pp : Option Addr} {np cp : Nat} {pb : Option Addr} {nb cb : Nat} {pq : Option Addr} {nq cq : Nat} {a p b q : Nat} {w : World} (hs : ∀ x ∈ [(pa, na, ca), (pp, np, cp), (pb, nb, cb), (pq, nq, cq)], x.2.1 ≤ 40) (hw : (∀ x ∈ [(pp, np, cp), (pq, nq, cq)], x.2.1 ≤ 6) ∨ ((∃ x ∈ [(pp, np, cp), (pq, nq, cq)], 6 < x.2.1) ∧ 34 ≤ np + nq ∧ np + nq ≤ 80)) (ha : Nw w pa na ca (digs a)) (hp : Nw w pp np cp (digs p)) (hb : Nw w pb nb cb (digs b)) (hq : Nw w pq nq cq (digs q)) (p0 : 0 < p) (vp : p < pw 32) (q0 : 0 < q) (vq : q < pw 32) (va : a < pw 64) (vb : b < pw 64) (hx : a < p) (hy : b < q) (hg1 : Nat.gcd p q = 1) (hs6 : (∀ x ∈ [(pp, np, cp), (pq, nq, cq)], x.2.1 ≤ 6)) :
    Calls Try.prog 6 #[.agg #[.slice pa na ca], .agg #[.slice pp np cp], .agg #[.slice pb nb cb], .agg #[.slice pq nq cq]] w fun e w' => e = .returned (.bool true) ∧ Gr w w' := by
  have HS := Lib.hid hs
  have HW := Lib.hid hw
  clear hs hw
  have P0 := Lib.hid p0
  have VP := Lib.hid vp
  have Q0 := Lib.hid q0
  have VQ := Lib.hid vq
  have VA := Lib.hid va
  have VB := Lib.hid vb
  clear p0 vp q0 vq va vb
  have VP9 : Hid (p < pw 900) := Lib.hid (Nat.lt_of_lt_of_le VP.out (pw_mono (by decide)))
  have VQ9 : Hid (q < pw 900) := Lib.hid (Nat.lt_of_lt_of_le VQ.out (pw_mono (by decide)))
  have HX := Lib.hid hx
  have HY := Lib.hid hy
  have HG1 := Lib.hid hg1
  clear hx hy hg1
  have HS6 := Lib.hid hs6
  clear hs6
  have HPQ : Hid (p * q < pw 32) := Lib.hid (pq_small hp hq ⟨HS6.out (pp, np, cp) (by simp), HS6.out (pq, nq, cq) (by simp)⟩)
  have HG2 : Hid (Nat.gcd (p % q) q = 1) := Lib.hid (by rw [gcd_modr]; exact HG1.out)
  have hL : IntKind.i64.wrap ((np : Int) + (nq : Int)) = (np : Int) + (nq : Int) := IntWalk.i64_in _ (by have h1 : np ≤ 6 := HS6.out (pp, np, cp) (by simp); have h2 : nq ≤ 6 := HS6.out (pq, nq, cq) (by simp); omega)
  have hl3 : ¬ 33 < (np : Int) + (nq : Int) := by have h1 : np ≤ 6 := HS6.out (pp, np, cp) (by simp); have h2 : nq ≤ 6 := HS6.out (pq, nq, cq) (by simp); omega
  have H := Sta.start w
  replace H := H.num ha
  replace H := H.num hp
  replace H := H.num hb
  replace H := H.num hq
  go_enter Try.func6, Try.ntmps6
  go_upto_region 0 with fail
  refine Kr.seqStartW ?_
  refine Kr.seqR (by rfl) (fun K hK => ?_)
  go_simp
  obtain ⟨y1, hy⟩ : ∃ y, w.alloc (.cells #[.slice pa na ca] 24) = y := ⟨_, rfl⟩
  obtain ⟨ba, hb⟩ : ∃ b, w.heap.size = b := ⟨_, rfl⟩
  rw [hy, hb]
  replace H := H.alloc hy hb rfl
  clear hy hb
  (refine Kr.outS hK (a' := ?_) ?_ ?_; rotate_left; (focus ((try simp only [Act.put, List.setIfInBounds_toArray, List.set_cons_zero, List.set_cons_succ]); first | done | rfl))); clear hK K
  refine Kr.seqR (by rfl) (fun K hK => ?_)
  go_simp
  obtain ⟨y2, hy⟩ : ∃ y, y1.alloc (.cells #[.slice pp np cp] 24) = y := ⟨_, rfl⟩
  obtain ⟨bp, hb⟩ : ∃ b, y1.heap.size = b := ⟨_, rfl⟩
  rw [hy, hb]
  replace H := H.alloc hy hb rfl
  clear hy hb
  (refine Kr.outS hK (a' := ?_) ?_ ?_; rotate_left; (focus ((try simp only [Act.put, List.setIfInBounds_toArray, List.set_cons_zero, List.set_cons_succ]); first | done | rfl))); clear hK K
  refine Kr.seqR (by rfl) (fun K hK => ?_)
  go_simp
  obtain ⟨y3, hy⟩ : ∃ y, y2.alloc (.cells #[.slice pb nb cb] 24) = y := ⟨_, rfl⟩
  obtain ⟨bb, hb⟩ : ∃ b, y2.heap.size = b := ⟨_, rfl⟩
  rw [hy, hb]
  replace H := H.alloc hy hb rfl
  clear hy hb
  (refine Kr.outS hK (a' := ?_) ?_ ?_; rotate_left; (focus ((try simp only [Act.put, List.setIfInBounds_toArray, List.set_cons_zero, List.set_cons_succ]); first | done | rfl))); clear hK K
  refine Kr.seqR (by rfl) (fun K hK => ?_)
  go_simp
  obtain ⟨y4, hy⟩ : ∃ y, y3.alloc (.cells #[.slice pq nq cq] 24) = y := ⟨_, rfl⟩
  obtain ⟨bq, hb⟩ : ∃ b, y3.heap.size = b := ⟨_, rfl⟩
  rw [hy, hb]
  replace H := H.alloc hy hb rfl
  clear hy hb
  (refine Kr.outS hK (a' := ?_) ?_ ?_; rotate_left; (focus ((try simp only [Act.put, List.setIfInBounds_toArray, List.set_cons_zero, List.set_cons_succ]); first | done | rfl))); clear hK K
  (refine Kr.seqQ (v := ?_) (a' := ?_) (by rfl) ?_ ?_ ?_; rotate_left 2; (focus (go_simp; first | done | rfl)); (focus ((try simp only [Act.put, List.setIfInBounds_toArray, List.set_cons_zero, List.set_cons_succ]); first | done | rfl)))
  refine Kr.seqDoneW ?_
  go_upto_region 1 with fail
  go_cut [39] from 12 to 38 (fun s39 W => s39 = .bool false ∧ Hid (Sta w W [(bq, 0, .slice pq nq cq), (bb, 0, .slice pb nb cb), (bp, 0, .slice pp np cp), (ba, 0, .slice pa na ca)] [N pq nq cq (q), N pb nb cb (b), N pp np cp (p), N pa na ca (a)]))
  case first =>
    rcases HW.out with h6 | ⟨hg, hl, hu⟩
    · have HS6 := Lib.hid h6
      clear h6
      refine Kr.seqStartW ?_
      refine Kr.seqR (by rfl) (fun K hK => ?_)
      go_simp
      go_at_call 18
      refine (awake3 _).mono ?_
      rintro e y5 ⟨rfl, hg⟩
      replace H := H.grow hg
      clear hg
      (refine Kr.outS hK (a' := ?_) ?_ ?_; rotate_left; (focus ((try simp only [Act.put, List.setIfInBounds_toArray, List.set_cons_zero, List.set_cons_succ]); first | done | rfl))); clear hK K
      iterate 2 (refine Kr.seqQ (v := ?_) (a' := ?_) (by rfl) ?_ ?_ ?_; rotate_left 2; (focus (go_simp; first | done | rfl)); (focus ((try simp only [Act.put, List.setIfInBounds_toArray, List.set_cons_zero, List.set_cons_succ]); first | done | rfl)))
      have hk := H.c
      simp only [Kr.Cells] at hk
      iterate 4 (refine Kr.seqQ (v := ?_) (a' := ?_) (by rfl) ?_ ?_ ?_; rotate_left 2; (focus (go_simp; first | done | rfl)); (focus ((try simp only [Act.put, List.setIfInBounds_toArray, List.set_cons_zero, List.set_cons_succ]); first | done | rfl)))
      refine Kr.seqR (by rfl) (fun K hK => ?_)
      go_simp
      clear hk
      obtain ⟨y6, hy⟩ : ∃ y, y5.alloc (.cells #[.slice pa na ca, .slice pp np cp, .slice pb nb cb, .slice pq nq cq] 24) = y := ⟨_, rfl⟩
      obtain ⟨by6, hb⟩ : ∃ b, y5.heap.size = b := ⟨_, rfl⟩
      rw [hy, hb]
      have HN : Nats y6 by6 0 [(pa, na, ca), (pp, np, cp), (pb, nb, cb), (pq, nq, cq)] := nats_mk hy hb
      have hg : Gr y5 y6 := hy ▸ (Gr.refl _).alloc _
      replace H := H.grow hg
      clear hg hy hb
      (refine Kr.outS hK (a' := ?_) ?_ ?_; rotate_left; (focus ((try simp only [Act.put, List.setIfInBounds_toArray, List.set_cons_zero, List.set_cons_succ]); first | done | rfl))); clear hK K
      refine Kr.seqR (by rfl) (fun K hK => ?_)
      go_simp
      go_at_call 19
      go_at_call 19
      refine (few_ok HN (by simp) HS.out).mono ?_
      rintro e y7 ⟨rfl, hg⟩
      replace H := H.grow hg
      clear hg
      clear HN
      (refine Kr.outS hK (a' := ?_) ?_ ?_; rotate_left; (focus ((try simp only [Act.put, List.setIfInBounds_toArray, List.set_cons_zero, List.set_cons_succ]); first | done | rfl))); clear hK K
      iterate 3 (refine Kr.seqQ (v := ?_) (a' := ?_) (by rfl) ?_ ?_ ?_; rotate_left 2; (focus (go_simp; first | done | rfl)); (focus ((try simp only [Act.put, List.setIfInBounds_toArray, List.set_cons_zero, List.set_cons_succ]); first | done | rfl)))
      have hk := H.c
      simp only [Kr.Cells] at hk
      iterate 2 (refine Kr.seqQ (v := ?_) (a' := ?_) (by rfl) ?_ ?_ ?_; rotate_left 2; (focus (go_simp; first | done | rfl)); (focus ((try simp only [Act.put, List.setIfInBounds_toArray, List.set_cons_zero, List.set_cons_succ]); first | done | rfl)))
      refine Kr.seqR (by rfl) (fun K hK => ?_)
      go_simp
      clear hk
      obtain ⟨y8, hy⟩ : ∃ y, y7.alloc (.cells #[.slice pp np cp, .slice pq nq cq] 24) = y := ⟨_, rfl⟩
      obtain ⟨by8, hb⟩ : ∃ b, y7.heap.size = b := ⟨_, rfl⟩
      rw [hy, hb]
      have HN : Nats y8 by8 0 [(pp, np, cp), (pq, nq, cq)] := nats_mk hy hb
      have hg : Gr y7 y8 := hy ▸ (Gr.refl _).alloc _
      replace H := H.grow hg
      clear hg hy hb
      (refine Kr.outS hK (a' := ?_) ?_ ?_; rotate_left; (focus ((try simp only [Act.put, List.setIfInBounds_toArray, List.set_cons_zero, List.set_cons_succ]); first | done | rfl))); clear hK K
      refine Kr.seqR (by rfl) (fun K hK => ?_)
      go_simp
      go_at_call 19
      go_at_call 19
      refine (few_ok HN (by simp) HS6.out).mono ?_
      rintro e y9 ⟨rfl, hg⟩
      replace H := H.grow hg
      clear hg
      clear HN
      (refine Kr.outS hK (a' := ?_) ?_ ?_; rotate_left; (focus ((try simp only [Act.put, List.setIfInBounds_toArray, List.set_cons_zero, List.set_cons_succ]); first | done | rfl))); clear hK K
      iterate 2 (refine Kr.seqQ (v := ?_) (a' := ?_) (by rfl) ?_ ?_ ?_; rotate_left 2; (focus (go_simp; first | done | rfl)); (focus ((try simp only [Act.put, List.setIfInBounds_toArray, List.set_cons_zero, List.set_cons_succ]); first | done | rfl)))
      (refine Kr.seqSkipQ (a' := ?_) (by rfl) ?_ ?_; rotate_left; (focus ((try simp only [Act.put, List.setIfInBounds_toArray, List.set_cons_zero, List.set_cons_succ]); first | done | rfl)))
      (refine Kr.seqSkipQ (a' := ?_) (by rfl) ?_ ?_; rotate_left; (focus ((try simp only [Act.put, List.setIfInBounds_toArray, List.set_cons_zero, List.set_cons_succ]); first | done | rfl)))
      (refine Kr.seqSkipQ (a' := ?_) (by rfl) ?_ ?_; rotate_left; (focus ((try simp only [Act.put, List.setIfInBounds_toArray, List.set_cons_zero, List.set_cons_succ]); first | done | rfl)))
      (refine Kr.seqSkipQ (a' := ?_) (by rfl) ?_ ?_; rotate_left; (focus ((try simp only [Act.put, List.setIfInBounds_toArray, List.set_cons_zero, List.set_cons_succ]); first | done | rfl)))
      (refine Kr.seqSkipQ (a' := ?_) (by rfl) ?_ ?_; rotate_left; (focus ((try simp only [Act.put, List.setIfInBounds_toArray, List.set_cons_zero, List.set_cons_succ]); first | done | rfl)))
      (refine Kr.seqSkipQ (a' := ?_) (by rfl) ?_ ?_; rotate_left; (focus ((try simp only [Act.put, List.setIfInBounds_toArray, List.set_cons_zero, List.set_cons_succ]); first | done | rfl)))
      (refine Kr.seqSkipQ (a' := ?_) (by rfl) ?_ ?_; rotate_left; (focus ((try simp only [Act.put, List.setIfInBounds_toArray, List.set_cons_zero, List.set_cons_succ]); first | done | rfl)))
      (refine Kr.seqSkipQ (a' := ?_) (by rfl) ?_ ?_; rotate_left; (focus ((try simp only [Act.put, List.setIfInBounds_toArray, List.set_cons_zero, List.set_cons_succ]); first | done | rfl)))
      iterate 2 (refine Kr.seqQ (v := ?_) (a' := ?_) (by rfl) ?_ ?_ ?_; rotate_left 2; (focus (go_simp; first | done | rfl)); (focus ((try simp only [Act.put, List.setIfInBounds_toArray, List.set_cons_zero, List.set_cons_succ]); first | done | rfl)))
      refine Kr.seqDoneW ?_
      go_wp2_with fail
      go_meet
      exact ⟨rfl, Lib.hid H⟩
    · have HG := Lib.hid hg
      have hLL : IntKind.i64.wrap ((np : Int) + (nq : Int)) = (np : Int) + (nq : Int) := IntWalk.i64_in _ (by omega)
      have hl2 : ¬ (np : Int) + (nq : Int) < 34 := by omega
      clear hg
      refine Kr.seqStartW ?_
      refine Kr.seqR (by rfl) (fun K hK => ?_)
      go_simp
      go_at_call 18
      refine (awake3 _).mono ?_
      rintro e y10 ⟨rfl, hg⟩
      replace H := H.grow hg
      clear hg
      (refine Kr.outS hK (a' := ?_) ?_ ?_; rotate_left; (focus ((try simp only [Act.put, List.setIfInBounds_toArray, List.set_cons_zero, List.set_cons_succ]); first | done | rfl))); clear hK K
      iterate 2 (refine Kr.seqQ (v := ?_) (a' := ?_) (by rfl) ?_ ?_ ?_; rotate_left 2; (focus (go_simp; first | done | rfl)); (focus ((try simp only [Act.put, List.setIfInBounds_toArray, List.set_cons_zero, List.set_cons_succ]); first | done | rfl)))
      have hk := H.c
      simp only [Kr.Cells] at hk
      iterate 4 (refine Kr.seqQ (v := ?_) (a' := ?_) (by rfl) ?_ ?_ ?_; rotate_left 2; (focus (go_simp; first | done | rfl)); (focus ((try simp only [Act.put, List.setIfInBounds_toArray, List.set_cons_zero, List.set_cons_succ]); first | done | rfl)))
      refine Kr.seqR (by rfl) (fun K hK => ?_)
      go_simp
      clear hk
      obtain ⟨y11, hy⟩ : ∃ y, y10.alloc (.cells #[.slice pa na ca, .slice pp np cp, .slice pb nb cb, .slice pq nq cq] 24) = y := ⟨_, rfl⟩
      obtain ⟨by11, hb⟩ : ∃ b, y10.heap.size = b := ⟨_, rfl⟩
      rw [hy, hb]
      have HN : Nats y11 by11 0 [(pa, na, ca), (pp, np, cp), (pb, nb, cb), (pq, nq, cq)] := nats_mk hy hb
      have hg : Gr y10 y11 := hy ▸ (Gr.refl _).alloc _
      replace H := H.grow hg
      clear hg hy hb
      (refine Kr.outS hK (a' := ?_) ?_ ?_; rotate_left; (focus ((try simp only [Act.put, List.setIfInBounds_toArray, List.set_cons_zero, List.set_cons_succ]); first | done | rfl))); clear hK K
      refine Kr.seqR (by rfl) (fun K hK => ?_)
      go_simp
      go_at_call 19
      go_at_call 19
      refine (few_ok HN (by simp) HS.out).mono ?_
      rintro e y12 ⟨rfl, hg⟩
      replace H := H.grow hg
      clear hg
      clear HN
      (refine Kr.outS hK (a' := ?_) ?_ ?_; rotate_left; (focus ((try simp only [Act.put, List.setIfInBounds_toArray, List.set_cons_zero, List.set_cons_succ]); first | done | rfl))); clear hK K
      iterate 3 (refine Kr.seqQ (v := ?_) (a' := ?_) (by rfl) ?_ ?_ ?_; rotate_left 2; (focus (go_simp; first | done | rfl)); (focus ((try simp only [Act.put, List.setIfInBounds_toArray, List.set_cons_zero, List.set_cons_succ]); first | done | rfl)))
      have hk := H.c
      simp only [Kr.Cells] at hk
      iterate 2 (refine Kr.seqQ (v := ?_) (a' := ?_) (by rfl) ?_ ?_ ?_; rotate_left 2; (focus (go_simp; first | done | rfl)); (focus ((try simp only [Act.put, List.setIfInBounds_toArray, List.set_cons_zero, List.set_cons_succ]); first | done | rfl)))
      refine Kr.seqR (by rfl) (fun K hK => ?_)
      go_simp
      clear hk
      obtain ⟨y13, hy⟩ : ∃ y, y12.alloc (.cells #[.slice pp np cp, .slice pq nq cq] 24) = y := ⟨_, rfl⟩
      obtain ⟨by13, hb⟩ : ∃ b, y12.heap.size = b := ⟨_, rfl⟩
      rw [hy, hb]
      have HN : Nats y13 by13 0 [(pp, np, cp), (pq, nq, cq)] := nats_mk hy hb
      have hg : Gr y12 y13 := hy ▸ (Gr.refl _).alloc _
      replace H := H.grow hg
      clear hg hy hb
      (refine Kr.outS hK (a' := ?_) ?_ ?_; rotate_left; (focus ((try simp only [Act.put, List.setIfInBounds_toArray, List.set_cons_zero, List.set_cons_succ]); first | done | rfl))); clear hK K
      refine Kr.seqR (by rfl) (fun K hK => ?_)
      go_simp
      go_at_call 19
      go_at_call 19
      refine (few_no HN (by simp) HG.out).mono ?_
      rintro e y14 ⟨rfl, hg⟩
      replace H := H.grow hg
      clear hg
      clear HN
      (refine Kr.outS hK (a' := ?_) ?_ ?_; rotate_left; (focus ((try simp only [Act.put, List.setIfInBounds_toArray, List.set_cons_zero, List.set_cons_succ]); first | done | rfl))); clear hK K
      iterate 3 (refine Kr.seqQ (v := ?_) (a' := ?_) (by rfl) ?_ ?_ ?_; rotate_left 2; (focus (go_simp; first | done | rfl)); (focus ((try simp only [Act.put, List.setIfInBounds_toArray, List.set_cons_zero, List.set_cons_succ]); first | done | rfl)))
      have hk := H.c
      simp only [Kr.Cells] at hk
      iterate 9 (refine Kr.seqQ (v := ?_) (a' := ?_) (by rfl) ?_ ?_ ?_; rotate_left 2; (focus (go_simp; first | done | rfl)); (focus ((try simp only [Act.put, List.setIfInBounds_toArray, List.set_cons_zero, List.set_cons_succ]); first | done | rfl)))
      clear hk
      refine Kr.seqDoneW ?_
      go_wp2_with fail
      go_meet
      exact ⟨rfl, Lib.hid H⟩
  case rest =>
    clear H
    obtain ⟨rfl, HH⟩ := hcut
    have H := HH.out
    clear HH
    go_upto_region 3 with fail
    refine Kr.seqStartW ?_
    have hk := H.c
    simp only [Kr.Cells] at hk
    iterate 4 (refine Kr.seqQ (v := ?_) (a' := ?_) (by rfl) ?_ ?_ ?_; rotate_left 2; (focus (go_simp; first | done | rfl)); (focus ((try simp only [Act.put, List.setIfInBounds_toArray, List.set_cons_zero, List.set_cons_succ]); first | done | rfl)))
    refine Kr.seqR (by rfl) (fun K hK => ?_)
    go_simp
    go_at_call 35
    refine (mCrt_ok (H.nw 3 rfl) (H.nw 2 rfl) (H.nw 1 rfl) (H.nw 0 rfl) HX.out HY.out VP.out VQ.out HG2.out HPQ.out).mono ?_
    rintro e y15 ⟨z1, hI, pi, ni, ci, rfl, hr, hg⟩
    have HI1 := Lib.hid hI
    clear hk
    replace H := H.grow hg
    replace H := H.num hr
    clear hr hg hI
    (refine Kr.outS hK (a' := ?_) ?_ ?_; rotate_left; (focus ((try simp only [Act.put, List.setIfInBounds_toArray, List.set_cons_zero, List.set_cons_succ]); first | done | rfl))); clear hK K
    iterate 3 (refine Kr.seqQ (v := ?_) (a' := ?_) (by rfl) ?_ ?_ ?_; rotate_left 2; (focus (go_simp; first | done | rfl)); (focus ((try simp only [Act.put, List.setIfInBounds_toArray, List.set_cons_zero, List.set_cons_succ]); first | done | rfl)))
    refine Kr.seqR (by rfl) (fun K hK => ?_)
    go_simp
    obtain ⟨y16, hy⟩ : ∃ y, y15.alloc (.cells #[.slice none 0 0] 24) = y := ⟨_, rfl⟩
    obtain ⟨bx, hb⟩ : ∃ b, y15.heap.size = b := ⟨_, rfl⟩
    rw [hy, hb]
    replace H := H.alloc hy hb rfl
    clear hy hb
    (refine Kr.outS hK (a' := ?_) ?_ ?_; rotate_left; (focus ((try simp only [Act.put, List.setIfInBounds_toArray, List.set_cons_zero, List.set_cons_succ]); first | done | rfl))); clear hK K
    have hk := H.c
    simp only [Kr.Cells] at hk
    refine Kr.seqR (by rfl) (fun K hK => ?_)
    go_simp
    clear hk
    obtain ⟨y17, hy⟩ : ∃ y, y16.setCell ⟨bx, 0, none⟩ (.slice pi ni ci) = y := ⟨_, rfl⟩
    rw [hy]
    replace H := H.store 0 hy rfl rfl
    dsimp only [List.set] at H
    clear hy
    (refine Kr.outS hK (a' := ?_) ?_ ?_; rotate_left; (focus ((try simp only [Act.put, List.setIfInBounds_toArray, List.set_cons_zero, List.set_cons_succ]); first | done | rfl))); clear hK K
    (refine Kr.seqQ (v := ?_) (a' := ?_) (by rfl) ?_ ?_ ?_; rotate_left 2; (focus (go_simp; first | done | rfl)); (focus ((try simp only [Act.put, List.setIfInBounds_toArray, List.set_cons_zero, List.set_cons_succ]); first | done | rfl)))
    refine Kr.seqDoneW ?_
    go_upto_region 4 with fail
    refine Kr.seqStartW ?_
    (refine Kr.seqQ (v := ?_) (a' := ?_) (by rfl) ?_ ?_ ?_; rotate_left 2; (focus (go_simp; first | done | rfl)); (focus ((try simp only [Act.put, List.setIfInBounds_toArray, List.set_cons_zero, List.set_cons_succ]); first | done | rfl)))
    refine Kr.seqDoneW ?_
    go_upto_region 5 with fail
    refine Kr.seqStartW ?_
    have hk := H.c
    simp only [Kr.Cells] at hk
    (refine Kr.seqQ (v := ?_) (a' := ?_) (by rfl) ?_ ?_ ?_; rotate_left 2; (focus (go_simp; first | done | rfl)); (focus ((try simp only [Act.put, List.setIfInBounds_toArray, List.set_cons_zero, List.set_cons_succ]); first | done | rfl)))
    refine Kr.seqR (by rfl) (fun K hK => ?_)
    go_simp
    go_at_call 22
    refine (first_nil (H.nw 3 rfl)).mono ?_
    rintro e y18 ⟨rfl, hg⟩
    rw [im_digs P0.out VP.out, if_pos rfl]
    clear hk
    replace H := H.grow hg
    clear hg
    (refine Kr.outS hK (a' := ?_) ?_ ?_; rotate_left; (focus ((try simp only [Act.put, List.setIfInBounds_toArray, List.set_cons_zero, List.set_cons_succ]); first | done | rfl))); clear hK K
    iterate 2 (refine Kr.seqQ (v := ?_) (a' := ?_) (by rfl) ?_ ?_ ?_; rotate_left 2; (focus (go_simp; first | done | rfl)); (focus ((try simp only [Act.put, List.setIfInBounds_toArray, List.set_cons_zero, List.set_cons_succ]); first | done | rfl)))
    have hk := H.c
    simp only [Kr.Cells] at hk
    (refine Kr.seqQ (v := ?_) (a' := ?_) (by rfl) ?_ ?_ ?_; rotate_left 2; (focus (go_simp; first | done | rfl)); (focus ((try simp only [Act.put, List.setIfInBounds_toArray, List.set_cons_zero, List.set_cons_succ]); first | done | rfl)))
    refine Kr.seqR (by rfl) (fun K hK => ?_)
    go_simp
    go_at_call 22
    refine (first_nil (H.nw 1 rfl)).mono ?_
    rintro e y19 ⟨rfl, hg⟩
    rw [im_digs Q0.out VQ.out, if_pos rfl]
    clear hk
    replace H := H.grow hg
    clear hg
    (refine Kr.outS hK (a' := ?_) ?_ ?_; rotate_left; (focus ((try simp only [Act.put, List.setIfInBounds_toArray, List.set_cons_zero, List.set_cons_succ]); first | done | rfl))); clear hK K
    iterate 3 (refine Kr.seqQ (v := ?_) (a' := ?_) (by rfl) ?_ ?_ ?_; rotate_left 2; (focus (go_simp; first | done | rfl)); (focus ((try simp only [Act.put, List.setIfInBounds_toArray, List.set_cons_zero, List.set_cons_succ]); first | done | rfl)))
    have hk := H.c
    simp only [Kr.Cells] at hk
    (refine Kr.seqQ (v := ?_) (a' := ?_) (by rfl) ?_ ?_ ?_; rotate_left 2; (focus (go_simp; first | done | rfl)); (focus ((try simp only [Act.put, List.setIfInBounds_toArray, List.set_cons_zero, List.set_cons_succ]); first | done | rfl)))
    refine Kr.seqR (by rfl) (fun K hK => ?_)
    go_simp
    go_at_call 29
    refine (valid3_any _ _ _ _ _ (H.nw 4 rfl)).mono ?_
    rintro e y20 ⟨rfl, hg⟩
    rw [dv VA.out]
    clear hk
    replace H := H.grow hg
    clear hg
    (refine Kr.outS hK (a' := ?_) ?_ ?_; rotate_left; (focus ((try simp only [Act.put, List.setIfInBounds_toArray, List.set_cons_zero, List.set_cons_succ]); first | done | rfl))); clear hK K
    iterate 3 (refine Kr.seqQ (v := ?_) (a' := ?_) (by rfl) ?_ ?_ ?_; rotate_left 2; (focus (go_simp; first | done | rfl)); (focus ((try simp only [Act.put, List.setIfInBounds_toArray, List.set_cons_zero, List.set_cons_succ]); first | done | rfl)))
    have hk := H.c
    simp only [Kr.Cells] at hk
    (refine Kr.seqQ (v := ?_) (a' := ?_) (by rfl) ?_ ?_ ?_; rotate_left 2; (focus (go_simp; first | done | rfl)); (focus ((try simp only [Act.put, List.setIfInBounds_toArray, List.set_cons_zero, List.set_cons_succ]); first | done | rfl)))
    refine Kr.seqR (by rfl) (fun K hK => ?_)
    go_simp
    go_at_call 29
    refine (valid3_any _ _ _ _ _ (H.nw 2 rfl)).mono ?_
    rintro e y21 ⟨rfl, hg⟩
    rw [dv VB.out]
    clear hk
    replace H := H.grow hg
    clear hg
    (refine Kr.outS hK (a' := ?_) ?_ ?_; rotate_left; (focus ((try simp only [Act.put, List.setIfInBounds_toArray, List.set_cons_zero, List.set_cons_succ]); first | done | rfl))); clear hK K
    iterate 3 (refine Kr.seqQ (v := ?_) (a' := ?_) (by rfl) ?_ ?_ ?_; rotate_left 2; (focus (go_simp; first | done | rfl)); (focus ((try simp only [Act.put, List.setIfInBounds_toArray, List.set_cons_zero, List.set_cons_succ]); first | done | rfl)))
    refine Kr.seqDoneW ?_
    go_upto_region 7 with fail
    refine Kr.seqStartW ?_
    have hk := H.c
    simp only [Kr.Cells] at hk
    iterate 2 (refine Kr.seqQ (v := ?_) (a' := ?_) (by rfl) ?_ ?_ ?_; rotate_left 2; (focus (go_simp; first | done | rfl)); (focus ((try simp only [Act.put, List.setIfInBounds_toArray, List.set_cons_zero, List.set_cons_succ]); first | done | rfl)))
    refine Kr.seqR (by rfl) (fun K hK => ?_)
    go_simp
    go_at_call 36
    refine (less3_v (H.nw 4 rfl) (H.nw 3 rfl)).mono ?_
    rintro e y22 ⟨rfl, hg⟩
    rw [decide_eq_true HX.out]
    clear hk
    replace H := H.grow hg
    clear hg
    (refine Kr.outS hK (a' := ?_) ?_ ?_; rotate_left; (focus ((try simp only [Act.put, List.setIfInBounds_toArray, List.set_cons_zero, List.set_cons_succ]); first | done | rfl))); clear hK K
    iterate 2 (refine Kr.seqQ (v := ?_) (a' := ?_) (by rfl) ?_ ?_ ?_; rotate_left 2; (focus (go_simp; first | done | rfl)); (focus ((try simp only [Act.put, List.setIfInBounds_toArray, List.set_cons_zero, List.set_cons_succ]); first | done | rfl)))
    have hk := H.c
    simp only [Kr.Cells] at hk
    iterate 2 (refine Kr.seqQ (v := ?_) (a' := ?_) (by rfl) ?_ ?_ ?_; rotate_left 2; (focus (go_simp; first | done | rfl)); (focus ((try simp only [Act.put, List.setIfInBounds_toArray, List.set_cons_zero, List.set_cons_succ]); first | done | rfl)))
    refine Kr.seqR (by rfl) (fun K hK => ?_)
    go_simp
    go_at_call 36
    refine (less3_v (H.nw 2 rfl) (H.nw 1 rfl)).mono ?_
    rintro e y23 ⟨rfl, hg⟩
    rw [decide_eq_true HY.out]
    clear hk
    replace H := H.grow hg
    clear hg
    (refine Kr.outS hK (a' := ?_) ?_ ?_; rotate_left; (focus ((try simp only [Act.put, List.setIfInBounds_toArray, List.set_cons_zero, List.set_cons_succ]); first | done | rfl))); clear hK K
    iterate 3 (refine Kr.seqQ (v := ?_) (a' := ?_) (by rfl) ?_ ?_ ?_; rotate_left 2; (focus (go_simp; first | done | rfl)); (focus ((try simp only [Act.put, List.setIfInBounds_toArray, List.set_cons_zero, List.set_cons_succ]); first | done | rfl)))
    refine Kr.seqDoneW ?_
    go_upto_region 9 with fail
    refine Kr.seqStartW ?_
    have hk := H.c
    simp only [Kr.Cells] at hk
    iterate 2 (refine Kr.seqQ (v := ?_) (a' := ?_) (by rfl) ?_ ?_ ?_; rotate_left 2; (focus (go_simp; first | done | rfl)); (focus ((try simp only [Act.put, List.setIfInBounds_toArray, List.set_cons_zero, List.set_cons_succ]); first | done | rfl)))
    refine Kr.seqR (by rfl) (fun K hK => ?_)
    go_simp
    go_at_call 33
    refine (rgcd3_v (H.nw 3 rfl) (H.nw 1 rfl) VP9.out VQ9.out).mono ?_
    rintro e y24 ⟨p24, n24, c24, rfl, hr, hg⟩
    clear hk
    replace H := H.grow hg
    replace H := H.num hr
    clear hr hg
    (refine Kr.outS hK (a' := ?_) ?_ ?_; rotate_left; (focus ((try simp only [Act.put, List.setIfInBounds_toArray, List.set_cons_zero, List.set_cons_succ]); first | done | rfl))); clear hK K
    refine Kr.seqR (by rfl) (fun K hK => ?_)
    go_simp
    go_at_call 38
    refine (of3_v 1 (by decide) _).mono ?_
    rintro e y25 ⟨p25, n25, c25, rfl, hr, hg⟩
    replace H := H.grow hg
    replace H := H.num hr.toNw
    clear hr hg
    (refine Kr.outS hK (a' := ?_) ?_ ?_; rotate_left; (focus ((try simp only [Act.put, List.setIfInBounds_toArray, List.set_cons_zero, List.set_cons_succ]); first | done | rfl))); clear hK K
    refine Kr.seqR (by rfl) (fun K hK => ?_)
    go_simp
    go_at_call 37
    refine (same3r_v (H.nw 1 rfl) (H.nw 0 rfl)).mono ?_
    rintro e y26 ⟨rfl, hg⟩
    rw [decide_eq_true HG1.out]
    replace H := H.grow hg
    clear hg
    (refine Kr.outS hK (a' := ?_) ?_ ?_; rotate_left; (focus ((try simp only [Act.put, List.setIfInBounds_toArray, List.set_cons_zero, List.set_cons_succ]); first | done | rfl))); clear hK K
    iterate 2 (refine Kr.seqQ (v := ?_) (a' := ?_) (by rfl) ?_ ?_ ?_; rotate_left 2; (focus (go_simp; first | done | rfl)); (focus ((try simp only [Act.put, List.setIfInBounds_toArray, List.set_cons_zero, List.set_cons_succ]); first | done | rfl)))
    refine Kr.seqDoneW ?_
    go_upto_region 11 with fail
    refine Kr.seqStartW ?_
    (refine Kr.seqQ (v := ?_) (a' := ?_) (by rfl) ?_ ?_ ?_; rotate_left 2; (focus (go_simp; first | done | rfl)); (focus ((try simp only [Act.put, List.setIfInBounds_toArray, List.set_cons_zero, List.set_cons_succ]); first | done | rfl)))
    have hk := H.c
    simp only [Kr.Cells] at hk
    iterate 8 (refine Kr.seqQ (v := ?_) (a' := ?_) (by rfl) ?_ ?_ ?_; rotate_left 2; (focus (go_simp; first | done | rfl)); (focus ((try simp only [Act.put, List.setIfInBounds_toArray, List.set_cons_zero, List.set_cons_succ]); first | done | rfl)))
    clear hk
    refine Kr.seqDoneW ?_
    go_upto_region 13 with fail
    refine Kr.seqStartW ?_
    iterate 2 (refine Kr.seqQ (v := ?_) (a' := ?_) (by rfl) ?_ ?_ ?_; rotate_left 2; (focus (go_simp; first | done | rfl)); (focus ((try simp only [Act.put, List.setIfInBounds_toArray, List.set_cons_zero, List.set_cons_succ]); first | done | rfl)))
    refine Kr.seqDoneW ?_
    go_upto_region 15 with fail
    refine Kr.startL (fun W' => Kr.Cells W' [(bx, 0, .slice pi ni ci), (ba, 0, .slice pa na ca), (bp, 0, .slice pp np cp), (bb, 0, .slice pb nb cb), (bq, 0, .slice pq nq cq)]) [] (by kernel_rfl) ?_
    have gd : Gr y26 y26.drew := (Gr.refl _).drew
    generalize y26.drew = d27 at gd ⊢
    replace H := H.grow gd
    clear gd
    (refine Kr.tSQ 0 [] (v := ?_) (a' := ?_) rfl (by kernel_rfl) (fun _ _ _ h => h) (by rfl) (H.sub [0, 4, 3, 2, 1] rfl) (fun wx hSx => ?_) ?_ ?_; rotate_left 2; (focus (simp only [Kr.Cells] at hSx; go_simp; first | done | rfl)); (focus ((try simp only [Act.put, List.setIfInBounds_toArray, List.set_cons_zero, List.set_cons_succ]); first | done | rfl)))
    (refine Kr.tSQ 1 [] (v := ?_) (a' := ?_) rfl (by kernel_rfl) (fun _ _ _ h => h) (by rfl) (H.sub [0, 4, 3, 2, 1] rfl) (fun wx hSx => ?_) ?_ ?_; rotate_left 2; (focus (simp only [Kr.Cells] at hSx; go_simp; first | done | rfl)); (focus ((try simp only [Act.put, List.setIfInBounds_toArray, List.set_cons_zero, List.set_cons_succ]); first | done | rfl)))
    (refine Kr.tSQ 2 [] (v := ?_) (a' := ?_) rfl (by kernel_rfl) (fun _ _ _ h => h) (by rfl) (H.sub [0, 4, 3, 2, 1] rfl) (fun wx hSx => ?_) ?_ ?_; rotate_left 2; (focus (simp only [Kr.Cells] at hSx; go_simp; first | done | rfl)); (focus ((try simp only [Act.put, List.setIfInBounds_toArray, List.set_cons_zero, List.set_cons_succ]); first | done | rfl)))
    (refine Kr.tSQ 3 [] (v := ?_) (a' := ?_) rfl (by kernel_rfl) (fun _ _ _ h => h) (by rfl) (H.sub [0, 4, 3, 2, 1] rfl) (fun wx hSx => ?_) ?_ ?_; rotate_left 2; (focus (simp only [Kr.Cells] at hSx; go_simp; first | done | rfl)); (focus ((try simp only [Act.put, List.setIfInBounds_toArray, List.set_cons_zero, List.set_cons_succ]); first | done | rfl)))
    (refine Kr.tSQ 4 [] (v := ?_) (a' := ?_) rfl (by kernel_rfl) (fun _ _ _ h => h) (by rfl) (H.sub [0, 4, 3, 2, 1] rfl) (fun wx hSx => ?_) ?_ ?_; rotate_left 2; (focus (simp only [Kr.Cells] at hSx; go_simp; first | done | rfl)); (focus ((try simp only [Act.put, List.setIfInBounds_toArray, List.set_cons_zero, List.set_cons_succ]); first | done | rfl)))
    refine Kr.readyL (rs := [5]) (by kernel_rfl) (by simp) ?_
    refine Kr.AllL.cons rfl (fun K hK => ?_) Kr.AllL.nil
    go_simp
    go_at_call 39
    refine (rcrt3_v (H.nw 6 rfl) (H.nw 5 rfl) (H.nw 4 rfl) (H.nw 3 rfl) HX.out HY.out VP9.out VQ9.out (Nat.lt_of_lt_of_le HPQ.out (pw_mono (by decide))) HG2.out).mono ?_
    rintro e y28 ⟨z2, hI, pj, nj, cj, rfl, hr, hg⟩
    have hz := inv_unique HI1.out hI
    subst hz
    replace H := H.grow hg
    replace H := H.num hr
    clear hr hg hI
    (refine Kr.outL hK (a' := ?_) ?_ (fun _ => (H.sub [0, 4, 3, 2, 1] rfl)) ?_; rotate_left; (focus ((try simp only [Act.put, List.setIfInBounds_toArray, List.set_cons_zero, List.set_cons_succ]); first | done | rfl))); clear hK K
    refine Kr.readyL (rs := [6]) (by kernel_rfl) (by simp) ?_
    refine Kr.AllL.cons rfl (fun K hK => ?_) Kr.AllL.nil
    go_simp
    go_at_call 23
    refine (same3_v (H.nw 3 rfl) (H.nw 0 rfl)).mono ?_
    rintro e y29 ⟨rfl, hg⟩
    rw [decide_eq_true rfl]
    replace H := H.grow hg
    clear hg
    (refine Kr.outL hK (a' := ?_) ?_ (fun _ => (H.sub [0, 4, 3, 2, 1] rfl)) ?_; rotate_left; (focus ((try simp only [Act.put, List.setIfInBounds_toArray, List.set_cons_zero, List.set_cons_succ]); first | done | rfl))); clear hK K
    (refine Kr.tPQ 7 (v := ?_) (a' := ?_) rfl (by kernel_rfl) (fun _ _ _ h => h) (by rfl) (fun _ => (H.sub [0, 4, 3, 2, 1] rfl)) (fun wx => ?_) ?_ ?_; rotate_left 2; (focus (go_simp; first | done | rfl)); (focus ((try simp only [Act.put, List.setIfInBounds_toArray, List.set_cons_zero, List.set_cons_succ]); first | done | rfl)))
    (refine Kr.tPQ 8 (v := ?_) (a' := ?_) rfl (by kernel_rfl) (fun _ _ _ h => h) (by rfl) (fun _ => (H.sub [0, 4, 3, 2, 1] rfl)) (fun wx => ?_) ?_ ?_; rotate_left 2; (focus (go_simp; first | done | rfl)); (focus ((try simp only [Act.put, List.setIfInBounds_toArray, List.set_cons_zero, List.set_cons_succ]); first | done | rfl)))
    (refine Kr.tPQ 9 (v := ?_) (a' := ?_) rfl (by kernel_rfl) (fun _ _ _ h => h) (by rfl) (fun _ => (H.sub [0, 4, 3, 2, 1] rfl)) (fun wx => ?_) ?_ ?_; rotate_left 2; (focus (go_simp; first | done | rfl)); (focus ((try simp only [Act.put, List.setIfInBounds_toArray, List.set_cons_zero, List.set_cons_succ]); first | done | rfl)))
    (refine Kr.tPQ 10 (v := ?_) (a' := ?_) rfl (by kernel_rfl) (fun _ _ _ h => h) (by rfl) (fun _ => (H.sub [0, 4, 3, 2, 1] rfl)) (fun wx => ?_) ?_ ?_; rotate_left 2; (focus (go_simp; first | done | rfl)); (focus ((try simp only [Act.put, List.setIfInBounds_toArray, List.set_cons_zero, List.set_cons_succ]); first | done | rfl)))
    (refine Kr.tPQ 11 (v := ?_) (a' := ?_) rfl (by kernel_rfl) (fun _ _ _ h => h) (by rfl) (fun _ => (H.sub [0, 4, 3, 2, 1] rfl)) (fun wx => ?_) ?_ ?_; rotate_left 2; (focus (go_simp; first | done | rfl)); (focus ((try simp only [Act.put, List.setIfInBounds_toArray, List.set_cons_zero, List.set_cons_succ]); first | done | rfl)))
    refine Kr.doneL (by kernel_rfl) ?_ _
    go_wp2
    go_ret
    exact ⟨rfl, H.g⟩
set_option linter.unusedSimpArgs false in
set_option maxRecDepth 100000 in
set_option maxHeartbeats 16000000 in
theorem crt_any_big {pa : Option Addr} {na ca : Nat} {pp : Option Addr} {np cp : Nat} {pb : Option Addr} {nb cb : Nat} {pq : Option Addr} {nq cq : Nat} {a p b q : Nat} {w : World} (hs : ∀ x ∈ [(pa, na, ca), (pp, np, cp), (pb, nb, cb), (pq, nq, cq)], x.2.1 ≤ 40) (hw : (∀ x ∈ [(pp, np, cp), (pq, nq, cq)], x.2.1 ≤ 6) ∨ ((∃ x ∈ [(pp, np, cp), (pq, nq, cq)], 6 < x.2.1) ∧ 34 ≤ np + nq ∧ np + nq ≤ 80)) (ha : Nw w pa na ca (digs a)) (hp : Nw w pp np cp (digs p)) (hb : Nw w pb nb cb (digs b)) (hq : Nw w pq nq cq (digs q)) (p0 : 0 < p) (vp : p < pw 32) (q0 : 0 < q) (vq : q < pw 32) (va : a < pw 64) (vb : b < pw 64) (hr : ∀ W, Gr w W → Calls Try.prog 35 #[.agg #[.slice pa na ca], .agg #[.slice pp np cp], .agg #[.slice pb nb cb], .agg #[.slice pq nq cq]] W (HasE 0 9 W)) (hx : a < p) (hy : b < q) (hg1 : Nat.gcd p q = 1) (hl : 34 ≤ np + nq) (hu : np + nq ≤ 80) :
    Calls Try.prog 6 #[.agg #[.slice pa na ca], .agg #[.slice pp np cp], .agg #[.slice pb nb cb], .agg #[.slice pq nq cq]] w fun e w' => e = .returned (.bool true) ∧ Gr w w' := by
  have HS := Lib.hid hs
  have HW := Lib.hid hw
  clear hs hw
  have P0 := Lib.hid p0
  have VP := Lib.hid vp
  have Q0 := Lib.hid q0
  have VQ := Lib.hid vq
  have VA := Lib.hid va
  have VB := Lib.hid vb
  clear p0 vp q0 vq va vb
  have VP9 : Hid (p < pw 900) := Lib.hid (Nat.lt_of_lt_of_le VP.out (pw_mono (by decide)))
  have VQ9 : Hid (q < pw 900) := Lib.hid (Nat.lt_of_lt_of_le VQ.out (pw_mono (by decide)))
  have HR := Lib.hid hr
  clear hr
  have HX := Lib.hid hx
  have HY := Lib.hid hy
  have HG1 := Lib.hid hg1
  clear hx hy hg1
  have hL : IntKind.i64.wrap ((np : Int) + (nq : Int)) = (np : Int) + (nq : Int) := IntWalk.i64_in _ (by omega)
  have hl3 : 33 < (np : Int) + (nq : Int) := by omega
  have H := Sta.start w
  replace H := H.num ha
  replace H := H.num hp
  replace H := H.num hb
  replace H := H.num hq
  go_enter Try.func6, Try.ntmps6
  go_upto_region 0 with fail
  refine Kr.seqStartW ?_
  refine Kr.seqR (by rfl) (fun K hK => ?_)
  go_simp
  obtain ⟨y1, hy⟩ : ∃ y, w.alloc (.cells #[.slice pa na ca] 24) = y := ⟨_, rfl⟩
  obtain ⟨ba, hb⟩ : ∃ b, w.heap.size = b := ⟨_, rfl⟩
  rw [hy, hb]
  replace H := H.alloc hy hb rfl
  clear hy hb
  (refine Kr.outS hK (a' := ?_) ?_ ?_; rotate_left; (focus ((try simp only [Act.put, List.setIfInBounds_toArray, List.set_cons_zero, List.set_cons_succ]); first | done | rfl))); clear hK K
  refine Kr.seqR (by rfl) (fun K hK => ?_)
  go_simp
  obtain ⟨y2, hy⟩ : ∃ y, y1.alloc (.cells #[.slice pp np cp] 24) = y := ⟨_, rfl⟩
  obtain ⟨bp, hb⟩ : ∃ b, y1.heap.size = b := ⟨_, rfl⟩
  rw [hy, hb]
  replace H := H.alloc hy hb rfl
  clear hy hb
  (refine Kr.outS hK (a' := ?_) ?_ ?_; rotate_left; (focus ((try simp only [Act.put, List.setIfInBounds_toArray, List.set_cons_zero, List.set_cons_succ]); first | done | rfl))); clear hK K
  refine Kr.seqR (by rfl) (fun K hK => ?_)
  go_simp
  obtain ⟨y3, hy⟩ : ∃ y, y2.alloc (.cells #[.slice pb nb cb] 24) = y := ⟨_, rfl⟩
  obtain ⟨bb, hb⟩ : ∃ b, y2.heap.size = b := ⟨_, rfl⟩
  rw [hy, hb]
  replace H := H.alloc hy hb rfl
  clear hy hb
  (refine Kr.outS hK (a' := ?_) ?_ ?_; rotate_left; (focus ((try simp only [Act.put, List.setIfInBounds_toArray, List.set_cons_zero, List.set_cons_succ]); first | done | rfl))); clear hK K
  refine Kr.seqR (by rfl) (fun K hK => ?_)
  go_simp
  obtain ⟨y4, hy⟩ : ∃ y, y3.alloc (.cells #[.slice pq nq cq] 24) = y := ⟨_, rfl⟩
  obtain ⟨bq, hb⟩ : ∃ b, y3.heap.size = b := ⟨_, rfl⟩
  rw [hy, hb]
  replace H := H.alloc hy hb rfl
  clear hy hb
  (refine Kr.outS hK (a' := ?_) ?_ ?_; rotate_left; (focus ((try simp only [Act.put, List.setIfInBounds_toArray, List.set_cons_zero, List.set_cons_succ]); first | done | rfl))); clear hK K
  (refine Kr.seqQ (v := ?_) (a' := ?_) (by rfl) ?_ ?_ ?_; rotate_left 2; (focus (go_simp; first | done | rfl)); (focus ((try simp only [Act.put, List.setIfInBounds_toArray, List.set_cons_zero, List.set_cons_succ]); first | done | rfl)))
  refine Kr.seqDoneW ?_
  go_upto_region 1 with fail
  go_cut [39] from 12 to 38 (fun s39 W => s39 = .bool false ∧ Hid (Sta w W [(bq, 0, .slice pq nq cq), (bb, 0, .slice pb nb cb), (bp, 0, .slice pp np cp), (ba, 0, .slice pa na ca)] [N pq nq cq (q), N pb nb cb (b), N pp np cp (p), N pa na ca (a)]))
  case first =>
    rcases HW.out with h6 | ⟨hg, hl, hu⟩
    · have HS6 := Lib.hid h6
      clear h6
      refine Kr.seqStartW ?_
      refine Kr.seqR (by rfl) (fun K hK => ?_)
      go_simp
      go_at_call 18
      refine (awake3 _).mono ?_
      rintro e y5 ⟨rfl, hg⟩
      replace H := H.grow hg
      clear hg
      (refine Kr.outS hK (a' := ?_) ?_ ?_; rotate_left; (focus ((try simp only [Act.put, List.setIfInBounds_toArray, List.set_cons_zero, List.set_cons_succ]); first | done | rfl))); clear hK K
      iterate 2 (refine Kr.seqQ (v := ?_) (a' := ?_) (by rfl) ?_ ?_ ?_; rotate_left 2; (focus (go_simp; first | done | rfl)); (focus ((try simp only [Act.put, List.setIfInBounds_toArray, List.set_cons_zero, List.set_cons_succ]); first | done | rfl)))
      have hk := H.c
      simp only [Kr.Cells] at hk
      iterate 4 (refine Kr.seqQ (v := ?_) (a' := ?_) (by rfl) ?_ ?_ ?_; rotate_left 2; (focus (go_simp; first | done | rfl)); (focus ((try simp only [Act.put, List.setIfInBounds_toArray, List.set_cons_zero, List.set_cons_succ]); first | done | rfl)))
      refine Kr.seqR (by rfl) (fun K hK => ?_)
      go_simp
      clear hk
      obtain ⟨y6, hy⟩ : ∃ y, y5.alloc (.cells #[.slice pa na ca, .slice pp np cp, .slice pb nb cb, .slice pq nq cq] 24) = y := ⟨_, rfl⟩
      obtain ⟨by6, hb⟩ : ∃ b, y5.heap.size = b := ⟨_, rfl⟩
      rw [hy, hb]
      have HN : Nats y6 by6 0 [(pa, na, ca), (pp, np, cp), (pb, nb, cb), (pq, nq, cq)] := nats_mk hy hb
      have hg : Gr y5 y6 := hy ▸ (Gr.refl _).alloc _
      replace H := H.grow hg
      clear hg hy hb
      (refine Kr.outS hK (a' := ?_) ?_ ?_; rotate_left; (focus ((try simp only [Act.put, List.setIfInBounds_toArray, List.set_cons_zero, List.set_cons_succ]); first | done | rfl))); clear hK K
      refine Kr.seqR (by rfl) (fun K hK => ?_)
      go_simp
      go_at_call 19
      go_at_call 19
      refine (few_ok HN (by simp) HS.out).mono ?_
      rintro e y7 ⟨rfl, hg⟩
      replace H := H.grow hg
      clear hg
      clear HN
      (refine Kr.outS hK (a' := ?_) ?_ ?_; rotate_left; (focus ((try simp only [Act.put, List.setIfInBounds_toArray, List.set_cons_zero, List.set_cons_succ]); first | done | rfl))); clear hK K
      iterate 3 (refine Kr.seqQ (v := ?_) (a' := ?_) (by rfl) ?_ ?_ ?_; rotate_left 2; (focus (go_simp; first | done | rfl)); (focus ((try simp only [Act.put, List.setIfInBounds_toArray, List.set_cons_zero, List.set_cons_succ]); first | done | rfl)))
      have hk := H.c
      simp only [Kr.Cells] at hk
      iterate 2 (refine Kr.seqQ (v := ?_) (a' := ?_) (by rfl) ?_ ?_ ?_; rotate_left 2; (focus (go_simp; first | done | rfl)); (focus ((try simp only [Act.put, List.setIfInBounds_toArray, List.set_cons_zero, List.set_cons_succ]); first | done | rfl)))
      refine Kr.seqR (by rfl) (fun K hK => ?_)
      go_simp
      clear hk
      obtain ⟨y8, hy⟩ : ∃ y, y7.alloc (.cells #[.slice pp np cp, .slice pq nq cq] 24) = y := ⟨_, rfl⟩
      obtain ⟨by8, hb⟩ : ∃ b, y7.heap.size = b := ⟨_, rfl⟩
      rw [hy, hb]
      have HN : Nats y8 by8 0 [(pp, np, cp), (pq, nq, cq)] := nats_mk hy hb
      have hg : Gr y7 y8 := hy ▸ (Gr.refl _).alloc _
      replace H := H.grow hg
      clear hg hy hb
      (refine Kr.outS hK (a' := ?_) ?_ ?_; rotate_left; (focus ((try simp only [Act.put, List.setIfInBounds_toArray, List.set_cons_zero, List.set_cons_succ]); first | done | rfl))); clear hK K
      refine Kr.seqR (by rfl) (fun K hK => ?_)
      go_simp
      go_at_call 19
      go_at_call 19
      refine (few_ok HN (by simp) HS6.out).mono ?_
      rintro e y9 ⟨rfl, hg⟩
      replace H := H.grow hg
      clear hg
      clear HN
      (refine Kr.outS hK (a' := ?_) ?_ ?_; rotate_left; (focus ((try simp only [Act.put, List.setIfInBounds_toArray, List.set_cons_zero, List.set_cons_succ]); first | done | rfl))); clear hK K
      iterate 2 (refine Kr.seqQ (v := ?_) (a' := ?_) (by rfl) ?_ ?_ ?_; rotate_left 2; (focus (go_simp; first | done | rfl)); (focus ((try simp only [Act.put, List.setIfInBounds_toArray, List.set_cons_zero, List.set_cons_succ]); first | done | rfl)))
      (refine Kr.seqSkipQ (a' := ?_) (by rfl) ?_ ?_; rotate_left; (focus ((try simp only [Act.put, List.setIfInBounds_toArray, List.set_cons_zero, List.set_cons_succ]); first | done | rfl)))
      (refine Kr.seqSkipQ (a' := ?_) (by rfl) ?_ ?_; rotate_left; (focus ((try simp only [Act.put, List.setIfInBounds_toArray, List.set_cons_zero, List.set_cons_succ]); first | done | rfl)))
      (refine Kr.seqSkipQ (a' := ?_) (by rfl) ?_ ?_; rotate_left; (focus ((try simp only [Act.put, List.setIfInBounds_toArray, List.set_cons_zero, List.set_cons_succ]); first | done | rfl)))
      (refine Kr.seqSkipQ (a' := ?_) (by rfl) ?_ ?_; rotate_left; (focus ((try simp only [Act.put, List.setIfInBounds_toArray, List.set_cons_zero, List.set_cons_succ]); first | done | rfl)))
      (refine Kr.seqSkipQ (a' := ?_) (by rfl) ?_ ?_; rotate_left; (focus ((try simp only [Act.put, List.setIfInBounds_toArray, List.set_cons_zero, List.set_cons_succ]); first | done | rfl)))
      (refine Kr.seqSkipQ (a' := ?_) (by rfl) ?_ ?_; rotate_left; (focus ((try simp only [Act.put, List.setIfInBounds_toArray, List.set_cons_zero, List.set_cons_succ]); first | done | rfl)))
      (refine Kr.seqSkipQ (a' := ?_) (by rfl) ?_ ?_; rotate_left; (focus ((try simp only [Act.put, List.setIfInBounds_toArray, List.set_cons_zero, List.set_cons_succ]); first | done | rfl)))
      (refine Kr.seqSkipQ (a' := ?_) (by rfl) ?_ ?_; rotate_left; (focus ((try simp only [Act.put, List.setIfInBounds_toArray, List.set_cons_zero, List.set_cons_succ]); first | done | rfl)))
      iterate 2 (refine Kr.seqQ (v := ?_) (a' := ?_) (by rfl) ?_ ?_ ?_; rotate_left 2; (focus (go_simp; first | done | rfl)); (focus ((try simp only [Act.put, List.setIfInBounds_toArray, List.set_cons_zero, List.set_cons_succ]); first | done | rfl)))
      refine Kr.seqDoneW ?_
      go_wp2_with fail
      go_meet
      exact ⟨rfl, Lib.hid H⟩
    · have HG := Lib.hid hg
      have hLL : IntKind.i64.wrap ((np : Int) + (nq : Int)) = (np : Int) + (nq : Int) := IntWalk.i64_in _ (by omega)
      have hl2 : ¬ (np : Int) + (nq : Int) < 34 := by omega
      clear hg
      refine Kr.seqStartW ?_
      refine Kr.seqR (by rfl) (fun K hK => ?_)
      go_simp
      go_at_call 18
      refine (awake3 _).mono ?_
      rintro e y10 ⟨rfl, hg⟩
      replace H := H.grow hg
      clear hg
      (refine Kr.outS hK (a' := ?_) ?_ ?_; rotate_left; (focus ((try simp only [Act.put, List.setIfInBounds_toArray, List.set_cons_zero, List.set_cons_succ]); first | done | rfl))); clear hK K
      iterate 2 (refine Kr.seqQ (v := ?_) (a' := ?_) (by rfl) ?_ ?_ ?_; rotate_left 2; (focus (go_simp; first | done | rfl)); (focus ((try simp only [Act.put, List.setIfInBounds_toArray, List.set_cons_zero, List.set_cons_succ]); first | done | rfl)))
      have hk := H.c
      simp only [Kr.Cells] at hk
      iterate 4 (refine Kr.seqQ (v := ?_) (a' := ?_) (by rfl) ?_ ?_ ?_; rotate_left 2; (focus (go_simp; first | done | rfl)); (focus ((try simp only [Act.put, List.setIfInBounds_toArray, List.set_cons_zero, List.set_cons_succ]); first | done | rfl)))
      refine Kr.seqR (by rfl) (fun K hK => ?_)
      go_simp
      clear hk
      obtain ⟨y11, hy⟩ : ∃ y, y10.alloc (.cells #[.slice pa na ca, .slice pp np cp, .slice pb nb cb, .slice pq nq cq] 24) = y := ⟨_, rfl⟩
      obtain ⟨by11, hb⟩ : ∃ b, y10.heap.size = b := ⟨_, rfl⟩
      rw [hy, hb]
      have HN : Nats y11 by11 0 [(pa, na, ca), (pp, np, cp), (pb, nb, cb), (pq, nq, cq)] := nats_mk hy hb
      have hg : Gr y10 y11 := hy ▸ (Gr.refl _).alloc _
      replace H := H.grow hg
      clear hg hy hb
      (refine Kr.outS hK (a' := ?_) ?_ ?_; rotate_left; (focus ((try simp only [Act.put, List.setIfInBounds_toArray, List.set_cons_zero, List.set_cons_succ]); first | done | rfl))); clear hK K
      refine Kr.seqR (by rfl) (fun K hK => ?_)
      go_simp
      go_at_call 19
      go_at_call 19
      refine (few_ok HN (by simp) HS.out).mono ?_
      rintro e y12 ⟨rfl, hg⟩
      replace H := H.grow hg
      clear hg
      clear HN
      (refine Kr.outS hK (a' := ?_) ?_ ?_; rotate_left; (focus ((try simp only [Act.put, List.setIfInBounds_toArray, List.set_cons_zero, List.set_cons_succ]); first | done | rfl))); clear hK K
      iterate 3 (refine Kr.seqQ (v := ?_) (a' := ?_) (by rfl) ?_ ?_ ?_; rotate_left 2; (focus (go_simp; first | done | rfl)); (focus ((try simp only [Act.put, List.setIfInBounds_toArray, List.set_cons_zero, List.set_cons_succ]); first | done | rfl)))
      have hk := H.c
      simp only [Kr.Cells] at hk
      iterate 2 (refine Kr.seqQ (v := ?_) (a' := ?_) (by rfl) ?_ ?_ ?_; rotate_left 2; (focus (go_simp; first | done | rfl)); (focus ((try simp only [Act.put, List.setIfInBounds_toArray, List.set_cons_zero, List.set_cons_succ]); first | done | rfl)))
      refine Kr.seqR (by rfl) (fun K hK => ?_)
      go_simp
      clear hk
      obtain ⟨y13, hy⟩ : ∃ y, y12.alloc (.cells #[.slice pp np cp, .slice pq nq cq] 24) = y := ⟨_, rfl⟩
      obtain ⟨by13, hb⟩ : ∃ b, y12.heap.size = b := ⟨_, rfl⟩
      rw [hy, hb]
      have HN : Nats y13 by13 0 [(pp, np, cp), (pq, nq, cq)] := nats_mk hy hb
      have hg : Gr y12 y13 := hy ▸ (Gr.refl _).alloc _
      replace H := H.grow hg
      clear hg hy hb
      (refine Kr.outS hK (a' := ?_) ?_ ?_; rotate_left; (focus ((try simp only [Act.put, List.setIfInBounds_toArray, List.set_cons_zero, List.set_cons_succ]); first | done | rfl))); clear hK K
      refine Kr.seqR (by rfl) (fun K hK => ?_)
      go_simp
      go_at_call 19
      go_at_call 19
      refine (few_no HN (by simp) HG.out).mono ?_
      rintro e y14 ⟨rfl, hg⟩
      replace H := H.grow hg
      clear hg
      clear HN
      (refine Kr.outS hK (a' := ?_) ?_ ?_; rotate_left; (focus ((try simp only [Act.put, List.setIfInBounds_toArray, List.set_cons_zero, List.set_cons_succ]); first | done | rfl))); clear hK K
      iterate 3 (refine Kr.seqQ (v := ?_) (a' := ?_) (by rfl) ?_ ?_ ?_; rotate_left 2; (focus (go_simp; first | done | rfl)); (focus ((try simp only [Act.put, List.setIfInBounds_toArray, List.set_cons_zero, List.set_cons_succ]); first | done | rfl)))
      have hk := H.c
      simp only [Kr.Cells] at hk
      iterate 9 (refine Kr.seqQ (v := ?_) (a' := ?_) (by rfl) ?_ ?_ ?_; rotate_left 2; (focus (go_simp; first | done | rfl)); (focus ((try simp only [Act.put, List.setIfInBounds_toArray, List.set_cons_zero, List.set_cons_succ]); first | done | rfl)))
      clear hk
      refine Kr.seqDoneW ?_
      go_wp2_with fail
      go_meet
      exact ⟨rfl, Lib.hid H⟩
  case rest =>
    clear H
    obtain ⟨rfl, HH⟩ := hcut
    have H := HH.out
    clear HH
    go_upto_region 3 with fail
    refine Kr.seqStartW ?_
    have hk := H.c
    simp only [Kr.Cells] at hk
    iterate 4 (refine Kr.seqQ (v := ?_) (a' := ?_) (by rfl) ?_ ?_ ?_; rotate_left 2; (focus (go_simp; first | done | rfl)); (focus ((try simp only [Act.put, List.setIfInBounds_toArray, List.set_cons_zero, List.set_cons_succ]); first | done | rfl)))
    refine Kr.seqR (by rfl) (fun K hK => ?_)
    go_simp
    go_at_call 35
    refine (HR.out _ H.g).mono ?_
    rintro e y15 ⟨p15, n15, c15, rfl, hr, hg⟩
    obtain rfl : n15 = 0 := by rw [← hr.len, digs_zero]; rfl
    clear hk
    replace H := H.grow hg
    clear hr hg
    (refine Kr.outS hK (a' := ?_) ?_ ?_; rotate_left; (focus ((try simp only [Act.put, List.setIfInBounds_toArray, List.set_cons_zero, List.set_cons_succ]); first | done | rfl))); clear hK K
    iterate 3 (refine Kr.seqQ (v := ?_) (a' := ?_) (by rfl) ?_ ?_ ?_; rotate_left 2; (focus (go_simp; first | done | rfl)); (focus ((try simp only [Act.put, List.setIfInBounds_toArray, List.set_cons_zero, List.set_cons_succ]); first | done | rfl)))
    refine Kr.seqR (by rfl) (fun K hK => ?_)
    go_simp
    obtain ⟨y16, hy⟩ : ∃ y, y15.alloc (.cells #[.slice none 0 0] 24) = y := ⟨_, rfl⟩
    obtain ⟨bx, hb⟩ : ∃ b, y15.heap.size = b := ⟨_, rfl⟩
    rw [hy, hb]
    replace H := H.alloc hy hb rfl
    clear hy hb
    (refine Kr.outS hK (a' := ?_) ?_ ?_; rotate_left; (focus ((try simp only [Act.put, List.setIfInBounds_toArray, List.set_cons_zero, List.set_cons_succ]); first | done | rfl))); clear hK K
    have hk := H.c
    simp only [Kr.Cells] at hk
    refine Kr.seqR (by rfl) (fun K hK => ?_)
    go_simp
    clear hk
    obtain ⟨y17, hy⟩ : ∃ y, y16.setCell ⟨bx, 0, none⟩ (.slice p15 0 c15) = y := ⟨_, rfl⟩
    rw [hy]
    replace H := H.store 0 hy rfl rfl
    dsimp only [List.set] at H
    clear hy
    (refine Kr.outS hK (a' := ?_) ?_ ?_; rotate_left; (focus ((try simp only [Act.put, List.setIfInBounds_toArray, List.set_cons_zero, List.set_cons_succ]); first | done | rfl))); clear hK K
    (refine Kr.seqQ (v := ?_) (a' := ?_) (by rfl) ?_ ?_ ?_; rotate_left 2; (focus (go_simp; first | done | rfl)); (focus ((try simp only [Act.put, List.setIfInBounds_toArray, List.set_cons_zero, List.set_cons_succ]); first | done | rfl)))
    refine Kr.seqDoneW ?_
    go_upto_region 4 with fail
    refine Kr.seqStartW ?_
    (refine Kr.seqQ (v := ?_) (a' := ?_) (by rfl) ?_ ?_ ?_; rotate_left 2; (focus (go_simp; first | done | rfl)); (focus ((try simp only [Act.put, List.setIfInBounds_toArray, List.set_cons_zero, List.set_cons_succ]); first | done | rfl)))
    refine Kr.seqDoneW ?_
    go_upto_region 5 with fail
    refine Kr.seqStartW ?_
    have hk := H.c
    simp only [Kr.Cells] at hk
    (refine Kr.seqQ (v := ?_) (a' := ?_) (by rfl) ?_ ?_ ?_; rotate_left 2; (focus (go_simp; first | done | rfl)); (focus ((try simp only [Act.put, List.setIfInBounds_toArray, List.set_cons_zero, List.set_cons_succ]); first | done | rfl)))
    refine Kr.seqR (by rfl) (fun K hK => ?_)
    go_simp
    go_at_call 22
    refine (first_nil (H.nw 2 rfl)).mono ?_
    rintro e y18 ⟨rfl, hg⟩
    rw [im_digs P0.out VP.out, if_pos rfl]
    clear hk
    replace H := H.grow hg
    clear hg
    (refine Kr.outS hK (a' := ?_) ?_ ?_; rotate_left; (focus ((try simp only [Act.put, List.setIfInBounds_toArray, List.set_cons_zero, List.set_cons_succ]); first | done | rfl))); clear hK K
    iterate 2 (refine Kr.seqQ (v := ?_) (a' := ?_) (by rfl) ?_ ?_ ?_; rotate_left 2; (focus (go_simp; first | done | rfl)); (focus ((try simp only [Act.put, List.setIfInBounds_toArray, List.set_cons_zero, List.set_cons_succ]); first | done | rfl)))
    have hk := H.c
    simp only [Kr.Cells] at hk
    (refine Kr.seqQ (v := ?_) (a' := ?_) (by rfl) ?_ ?_ ?_; rotate_left 2; (focus (go_simp; first | done | rfl)); (focus ((try simp only [Act.put, List.setIfInBounds_toArray, List.set_cons_zero, List.set_cons_succ]); first | done | rfl)))
    refine Kr.seqR (by rfl) (fun K hK => ?_)
    go_simp
    go_at_call 22
    refine (first_nil (H.nw 0 rfl)).mono ?_
    rintro e y19 ⟨rfl, hg⟩
    rw [im_digs Q0.out VQ.out, if_pos rfl]
    clear hk
    replace H := H.grow hg
    clear hg
    (refine Kr.outS hK (a' := ?_) ?_ ?_; rotate_left; (focus ((try simp only [Act.put, List.setIfInBounds_toArray, List.set_cons_zero, List.set_cons_succ]); first | done | rfl))); clear hK K
    iterate 3 (refine Kr.seqQ (v := ?_) (a' := ?_) (by rfl) ?_ ?_ ?_; rotate_left 2; (focus (go_simp; first | done | rfl)); (focus ((try simp only [Act.put, List.setIfInBounds_toArray, List.set_cons_zero, List.set_cons_succ]); first | done | rfl)))
    have hk := H.c
    simp only [Kr.Cells] at hk
    (refine Kr.seqQ (v := ?_) (a' := ?_) (by rfl) ?_ ?_ ?_; rotate_left 2; (focus (go_simp; first | done | rfl)); (focus ((try simp only [Act.put, List.setIfInBounds_toArray, List.set_cons_zero, List.set_cons_succ]); first | done | rfl)))
    refine Kr.seqR (by rfl) (fun K hK => ?_)
    go_simp
    go_at_call 29
    refine (valid3_any _ _ _ _ _ (H.nw 3 rfl)).mono ?_
    rintro e y20 ⟨rfl, hg⟩
    rw [dv VA.out]
    clear hk
    replace H := H.grow hg
    clear hg
    (refine Kr.outS hK (a' := ?_) ?_ ?_; rotate_left; (focus ((try simp only [Act.put, List.setIfInBounds_toArray, List.set_cons_zero, List.set_cons_succ]); first | done | rfl))); clear hK K
    iterate 3 (refine Kr.seqQ (v := ?_) (a' := ?_) (by rfl) ?_ ?_ ?_; rotate_left 2; (focus (go_simp; first | done | rfl)); (focus ((try simp only [Act.put, List.setIfInBounds_toArray, List.set_cons_zero, List.set_cons_succ]); first | done | rfl)))
    have hk := H.c
    simp only [Kr.Cells] at hk
    (refine Kr.seqQ (v := ?_) (a' := ?_) (by rfl) ?_ ?_ ?_; rotate_left 2; (focus (go_simp; first | done | rfl)); (focus ((try simp only [Act.put, List.setIfInBounds_toArray, List.set_cons_zero, List.set_cons_succ]); first | done | rfl)))
    refine Kr.seqR (by rfl) (fun K hK => ?_)
    go_simp
    go_at_call 29
    refine (valid3_any _ _ _ _ _ (H.nw 1 rfl)).mono ?_
    rintro e y21 ⟨rfl, hg⟩
    rw [dv VB.out]
    clear hk
    replace H := H.grow hg
    clear hg
    (refine Kr.outS hK (a' := ?_) ?_ ?_; rotate_left; (focus ((try simp only [Act.put, List.setIfInBounds_toArray, List.set_cons_zero, List.set_cons_succ]); first | done | rfl))); clear hK K
    iterate 3 (refine Kr.seqQ (v := ?_) (a' := ?_) (by rfl) ?_ ?_ ?_; rotate_left 2; (focus (go_simp; first | done | rfl)); (focus ((try simp only [Act.put, List.setIfInBounds_toArray, List.set_cons_zero, List.set_cons_succ]); first | done | rfl)))
    refine Kr.seqDoneW ?_
    go_upto_region 7 with fail
    refine Kr.seqStartW ?_
    have hk := H.c
    simp only [Kr.Cells] at hk
    iterate 2 (refine Kr.seqQ (v := ?_) (a' := ?_) (by rfl) ?_ ?_ ?_; rotate_left 2; (focus (go_simp; first | done | rfl)); (focus ((try simp only [Act.put, List.setIfInBounds_toArray, List.set_cons_zero, List.set_cons_succ]); first | done | rfl)))
    refine Kr.seqR (by rfl) (fun K hK => ?_)
    go_simp
    go_at_call 36
    refine (less3_v (H.nw 3 rfl) (H.nw 2 rfl)).mono ?_
    rintro e y22 ⟨rfl, hg⟩
    rw [decide_eq_true HX.out]
    clear hk
    replace H := H.grow hg
    clear hg
    (refine Kr.outS hK (a' := ?_) ?_ ?_; rotate_left; (focus ((try simp only [Act.put, List.setIfInBounds_toArray, List.set_cons_zero, List.set_cons_succ]); first | done | rfl))); clear hK K
    iterate 2 (refine Kr.seqQ (v := ?_) (a' := ?_) (by rfl) ?_ ?_ ?_; rotate_left 2; (focus (go_simp; first | done | rfl)); (focus ((try simp only [Act.put, List.setIfInBounds_toArray, List.set_cons_zero, List.set_cons_succ]); first | done | rfl)))
    have hk := H.c
    simp only [Kr.Cells] at hk
    iterate 2 (refine Kr.seqQ (v := ?_) (a' := ?_) (by rfl) ?_ ?_ ?_; rotate_left 2; (focus (go_simp; first | done | rfl)); (focus ((try simp only [Act.put, List.setIfInBounds_toArray, List.set_cons_zero, List.set_cons_succ]); first | done | rfl)))
    refine Kr.seqR (by rfl) (fun K hK => ?_)
    go_simp
    go_at_call 36
    refine (less3_v (H.nw 1 rfl) (H.nw 0 rfl)).mono ?_
    rintro e y23 ⟨rfl, hg⟩
    rw [decide_eq_true HY.out]
    clear hk
    replace H := H.grow hg
    clear hg
    (refine Kr.outS hK (a' := ?_) ?_ ?_; rotate_left; (focus ((try simp only [Act.put, List.setIfInBounds_toArray, List.set_cons_zero, List.set_cons_succ]); first | done | rfl))); clear hK K
    iterate 3 (refine Kr.seqQ (v := ?_) (a' := ?_) (by rfl) ?_ ?_ ?_; rotate_left 2; (focus (go_simp; first | done | rfl)); (focus ((try simp only [Act.put, List.setIfInBounds_toArray, List.set_cons_zero, List.set_cons_succ]); first | done | rfl)))
    refine Kr.seqDoneW ?_
    go_upto_region 9 with fail
    refine Kr.seqStartW ?_
    have hk := H.c
    simp only [Kr.Cells] at hk
    iterate 2 (refine Kr.seqQ (v := ?_) (a' := ?_) (by rfl) ?_ ?_ ?_; rotate_left 2; (focus (go_simp; first | done | rfl)); (focus ((try simp only [Act.put, List.setIfInBounds_toArray, List.set_cons_zero, List.set_cons_succ]); first | done | rfl)))
    refine Kr.seqR (by rfl) (fun K hK => ?_)
    go_simp
    go_at_call 33
    refine (rgcd3_v (H.nw 2 rfl) (H.nw 0 rfl) VP9.out VQ9.out).mono ?_
    rintro e y24 ⟨p24, n24, c24, rfl, hr, hg⟩
    clear hk
    replace H := H.grow hg
    replace H := H.num hr
    clear hr hg
    (refine Kr.outS hK (a' := ?_) ?_ ?_; rotate_left; (focus ((try simp only [Act.put, List.setIfInBounds_toArray, List.set_cons_zero, List.set_cons_succ]); first | done | rfl))); clear hK K
    refine Kr.seqR (by rfl) (fun K hK => ?_)
    go_simp
    go_at_call 38
    refine (of3_v 1 (by decide) _).mono ?_
    rintro e y25 ⟨p25, n25, c25, rfl, hr, hg⟩
    replace H := H.grow hg
    replace H := H.num hr.toNw
    clear hr hg
    (refine Kr.outS hK (a' := ?_) ?_ ?_; rotate_left; (focus ((try simp only [Act.put, List.setIfInBounds_toArray, List.set_cons_zero, List.set_cons_succ]); first | done | rfl))); clear hK K
    refine Kr.seqR (by rfl) (fun K hK => ?_)
    go_simp
    go_at_call 37
    refine (same3r_v (H.nw 1 rfl) (H.nw 0 rfl)).mono ?_
    rintro e y26 ⟨rfl, hg⟩
    rw [decide_eq_true HG1.out]
    replace H := H.grow hg
    clear hg
    (refine Kr.outS hK (a' := ?_) ?_ ?_; rotate_left; (focus ((try simp only [Act.put, List.setIfInBounds_toArray, List.set_cons_zero, List.set_cons_succ]); first | done | rfl))); clear hK K
    iterate 2 (refine Kr.seqQ (v := ?_) (a' := ?_) (by rfl) ?_ ?_ ?_; rotate_left 2; (focus (go_simp; first | done | rfl)); (focus ((try simp only [Act.put, List.setIfInBounds_toArray, List.set_cons_zero, List.set_cons_succ]); first | done | rfl)))
    refine Kr.seqDoneW ?_
    go_upto_region 11 with fail
    refine Kr.seqStartW ?_
    (refine Kr.seqQ (v := ?_) (a' := ?_) (by rfl) ?_ ?_ ?_; rotate_left 2; (focus (go_simp; first | done | rfl)); (focus ((try simp only [Act.put, List.setIfInBounds_toArray, List.set_cons_zero, List.set_cons_succ]); first | done | rfl)))
    have hk := H.c
    simp only [Kr.Cells] at hk
    iterate 8 (refine Kr.seqQ (v := ?_) (a' := ?_) (by rfl) ?_ ?_ ?_; rotate_left 2; (focus (go_simp; first | done | rfl)); (focus ((try simp only [Act.put, List.setIfInBounds_toArray, List.set_cons_zero, List.set_cons_succ]); first | done | rfl)))
    clear hk
    refine Kr.seqDoneW ?_
    go_upto_region 12 with fail
    refine Kr.seqStartW ?_
    (refine Kr.seqQ (v := ?_) (a' := ?_) (by rfl) ?_ ?_ ?_; rotate_left 2; (focus (go_simp; first | done | rfl)); (focus ((try simp only [Act.put, List.setIfInBounds_toArray, List.set_cons_zero, List.set_cons_succ]); first | done | rfl)))
    refine Kr.seqDoneW ?_
    go_upto_region 13 with fail
    refine Kr.seqStartW ?_
    iterate 2 (refine Kr.seqQ (v := ?_) (a' := ?_) (by rfl) ?_ ?_ ?_; rotate_left 2; (focus (go_simp; first | done | rfl)); (focus ((try simp only [Act.put, List.setIfInBounds_toArray, List.set_cons_zero, List.set_cons_succ]); first | done | rfl)))
    refine Kr.seqDoneW ?_
    go_upto_region 14 with fail
    refine Kr.seqStartW ?_
    (refine Kr.seqQ (v := ?_) (a' := ?_) (by rfl) ?_ ?_ ?_; rotate_left 2; (focus (go_simp; first | done | rfl)); (focus ((try simp only [Act.put, List.setIfInBounds_toArray, List.set_cons_zero, List.set_cons_succ]); first | done | rfl)))
    have hk := H.c
    simp only [Kr.Cells] at hk
    iterate 9 (refine Kr.seqQ (v := ?_) (a' := ?_) (by rfl) ?_ ?_ ?_; rotate_left 2; (focus (go_simp; first | done | rfl)); (focus ((try simp only [Act.put, List.setIfInBounds_toArray, List.set_cons_zero, List.set_cons_succ]); first | done | rfl)))
    clear hk
    refine Kr.seqDoneW ?_
    go_wp2
    go_ret
    exact ⟨rfl, H.g⟩
theorem crt_any {pa : Option Addr} {na ca : Nat} {pp : Option Addr} {np cp : Nat} {pb : Option Addr} {nb cb : Nat} {pq : Option Addr} {nq cq : Nat} {w : World} {la lp lb lq : List Nat} (hs : ∀ x ∈ [(pa, na, ca), (pp, np, cp), (pb, nb, cb), (pq, nq, cq)], x.2.1 ≤ 40) (hw : (∀ x ∈ [(pp, np, cp), (pq, nq, cq)], x.2.1 ≤ 6) ∨ ((∃ x ∈ [(pp, np, cp), (pq, nq, cq)], 6 < x.2.1) ∧ 34 ≤ np + nq ∧ np + nq ≤ 80)) (ha : Nw w pa na ca la) (hp : Nw w pp np cp lp) (hb : Nw w pb nb cb lb) (hq : Nw w pq nq cq lq) :
    Calls Try.prog 6 #[.agg #[.slice pa na ca], .agg #[.slice pp np cp], .agg #[.slice pb nb cb], .agg #[.slice pq nq cq]] w fun e w' => e = .returned (.bool true) ∧ Gr w w' := by
  have hbad : (decide (valid la) && (decide (valid lb) && (im lp && im lq))) = false → ∀ W, Gr w W → Calls Try.prog 35 #[.agg #[.slice pa na ca], .agg #[.slice pp np cp], .agg #[.slice pb nb cb], .agg #[.slice pq nq cq]] W (HasE 0 1 W) := fun h W g => mCrt_err1 (fun W' g' => chk_arg ha hp hb hq h W' (g.trans g'))
  cases tp : im lp with
  | false => exact crt_any_bad_p hs hw ha hp hb hq (hbad (by rw [tp]; simp)) tp
  | true =>
  cases tq : im lq with
  | false => exact crt_any_bad_q hs hw ha hp hb hq (hbad (by rw [tq]; simp)) tp tq
  | true =>
  cases ta : decide (valid la) with
  | false => exact crt_any_bad_a hs hw ha hp hb hq (hbad (by rw [ta]; rfl)) tp tq ta
  | true =>
  cases tb : decide (valid lb) with
  | false => exact crt_any_bad_b hs hw ha hp hb hq (hbad (by rw [tb]; simp)) tp tq ta tb
  | true =>
  obtain ⟨p, p0, vp, rfl⟩ := im_value hp tp
  obtain ⟨q, q0, vq, rfl⟩ := im_value hq tq
  obtain ⟨a, va, rfl⟩ := nw_value ha ta
  obtain ⟨b, vb, rfl⟩ := nw_value hb tb
  by_cases hx : a < p
  · by_cases hy : b < q
    · by_cases hg1 : Nat.gcd p q = 1
      · rcases hw with h6 | ⟨hg, hl, hu⟩
        · exact crt_any_ok hs (.inl h6) ha hp hb hq p0 vp q0 vq va vb hx hy hg1 h6
        · exact crt_any_big hs (.inr ⟨hg, hl, hu⟩) ha hp hb hq p0 vp q0 vq va vb (fun W g => mCrt_big (ha.grow g) (hp.grow g) (hb.grow g) (hq.grow g) hx hy vp vq (by rw [gcd_modr]; exact hg1) (pq_big hp hq p0 q0 hl)) hx hy hg1 hl hu
      · exact crt_any_no hs hw ha hp hb hq p0 vp q0 vq va vb (fun W g => mCrt_no (ha.grow g) (hp.grow g) (hb.grow g) (hq.grow g) hx hy vp vq (by rw [gcd_modr]; exact hg1)) hx hy hg1
    · exact crt_any_rb hs hw ha hp hb hq p0 vp q0 vq va vb (fun W g => mCrt_err2 (fun W' g' => chk_range ha hp hb hq va vb (fun h => hy h.2) p0 vp q0 vq W' (g.trans g'))) hx hy
  · exact crt_any_ra hs hw ha hp hb hq p0 vp q0 vq va vb (fun W g => mCrt_err2 (fun W' g' => chk_range ha hp hb hq va vb (fun h => hx h.1) p0 vp q0 vq W' (g.trans g'))) hx
theorem NatmodCrt (w : World) (pa : Option Addr) (na ca : Nat) (pp : Option Addr) (np cp : Nat) (pb : Option Addr) (nb cb : Nat) (pq : Option Addr) (nq cq : Nat) (h1 : Nin w pa na ca) (h2 : Nin w pp np cp) (h3 : Nin w pb nb cb) (h4 : Nin w pq nq cq) :
    Calls Try.prog 6 #[.agg #[.slice pa na ca], .agg #[.slice pp np cp], .agg #[.slice pb nb cb], .agg #[.slice pq nq cq]] w fun e w' => e = .returned (.bool true) ∧ Gr w w' := by
  by_cases g : ∃ x ∈ [(pa, na, ca), (pp, np, cp), (pb, nb, cb), (pq, nq, cq)], 40 < x.2.1
  · exact crt_g1 g
  have hs : ∀ x ∈ [(pa, na, ca), (pp, np, cp), (pb, nb, cb), (pq, nq, cq)], x.2.1 ≤ 40 := fun x hx => Nat.le_of_not_lt fun h => g ⟨x, hx, h⟩
  have ea : na ≤ 40 := hs (pa, na, ca) (by simp)
  have ep : np ≤ 40 := hs (pp, np, cp) (by simp)
  have eb : nb ≤ 40 := hs (pb, nb, cb) (by simp)
  have eq : nq ≤ 40 := hs (pq, nq, cq) (by simp)
  obtain ⟨la, ha⟩ := h1.nw (by omega)
  obtain ⟨lp, hp⟩ := h2.nw (by omega)
  obtain ⟨lb, hb⟩ := h3.nw (by omega)
  obtain ⟨lq, hq⟩ := h4.nw (by omega)
  by_cases g6 : ∃ x ∈ [(pp, np, cp), (pq, nq, cq)], 6 < x.2.1
  · rcases Nat.lt_or_ge (np + nq) 34 with hl | hl
    · exact crt_g2 hs g6 hl
    · exact crt_any hs (.inr ⟨g6, hl, by omega⟩) ha hp hb hq
  · exact crt_any hs (.inl fun x hx => Nat.le_of_not_lt fun h => g6 ⟨x, hx, h⟩) ha hp hb hq
end Go.Proofs.Ytlciocebbckdcaa.Ml
