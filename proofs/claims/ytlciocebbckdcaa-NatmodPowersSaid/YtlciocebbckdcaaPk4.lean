/- A part of the proofs, joined of smaller texts: Mk, Mp, Mu, Nrsum, Nrdif, Mq, Mr3, Mra2. -/
import Derived.Test.YtlciocebbckdcaaPk3
import Derived.Deep.Cut
import Derived.Test.YtlciocebbckdcaaPk1
import Derived.Deep.RegionHeld3

/- The contracts of natmod's Crt. -/
namespace Go.Proofs.Ytlciocebbckdcaa.Mo
open Go.RowKit Go.Shelf Go.Proofs.Ytlciocebbckdcaa.Nm Go.Proofs.Ytlciocebbckdcaa.Ne Go.Proofs.Ytlciocebbckdcaa.Nf Go.Proofs.Ytlciocebbckdcaa.Nk Go.Proofs.Ytlciocebbckdcaa.Nv Go.Proofs.Ytlciocebbckdcaa.Nr2 Go.Proofs.Ytlciocebbckdcaa.Mo Go.Proofs.Ytlciocebbckdcaa.Mr Go.Proofs.Ytlciocebbckdcaa.Kr
theorem crt_lt {a p q k : Nat} (ha : a < p) (hk : k < q) : a + p * k < p * q := by
  have : p * (k + 1) ≤ p * q := Nat.mul_le_mul_left p hk
  rw [Nat.mul_add] at this
  omega

set_option linter.unusedSimpArgs false in
set_option maxRecDepth 100000 in
set_option maxHeartbeats 16000000 in
theorem mCrt_err1 {pa : Option Addr} {na ca : Nat} {pp : Option Addr} {np cp : Nat} {pb : Option Addr} {nb cb : Nat} {pq : Option Addr} {nq cq : Nat} {w : World} (hC : Chk w (.agg #[.slice pa na ca]) (.agg #[.slice pp np cp]) (.agg #[.slice pb nb cb]) (.agg #[.slice pq nq cq]) 1) :
    Calls Try.prog 35 #[.agg #[.slice pa na ca], .agg #[.slice pp np cp], .agg #[.slice pb nb cb], .agg #[.slice pq nq cq]] w (HasE 0 1 w) := by
  have HC := Lib.hid hC
  clear hC
  have H := Sta.start w
  go_enter Try.func35, Try.ntmps35
  go_upto_region 0 with fail
  refine Kr.seqStart ?_
  refine Kr.seqS (fun K hK => ?_)
  go_simp
  obtain ⟨y1, hy⟩ : ∃ y, w.alloc (.cells #[.slice pa na ca] 24) = y := ⟨_, rfl⟩
  obtain ⟨ba, hb⟩ : ∃ b, w.heap.size = b := ⟨_, rfl⟩
  rw [hy, hb]
  replace H := H.alloc hy hb rfl
  clear hy hb
  refine hK.out _ _ ?_; clear hK K
  (try simp only [Act.put, List.getElem_toArray, List.getElem_cons_zero, List.getElem_cons_succ, List.setIfInBounds_toArray, List.set_cons_zero, List.set_cons_succ])
  refine Kr.seqS (fun K hK => ?_)
  go_simp
  obtain ⟨y2, hy⟩ : ∃ y, y1.alloc (.cells #[.slice pp np cp] 24) = y := ⟨_, rfl⟩
  obtain ⟨bp, hb⟩ : ∃ b, y1.heap.size = b := ⟨_, rfl⟩
  rw [hy, hb]
  replace H := H.alloc hy hb rfl
  clear hy hb
  refine hK.out _ _ ?_; clear hK K
  (try simp only [Act.put, List.getElem_toArray, List.getElem_cons_zero, List.getElem_cons_succ, List.setIfInBounds_toArray, List.set_cons_zero, List.set_cons_succ])
  refine Kr.seqS (fun K hK => ?_)
  go_simp
  obtain ⟨y3, hy⟩ : ∃ y, y2.alloc (.cells #[.slice pb nb cb] 24) = y := ⟨_, rfl⟩
  obtain ⟨bb, hb⟩ : ∃ b, y2.heap.size = b := ⟨_, rfl⟩
  rw [hy, hb]
  replace H := H.alloc hy hb rfl
  clear hy hb
  refine hK.out _ _ ?_; clear hK K
  (try simp only [Act.put, List.getElem_toArray, List.getElem_cons_zero, List.getElem_cons_succ, List.setIfInBounds_toArray, List.set_cons_zero, List.set_cons_succ])
  refine Kr.seqS (fun K hK => ?_)
  go_simp
  obtain ⟨y4, hy⟩ : ∃ y, y3.alloc (.cells #[.slice pq nq cq] 24) = y := ⟨_, rfl⟩
  obtain ⟨bq, hb⟩ : ∃ b, y3.heap.size = b := ⟨_, rfl⟩
  rw [hy, hb]
  replace H := H.alloc hy hb rfl
  clear hy hb
  refine hK.out _ _ ?_; clear hK K
  (try simp only [Act.put, List.getElem_toArray, List.getElem_cons_zero, List.getElem_cons_succ, List.setIfInBounds_toArray, List.set_cons_zero, List.set_cons_succ])
  refine Kr.seqS (fun K hK => ?_)
  go_simp
  obtain ⟨y5, hy⟩ : ∃ y, y4.alloc (.cells #[.slice none 0 0] 24) = y := ⟨_, rfl⟩
  obtain ⟨br, hb⟩ : ∃ b, y4.heap.size = b := ⟨_, rfl⟩
  rw [hy, hb]
  replace H := H.alloc hy hb rfl
  clear hy hb
  refine hK.out _ _ ?_; clear hK K
  (try simp only [Act.put, List.getElem_toArray, List.getElem_cons_zero, List.getElem_cons_succ, List.setIfInBounds_toArray, List.set_cons_zero, List.set_cons_succ])
  (refine Kr.seqP (v := ?_) (by rfl) ?_ ?_; rotate_left; (focus (go_simp; first | done | rfl)); (try simp only [Act.put, List.getElem_toArray, List.getElem_cons_zero, List.getElem_cons_succ, List.setIfInBounds_toArray, List.set_cons_zero, List.set_cons_succ]))
  refine Kr.seqDone ?_
  go_upto_region 1 with fail
  refine Kr.seqStart ?_
  have hk := H.c
  simp only [Kr.Cells] at hk
  iterate 4 (refine Kr.seqP (v := ?_) (by rfl) ?_ ?_; rotate_left; (focus (go_simp; first | done | rfl)); (try simp only [Act.put, List.getElem_toArray, List.getElem_cons_zero, List.getElem_cons_succ, List.setIfInBounds_toArray, List.set_cons_zero, List.set_cons_succ]))
  refine Kr.seqS (fun K hK => ?_)
  go_simp
  go_at_call 70
  refine (HC.out _ H.g).mono ?_
  rintro e y6 ⟨rfl, hg⟩
  clear hk
  replace H := H.grow hg
  clear hg
  refine hK.out _ _ ?_; clear hK K
  (try simp only [Act.put, List.getElem_toArray, List.getElem_cons_zero, List.getElem_cons_succ, List.setIfInBounds_toArray, List.set_cons_zero, List.set_cons_succ])
  (refine Kr.seqP (v := ?_) (by rfl) ?_ ?_; rotate_left; (focus (go_simp; first | done | rfl)); (try simp only [Act.put, List.getElem_toArray, List.getElem_cons_zero, List.getElem_cons_succ, List.setIfInBounds_toArray, List.set_cons_zero, List.set_cons_succ]))
  refine Kr.seqDone ?_
  go_upto_region 2 with fail
  refine Kr.seqStart ?_
  iterate 2 (refine Kr.seqP (v := ?_) (by rfl) ?_ ?_; rotate_left; (focus (go_simp; first | done | rfl)); (try simp only [Act.put, List.getElem_toArray, List.getElem_cons_zero, List.getElem_cons_succ, List.setIfInBounds_toArray, List.set_cons_zero, List.set_cons_succ]))
  refine Kr.seqDone ?_
  go_upto_region 3 with fail
  refine Kr.seqStart ?_
  iterate 2 (refine Kr.seqP (v := ?_) (by rfl) ?_ ?_; rotate_left; (focus (go_simp; first | done | rfl)); (try simp only [Act.put, List.getElem_toArray, List.getElem_cons_zero, List.getElem_cons_succ, List.setIfInBounds_toArray, List.set_cons_zero, List.set_cons_succ]))
  have hk := H.c
  simp only [Kr.Cells] at hk
  refine Kr.seqS (fun K hK => ?_)
  go_simp
  clear hk
  obtain ⟨y7, hy⟩ : ∃ y, y6.setCell ⟨br, 0, none⟩ (.slice none 0 0) = y := ⟨_, rfl⟩
  rw [hy]
  replace H := H.store 0 hy rfl rfl
  dsimp only [List.set] at H
  clear hy
  refine hK.out _ _ ?_; clear hK K
  (try simp only [Act.put, List.getElem_toArray, List.getElem_cons_zero, List.getElem_cons_succ, List.setIfInBounds_toArray, List.set_cons_zero, List.set_cons_succ])
  (refine Kr.seqP (v := ?_) (by rfl) ?_ ?_; rotate_left; (focus (go_simp; first | done | rfl)); (try simp only [Act.put, List.getElem_toArray, List.getElem_cons_zero, List.getElem_cons_succ, List.setIfInBounds_toArray, List.set_cons_zero, List.set_cons_succ]))
  refine Kr.seqDone ?_
  have hk := H.c
  simp only [Kr.Cells] at hk
  go_wp2
  refine bodyPost_ret (v := .tuple #[.agg #[.slice none 0 0], .int .i64 1]) (by simp [results, Try.results35, go_sem, hk]) rfl ⟨none, 0, 0, rfl, nw_none _, H.g⟩
set_option linter.unusedSimpArgs false in
set_option maxRecDepth 100000 in
set_option maxHeartbeats 16000000 in
theorem mCrt_err2 {pa : Option Addr} {na ca : Nat} {pp : Option Addr} {np cp : Nat} {pb : Option Addr} {nb cb : Nat} {pq : Option Addr} {nq cq : Nat} {w : World} (hC : Chk w (.agg #[.slice pa na ca]) (.agg #[.slice pp np cp]) (.agg #[.slice pb nb cb]) (.agg #[.slice pq nq cq]) 2) :
    Calls Try.prog 35 #[.agg #[.slice pa na ca], .agg #[.slice pp np cp], .agg #[.slice pb nb cb], .agg #[.slice pq nq cq]] w (HasE 0 2 w) := by
  have HC := Lib.hid hC
  clear hC
  have H := Sta.start w
  go_enter Try.func35, Try.ntmps35
  go_upto_region 0 with fail
  refine Kr.seqStart ?_
  refine Kr.seqS (fun K hK => ?_)
  go_simp
  obtain ⟨y1, hy⟩ : ∃ y, w.alloc (.cells #[.slice pa na ca] 24) = y := ⟨_, rfl⟩
  obtain ⟨ba, hb⟩ : ∃ b, w.heap.size = b := ⟨_, rfl⟩
  rw [hy, hb]
  replace H := H.alloc hy hb rfl
  clear hy hb
  refine hK.out _ _ ?_; clear hK K
  (try simp only [Act.put, List.getElem_toArray, List.getElem_cons_zero, List.getElem_cons_succ, List.setIfInBounds_toArray, List.set_cons_zero, List.set_cons_succ])
  refine Kr.seqS (fun K hK => ?_)
  go_simp
  obtain ⟨y2, hy⟩ : ∃ y, y1.alloc (.cells #[.slice pp np cp] 24) = y := ⟨_, rfl⟩
  obtain ⟨bp, hb⟩ : ∃ b, y1.heap.size = b := ⟨_, rfl⟩
  rw [hy, hb]
  replace H := H.alloc hy hb rfl
  clear hy hb
  refine hK.out _ _ ?_; clear hK K
  (try simp only [Act.put, List.getElem_toArray, List.getElem_cons_zero, List.getElem_cons_succ, List.setIfInBounds_toArray, List.set_cons_zero, List.set_cons_succ])
  refine Kr.seqS (fun K hK => ?_)
  go_simp
  obtain ⟨y3, hy⟩ : ∃ y, y2.alloc (.cells #[.slice pb nb cb] 24) = y := ⟨_, rfl⟩
  obtain ⟨bb, hb⟩ : ∃ b, y2.heap.size = b := ⟨_, rfl⟩
  rw [hy, hb]
  replace H := H.alloc hy hb rfl
  clear hy hb
  refine hK.out _ _ ?_; clear hK K
  (try simp only [Act.put, List.getElem_toArray, List.getElem_cons_zero, List.getElem_cons_succ, List.setIfInBounds_toArray, List.set_cons_zero, List.set_cons_succ])
  refine Kr.seqS (fun K hK => ?_)
  go_simp
  obtain ⟨y4, hy⟩ : ∃ y, y3.alloc (.cells #[.slice pq nq cq] 24) = y := ⟨_, rfl⟩
  obtain ⟨bq, hb⟩ : ∃ b, y3.heap.size = b := ⟨_, rfl⟩
  rw [hy, hb]
  replace H := H.alloc hy hb rfl
  clear hy hb
  refine hK.out _ _ ?_; clear hK K
  (try simp only [Act.put, List.getElem_toArray, List.getElem_cons_zero, List.getElem_cons_succ, List.setIfInBounds_toArray, List.set_cons_zero, List.set_cons_succ])
  refine Kr.seqS (fun K hK => ?_)
  go_simp
  obtain ⟨y5, hy⟩ : ∃ y, y4.alloc (.cells #[.slice none 0 0] 24) = y := ⟨_, rfl⟩
  obtain ⟨br, hb⟩ : ∃ b, y4.heap.size = b := ⟨_, rfl⟩
  rw [hy, hb]
  replace H := H.alloc hy hb rfl
  clear hy hb
  refine hK.out _ _ ?_; clear hK K
  (try simp only [Act.put, List.getElem_toArray, List.getElem_cons_zero, List.getElem_cons_succ, List.setIfInBounds_toArray, List.set_cons_zero, List.set_cons_succ])
  (refine Kr.seqP (v := ?_) (by rfl) ?_ ?_; rotate_left; (focus (go_simp; first | done | rfl)); (try simp only [Act.put, List.getElem_toArray, List.getElem_cons_zero, List.getElem_cons_succ, List.setIfInBounds_toArray, List.set_cons_zero, List.set_cons_succ]))
  refine Kr.seqDone ?_
  go_upto_region 1 with fail
  refine Kr.seqStart ?_
  have hk := H.c
  simp only [Kr.Cells] at hk
  iterate 4 (refine Kr.seqP (v := ?_) (by rfl) ?_ ?_; rotate_left; (focus (go_simp; first | done | rfl)); (try simp only [Act.put, List.getElem_toArray, List.getElem_cons_zero, List.getElem_cons_succ, List.setIfInBounds_toArray, List.set_cons_zero, List.set_cons_succ]))
  refine Kr.seqS (fun K hK => ?_)
  go_simp
  go_at_call 70
  refine (HC.out _ H.g).mono ?_
  rintro e y6 ⟨rfl, hg⟩
  clear hk
  replace H := H.grow hg
  clear hg
  refine hK.out _ _ ?_; clear hK K
  (try simp only [Act.put, List.getElem_toArray, List.getElem_cons_zero, List.getElem_cons_succ, List.setIfInBounds_toArray, List.set_cons_zero, List.set_cons_succ])
  (refine Kr.seqP (v := ?_) (by rfl) ?_ ?_; rotate_left; (focus (go_simp; first | done | rfl)); (try simp only [Act.put, List.getElem_toArray, List.getElem_cons_zero, List.getElem_cons_succ, List.setIfInBounds_toArray, List.set_cons_zero, List.set_cons_succ]))
  refine Kr.seqDone ?_
  go_upto_region 2 with fail
  refine Kr.seqStart ?_
  iterate 2 (refine Kr.seqP (v := ?_) (by rfl) ?_ ?_; rotate_left; (focus (go_simp; first | done | rfl)); (try simp only [Act.put, List.getElem_toArray, List.getElem_cons_zero, List.getElem_cons_succ, List.setIfInBounds_toArray, List.set_cons_zero, List.set_cons_succ]))
  refine Kr.seqDone ?_
  go_upto_region 3 with fail
  refine Kr.seqStart ?_
  iterate 2 (refine Kr.seqP (v := ?_) (by rfl) ?_ ?_; rotate_left; (focus (go_simp; first | done | rfl)); (try simp only [Act.put, List.getElem_toArray, List.getElem_cons_zero, List.getElem_cons_succ, List.setIfInBounds_toArray, List.set_cons_zero, List.set_cons_succ]))
  have hk := H.c
  simp only [Kr.Cells] at hk
  refine Kr.seqS (fun K hK => ?_)
  go_simp
  clear hk
  obtain ⟨y7, hy⟩ : ∃ y, y6.setCell ⟨br, 0, none⟩ (.slice none 0 0) = y := ⟨_, rfl⟩
  rw [hy]
  replace H := H.store 0 hy rfl rfl
  dsimp only [List.set] at H
  clear hy
  refine hK.out _ _ ?_; clear hK K
  (try simp only [Act.put, List.getElem_toArray, List.getElem_cons_zero, List.getElem_cons_succ, List.setIfInBounds_toArray, List.set_cons_zero, List.set_cons_succ])
  (refine Kr.seqP (v := ?_) (by rfl) ?_ ?_; rotate_left; (focus (go_simp; first | done | rfl)); (try simp only [Act.put, List.getElem_toArray, List.getElem_cons_zero, List.getElem_cons_succ, List.setIfInBounds_toArray, List.set_cons_zero, List.set_cons_succ]))
  refine Kr.seqDone ?_
  have hk := H.c
  simp only [Kr.Cells] at hk
  go_wp2
  refine bodyPost_ret (v := .tuple #[.agg #[.slice none 0 0], .int .i64 2]) (by simp [results, Try.results35, go_sem, hk]) rfl ⟨none, 0, 0, rfl, nw_none _, H.g⟩
set_option linter.unusedSimpArgs false in
set_option maxRecDepth 100000 in
set_option maxHeartbeats 16000000 in
theorem mCrt_no {pa : Option Addr} {na ca : Nat} {pp : Option Addr} {np cp : Nat} {pb : Option Addr} {nb cb : Nat} {pq : Option Addr} {nq cq : Nat} {a p b q : Nat} {w : World} (ha : Nw w pa na ca (digs a)) (hp : Nw w pp np cp (digs p)) (hb : Nw w pb nb cb (digs b)) (hq : Nw w pq nq cq (digs q)) (va : a < p) (vb : b < q) (vp : p < pw 32) (vq : q < pw 32) (hg1 : Nat.gcd (p % q) q ≠ 1) :
    Calls Try.prog 35 #[.agg #[.slice pa na ca], .agg #[.slice pp np cp], .agg #[.slice pb nb cb], .agg #[.slice pq nq cq]] w ((HasE 0 10 w)) := by
  have HC := Lib.hid (chk_ok ha hp hb hq va vb vp vq)
  have Hva := Lib.hid va
  have Hvb := Lib.hid vb
  have Hvp := Lib.hid vp
  have Hvq := Lib.hid vq
  have Hhg1 := Lib.hid hg1
  clear va vb vp vq hg1
  have Hq0 : Hid (0 < q) := Lib.hid (Nat.lt_of_le_of_lt (Nat.zero_le _) Hvb.out)
  have H := Sta.start w
  replace H := H.num ha
  replace H := H.num hp
  replace H := H.num hb
  replace H := H.num hq
  go_enter Try.func35, Try.ntmps35
  go_upto_region 0 with fail
  refine Kr.seqStart ?_
  refine Kr.seqS (fun K hK => ?_)
  go_simp
  obtain ⟨y1, hy⟩ : ∃ y, w.alloc (.cells #[.slice pa na ca] 24) = y := ⟨_, rfl⟩
  obtain ⟨ba, hb⟩ : ∃ b, w.heap.size = b := ⟨_, rfl⟩
  rw [hy, hb]
  replace H := H.alloc hy hb rfl
  clear hy hb
  refine hK.out _ _ ?_; clear hK K
  (try simp only [Act.put, List.getElem_toArray, List.getElem_cons_zero, List.getElem_cons_succ, List.setIfInBounds_toArray, List.set_cons_zero, List.set_cons_succ])
  refine Kr.seqS (fun K hK => ?_)
  go_simp
  obtain ⟨y2, hy⟩ : ∃ y, y1.alloc (.cells #[.slice pp np cp] 24) = y := ⟨_, rfl⟩
  obtain ⟨bp, hb⟩ : ∃ b, y1.heap.size = b := ⟨_, rfl⟩
  rw [hy, hb]
  replace H := H.alloc hy hb rfl
  clear hy hb
  refine hK.out _ _ ?_; clear hK K
  (try simp only [Act.put, List.getElem_toArray, List.getElem_cons_zero, List.getElem_cons_succ, List.setIfInBounds_toArray, List.set_cons_zero, List.set_cons_succ])
  refine Kr.seqS (fun K hK => ?_)
  go_simp
  obtain ⟨y3, hy⟩ : ∃ y, y2.alloc (.cells #[.slice pb nb cb] 24) = y := ⟨_, rfl⟩
  obtain ⟨bb, hb⟩ : ∃ b, y2.heap.size = b := ⟨_, rfl⟩
  rw [hy, hb]
  replace H := H.alloc hy hb rfl
  clear hy hb
  refine hK.out _ _ ?_; clear hK K
  (try simp only [Act.put, List.getElem_toArray, List.getElem_cons_zero, List.getElem_cons_succ, List.setIfInBounds_toArray, List.set_cons_zero, List.set_cons_succ])
  refine Kr.seqS (fun K hK => ?_)
  go_simp
  obtain ⟨y4, hy⟩ : ∃ y, y3.alloc (.cells #[.slice pq nq cq] 24) = y := ⟨_, rfl⟩
  obtain ⟨bq, hb⟩ : ∃ b, y3.heap.size = b := ⟨_, rfl⟩
  rw [hy, hb]
  replace H := H.alloc hy hb rfl
  clear hy hb
  refine hK.out _ _ ?_; clear hK K
  (try simp only [Act.put, List.getElem_toArray, List.getElem_cons_zero, List.getElem_cons_succ, List.setIfInBounds_toArray, List.set_cons_zero, List.set_cons_succ])
  refine Kr.seqS (fun K hK => ?_)
  go_simp
  obtain ⟨y5, hy⟩ : ∃ y, y4.alloc (.cells #[.slice none 0 0] 24) = y := ⟨_, rfl⟩
  obtain ⟨br, hb⟩ : ∃ b, y4.heap.size = b := ⟨_, rfl⟩
  rw [hy, hb]
  replace H := H.alloc hy hb rfl
  clear hy hb
  refine hK.out _ _ ?_; clear hK K
  (try simp only [Act.put, List.getElem_toArray, List.getElem_cons_zero, List.getElem_cons_succ, List.setIfInBounds_toArray, List.set_cons_zero, List.set_cons_succ])
  (refine Kr.seqP (v := ?_) (by rfl) ?_ ?_; rotate_left; (focus (go_simp; first | done | rfl)); (try simp only [Act.put, List.getElem_toArray, List.getElem_cons_zero, List.getElem_cons_succ, List.setIfInBounds_toArray, List.set_cons_zero, List.set_cons_succ]))
  refine Kr.seqDone ?_
  go_upto_region 1 with fail
  refine Kr.seqStart ?_
  have hk := H.c
  simp only [Kr.Cells] at hk
  iterate 4 (refine Kr.seqP (v := ?_) (by rfl) ?_ ?_; rotate_left; (focus (go_simp; first | done | rfl)); (try simp only [Act.put, List.getElem_toArray, List.getElem_cons_zero, List.getElem_cons_succ, List.setIfInBounds_toArray, List.set_cons_zero, List.set_cons_succ]))
  refine Kr.seqS (fun K hK => ?_)
  go_simp
  go_at_call 70
  refine (HC.out _ H.g).mono ?_
  rintro e y6 ⟨rfl, hg⟩
  clear hk
  replace H := H.grow hg
  clear hg
  refine hK.out _ _ ?_; clear hK K
  (try simp only [Act.put, List.getElem_toArray, List.getElem_cons_zero, List.getElem_cons_succ, List.setIfInBounds_toArray, List.set_cons_zero, List.set_cons_succ])
  (refine Kr.seqP (v := ?_) (by rfl) ?_ ?_; rotate_left; (focus (go_simp; first | done | rfl)); (try simp only [Act.put, List.getElem_toArray, List.getElem_cons_zero, List.getElem_cons_succ, List.setIfInBounds_toArray, List.set_cons_zero, List.set_cons_succ]))
  refine Kr.seqDone ?_
  go_upto_region 2 with fail
  refine Kr.seqStart ?_
  iterate 2 (refine Kr.seqP (v := ?_) (by rfl) ?_ ?_; rotate_left; (focus (go_simp; first | done | rfl)); (try simp only [Act.put, List.getElem_toArray, List.getElem_cons_zero, List.getElem_cons_succ, List.setIfInBounds_toArray, List.set_cons_zero, List.set_cons_succ]))
  refine Kr.seqDone ?_
  go_upto_region 4 with fail
  go_cut [11, 12] from 26 to 33 (fun s11 s12 W => ∃ (bi : Nat) (pi : Option Addr) (ni ci : Nat) (p14 : Option Addr) (n14 c14 : Nat) (z : Nat), s11 = .pointer (some ⟨bi, 0, none⟩) ∧ s12 = .bool false ∧ Hid (Sta w W [(bi, 0, .slice pi ni ci), (br, 0, .slice none 0 0), (bq, 0, .slice pq nq cq), (bb, 0, .slice pb nb cb), (bp, 0, .slice pp np cp), (ba, 0, .slice pa na ca)] [N pi ni ci (z), N p14 n14 c14 (p % q), N pq nq cq (q), N pb nb cb (b), N pp np cp (p), N pa na ca (a)]))
  case first =>
    refine Kr.startL (fun W' => Kr.Cells W' [(bp, 0, .slice pp np cp), (bq, 0, .slice pq nq cq)]) [] (by kernel_rfl) ?_
    have gd : Gr y6 y6.drew := (Gr.refl _).drew
    generalize y6.drew = d7 at gd ⊢
    replace H := H.grow gd
    clear gd
    (refine Kr.tS 0 [] (v := ?_) rfl (by kernel_rfl) (fun _ _ _ h => h) (by rfl) (H.sub [3, 1] rfl) (fun wx hSx => ?_) ?_; rotate_left; (focus (simp only [Kr.Cells] at hSx; go_simp; first | done | rfl)); (try simp only [Act.put, List.getElem_toArray, List.getElem_cons_zero, List.getElem_cons_succ, List.setIfInBounds_toArray, List.set_cons_zero, List.set_cons_succ]))
    (refine Kr.tS 1 [] (v := ?_) rfl (by kernel_rfl) (fun _ _ _ h => h) (by rfl) (H.sub [3, 1] rfl) (fun wx hSx => ?_) ?_; rotate_left; (focus (simp only [Kr.Cells] at hSx; go_simp; first | done | rfl)); (try simp only [Act.put, List.getElem_toArray, List.getElem_cons_zero, List.getElem_cons_succ, List.setIfInBounds_toArray, List.set_cons_zero, List.set_cons_succ]))
    (refine Kr.tS 3 [] (v := ?_) rfl (by kernel_rfl) (fun _ _ _ h => h) (by rfl) (H.sub [3, 1] rfl) (fun wx hSx => ?_) ?_; rotate_left; (focus (simp only [Kr.Cells] at hSx; go_simp; first | done | rfl)); (try simp only [Act.put, List.getElem_toArray, List.getElem_cons_zero, List.getElem_cons_succ, List.setIfInBounds_toArray, List.set_cons_zero, List.set_cons_succ]))
    refine Kr.readyL (rs := [2, 8]) (by kernel_rfl) (by simp) ?_
    refine Kr.AllL.cons rfl (fun K hK => ?_) ?_
    · go_simp
      go_at_call 71
      refine (mrest_v (H.nw 2 rfl) (H.nw 0 rfl) (lt64 Hvp.out) (lt64 Hvq.out) Hq0.out).mono ?_
      rintro e y8 ⟨p8, n8, c8, rfl, hr, hg⟩
      replace H := H.grow hg
      replace H := H.num hr.toNw
      clear hr hg
      refine hK.out _ _ (fun _ => (H.sub [3, 1] rfl)) ?_; clear hK K
      (try simp only [Act.put, List.getElem_toArray, List.getElem_cons_zero, List.getElem_cons_succ, List.setIfInBounds_toArray, List.set_cons_zero, List.set_cons_succ])
      refine Kr.readyL (rs := [4, 8]) (by kernel_rfl) (by simp) ?_
      refine Kr.AllL.cons rfl (fun K hK => ?_) ?_
      · go_simp
        go_at_call 88
        refine (invert_v (H.nw 0 rfl) (H.nw 1 rfl) (Nat.mod_lt _ Hq0.out) Hvq.out).mono ?_
        rintro e yi ⟨pi, ni, ci, z, rfl, h1, h2, hr, hg⟩
        rw [decide_eq_false Hhg1.out]
        replace H := H.grow hg
        replace H := H.num hr
        clear hr hg h1 h2
        refine hK.out _ _ (fun _ => (H.sub [3, 1] rfl)) ?_; clear hK K
        (try simp only [Act.put, List.getElem_toArray, List.getElem_cons_zero, List.getElem_cons_succ, List.setIfInBounds_toArray, List.set_cons_zero, List.set_cons_succ])
        (refine Kr.tP 5 (v := ?_) rfl (by kernel_rfl) (fun _ _ _ h => h) (by rfl) (fun _ => (H.sub [3, 1] rfl)) (fun wx => ?_) ?_; rotate_left; (focus (go_simp; first | done | rfl)); (try simp only [Act.put, List.getElem_toArray, List.getElem_cons_zero, List.getElem_cons_succ, List.setIfInBounds_toArray, List.set_cons_zero, List.set_cons_succ]))
        (refine Kr.tP 6 (v := ?_) rfl (by kernel_rfl) (fun _ _ _ h => h) (by rfl) (fun _ => (H.sub [3, 1] rfl)) (fun wx => ?_) ?_; rotate_left; (focus (go_simp; first | done | rfl)); (try simp only [Act.put, List.getElem_toArray, List.getElem_cons_zero, List.getElem_cons_succ, List.setIfInBounds_toArray, List.set_cons_zero, List.set_cons_succ]))
        (refine Kr.tP 7 (v := ?_) rfl (by kernel_rfl) (fun _ _ _ h => h) (by rfl) (fun _ => (H.sub [3, 1] rfl)) (fun wx => ?_) ?_; rotate_left; (focus (go_simp; first | done | rfl)); (try simp only [Act.put, List.getElem_toArray, List.getElem_cons_zero, List.getElem_cons_succ, List.setIfInBounds_toArray, List.set_cons_zero, List.set_cons_succ]))
        refine Kr.readyL (rs := [8]) (by kernel_rfl) (by simp) ?_
        refine Kr.AllL.cons rfl (fun K hK => ?_) Kr.AllL.nil
        go_simp
        obtain ⟨y9, hy⟩ : ∃ y, yi.alloc (.cells #[.slice none 0 0] 24) = y := ⟨_, rfl⟩
        obtain ⟨bi, hb⟩ : ∃ b, yi.heap.size = b := ⟨_, rfl⟩
        rw [hy, hb]
        replace H := H.alloc hy hb rfl
        clear hy hb
        refine hK.out _ _ (fun _ => (H.sub [4, 2] rfl)) ?_; clear hK K
        (try simp only [Act.put, List.getElem_toArray, List.getElem_cons_zero, List.getElem_cons_succ, List.setIfInBounds_toArray, List.set_cons_zero, List.set_cons_succ])
        refine Kr.readyL (rs := [9]) (by kernel_rfl) (by simp) ?_
        refine Kr.AllL.cons rfl (fun K hK => ?_) Kr.AllL.nil
        have hk := H.c
        simp only [Kr.Cells] at hk
        go_simp
        clear hk
        obtain ⟨y10, hy⟩ : ∃ y, y9.setCell ⟨bi, 0, none⟩ (.slice pi ni ci) = y := ⟨_, rfl⟩
        rw [hy]
        replace H := H.store 0 hy rfl rfl
        dsimp only [List.set] at H
        clear hy
        refine hK.out _ _ (fun _ => (H.sub [4, 2] rfl)) ?_; clear hK K
        (try simp only [Act.put, List.getElem_toArray, List.getElem_cons_zero, List.getElem_cons_succ, List.setIfInBounds_toArray, List.set_cons_zero, List.set_cons_succ])
        (refine Kr.tP 10 (v := ?_) rfl (by kernel_rfl) (fun _ _ _ h => h) (by rfl) (fun _ => (H.sub [4, 2] rfl)) (fun wx => ?_) ?_; rotate_left; (focus (go_simp; first | done | rfl)); (try simp only [Act.put, List.getElem_toArray, List.getElem_cons_zero, List.getElem_cons_succ, List.setIfInBounds_toArray, List.set_cons_zero, List.set_cons_succ]))
        refine Kr.doneL (by kernel_rfl) ?_ _
        go_wp2_with fail
        go_meet
        exact ⟨_, _, _, _, _, _, _, _, rfl, rfl, Lib.hid H⟩
      refine Kr.AllL.cons rfl (fun K hK => ?_) Kr.AllL.nil
      go_simp
      obtain ⟨y11, hy⟩ : ∃ y, y8.alloc (.cells #[.slice none 0 0] 24) = y := ⟨_, rfl⟩
      obtain ⟨bi, hb⟩ : ∃ b, y8.heap.size = b := ⟨_, rfl⟩
      rw [hy, hb]
      replace H := H.alloc hy hb rfl
      clear hy hb
      refine hK.out _ _ (fun _ => (H.sub [4, 2] rfl)) ?_; clear hK K
      (try simp only [Act.put, List.getElem_toArray, List.getElem_cons_zero, List.getElem_cons_succ, List.setIfInBounds_toArray, List.set_cons_zero, List.set_cons_succ])
      refine Kr.readyL (rs := [4]) (by kernel_rfl) (by simp) ?_
      refine Kr.AllL.cons rfl (fun K hK => ?_) Kr.AllL.nil
      go_simp
      go_at_call 88
      refine (invert_v (H.nw 0 rfl) (H.nw 1 rfl) (Nat.mod_lt _ Hq0.out) Hvq.out).mono ?_
      rintro e yi ⟨pi, ni, ci, z, rfl, h1, h2, hr, hg⟩
      rw [decide_eq_false Hhg1.out]
      replace H := H.grow hg
      replace H := H.num hr
      clear hr hg h1 h2
      refine hK.out _ _ (fun _ => (H.sub [4, 2] rfl)) ?_; clear hK K
      (try simp only [Act.put, List.getElem_toArray, List.getElem_cons_zero, List.getElem_cons_succ, List.setIfInBounds_toArray, List.set_cons_zero, List.set_cons_succ])
      (refine Kr.tP 5 (v := ?_) rfl (by kernel_rfl) (fun _ _ _ h => h) (by rfl) (fun _ => (H.sub [4, 2] rfl)) (fun wx => ?_) ?_; rotate_left; (focus (go_simp; first | done | rfl)); (try simp only [Act.put, List.getElem_toArray, List.getElem_cons_zero, List.getElem_cons_succ, List.setIfInBounds_toArray, List.set_cons_zero, List.set_cons_succ]))
      (refine Kr.tP 6 (v := ?_) rfl (by kernel_rfl) (fun _ _ _ h => h) (by rfl) (fun _ => (H.sub [4, 2] rfl)) (fun wx => ?_) ?_; rotate_left; (focus (go_simp; first | done | rfl)); (try simp only [Act.put, List.getElem_toArray, List.getElem_cons_zero, List.getElem_cons_succ, List.setIfInBounds_toArray, List.set_cons_zero, List.set_cons_succ]))
      (refine Kr.tP 7 (v := ?_) rfl (by kernel_rfl) (fun _ _ _ h => h) (by rfl) (fun _ => (H.sub [4, 2] rfl)) (fun wx => ?_) ?_; rotate_left; (focus (go_simp; first | done | rfl)); (try simp only [Act.put, List.getElem_toArray, List.getElem_cons_zero, List.getElem_cons_succ, List.setIfInBounds_toArray, List.set_cons_zero, List.set_cons_succ]))
      refine Kr.readyL (rs := [9]) (by kernel_rfl) (by simp) ?_
      refine Kr.AllL.cons rfl (fun K hK => ?_) Kr.AllL.nil
      have hk := H.c
      simp only [Kr.Cells] at hk
      go_simp
      clear hk
      obtain ⟨y12, hy⟩ : ∃ y, yi.setCell ⟨bi, 0, none⟩ (.slice pi ni ci) = y := ⟨_, rfl⟩
      rw [hy]
      replace H := H.store 0 hy rfl rfl
      dsimp only [List.set] at H
      clear hy
      refine hK.out _ _ (fun _ => (H.sub [4, 2] rfl)) ?_; clear hK K
      (try simp only [Act.put, List.getElem_toArray, List.getElem_cons_zero, List.getElem_cons_succ, List.setIfInBounds_toArray, List.set_cons_zero, List.set_cons_succ])
      (refine Kr.tP 10 (v := ?_) rfl (by kernel_rfl) (fun _ _ _ h => h) (by rfl) (fun _ => (H.sub [4, 2] rfl)) (fun wx => ?_) ?_; rotate_left; (focus (go_simp; first | done | rfl)); (try simp only [Act.put, List.getElem_toArray, List.getElem_cons_zero, List.getElem_cons_succ, List.setIfInBounds_toArray, List.set_cons_zero, List.set_cons_succ]))
      refine Kr.doneL (by kernel_rfl) ?_ _
      go_wp2_with fail
      go_meet
      exact ⟨_, _, _, _, _, _, _, _, rfl, rfl, Lib.hid H⟩
    refine Kr.AllL.cons rfl (fun K hK => ?_) Kr.AllL.nil
    go_simp
    obtain ⟨y13, hy⟩ : ∃ y, d7.alloc (.cells #[.slice none 0 0] 24) = y := ⟨_, rfl⟩
    obtain ⟨bi, hb⟩ : ∃ b, d7.heap.size = b := ⟨_, rfl⟩
    rw [hy, hb]
    replace H := H.alloc hy hb rfl
    clear hy hb
    refine hK.out _ _ (fun _ => (H.sub [4, 2] rfl)) ?_; clear hK K
    (try simp only [Act.put, List.getElem_toArray, List.getElem_cons_zero, List.getElem_cons_succ, List.setIfInBounds_toArray, List.set_cons_zero, List.set_cons_succ])
    refine Kr.readyL (rs := [2]) (by kernel_rfl) (by simp) ?_
    refine Kr.AllL.cons rfl (fun K hK => ?_) Kr.AllL.nil
    go_simp
    go_at_call 71
    refine (mrest_v (H.nw 2 rfl) (H.nw 0 rfl) (lt64 Hvp.out) (lt64 Hvq.out) Hq0.out).mono ?_
    rintro e y14 ⟨p14, n14, c14, rfl, hr, hg⟩
    replace H := H.grow hg
    replace H := H.num hr.toNw
    clear hr hg
    refine hK.out _ _ (fun _ => (H.sub [4, 2] rfl)) ?_; clear hK K
    (try simp only [Act.put, List.getElem_toArray, List.getElem_cons_zero, List.getElem_cons_succ, List.setIfInBounds_toArray, List.set_cons_zero, List.set_cons_succ])
    refine Kr.readyL (rs := [4]) (by kernel_rfl) (by simp) ?_
    refine Kr.AllL.cons rfl (fun K hK => ?_) Kr.AllL.nil
    go_simp
    go_at_call 88
    refine (invert_v (H.nw 0 rfl) (H.nw 1 rfl) (Nat.mod_lt _ Hq0.out) Hvq.out).mono ?_
    rintro e yi ⟨pi, ni, ci, z, rfl, h1, h2, hr, hg⟩
    rw [decide_eq_false Hhg1.out]
    replace H := H.grow hg
    replace H := H.num hr
    clear hr hg h1 h2
    refine hK.out _ _ (fun _ => (H.sub [4, 2] rfl)) ?_; clear hK K
    (try simp only [Act.put, List.getElem_toArray, List.getElem_cons_zero, List.getElem_cons_succ, List.setIfInBounds_toArray, List.set_cons_zero, List.set_cons_succ])
    (refine Kr.tP 5 (v := ?_) rfl (by kernel_rfl) (fun _ _ _ h => h) (by rfl) (fun _ => (H.sub [4, 2] rfl)) (fun wx => ?_) ?_; rotate_left; (focus (go_simp; first | done | rfl)); (try simp only [Act.put, List.getElem_toArray, List.getElem_cons_zero, List.getElem_cons_succ, List.setIfInBounds_toArray, List.set_cons_zero, List.set_cons_succ]))
    (refine Kr.tP 6 (v := ?_) rfl (by kernel_rfl) (fun _ _ _ h => h) (by rfl) (fun _ => (H.sub [4, 2] rfl)) (fun wx => ?_) ?_; rotate_left; (focus (go_simp; first | done | rfl)); (try simp only [Act.put, List.getElem_toArray, List.getElem_cons_zero, List.getElem_cons_succ, List.setIfInBounds_toArray, List.set_cons_zero, List.set_cons_succ]))
    (refine Kr.tP 7 (v := ?_) rfl (by kernel_rfl) (fun _ _ _ h => h) (by rfl) (fun _ => (H.sub [4, 2] rfl)) (fun wx => ?_) ?_; rotate_left; (focus (go_simp; first | done | rfl)); (try simp only [Act.put, List.getElem_toArray, List.getElem_cons_zero, List.getElem_cons_succ, List.setIfInBounds_toArray, List.set_cons_zero, List.set_cons_succ]))
    refine Kr.readyL (rs := [9]) (by kernel_rfl) (by simp) ?_
    refine Kr.AllL.cons rfl (fun K hK => ?_) Kr.AllL.nil
    have hk := H.c
    simp only [Kr.Cells] at hk
    go_simp
    clear hk
    obtain ⟨y15, hy⟩ : ∃ y, yi.setCell ⟨bi, 0, none⟩ (.slice pi ni ci) = y := ⟨_, rfl⟩
    rw [hy]
    replace H := H.store 0 hy rfl rfl
    dsimp only [List.set] at H
    clear hy
    refine hK.out _ _ (fun _ => (H.sub [4, 2] rfl)) ?_; clear hK K
    (try simp only [Act.put, List.getElem_toArray, List.getElem_cons_zero, List.getElem_cons_succ, List.setIfInBounds_toArray, List.set_cons_zero, List.set_cons_succ])
    (refine Kr.tP 10 (v := ?_) rfl (by kernel_rfl) (fun _ _ _ h => h) (by rfl) (fun _ => (H.sub [4, 2] rfl)) (fun wx => ?_) ?_; rotate_left; (focus (go_simp; first | done | rfl)); (try simp only [Act.put, List.getElem_toArray, List.getElem_cons_zero, List.getElem_cons_succ, List.setIfInBounds_toArray, List.set_cons_zero, List.set_cons_succ]))
    refine Kr.doneL (by kernel_rfl) ?_ _
    go_wp2_with fail
    go_meet
    exact ⟨_, _, _, _, _, _, _, _, rfl, rfl, Lib.hid H⟩
  case rest =>
    clear H
    obtain ⟨bi, pi, ni, ci, p14, n14, c14, z, rfl, rfl, HH⟩ := hcut
    have H := HH.out
    clear HH
    go_upto_region 5 with fail
    refine Kr.seqStart ?_
    iterate 3 (refine Kr.seqP (v := ?_) (by rfl) ?_ ?_; rotate_left; (focus (go_simp; first | done | rfl)); (try simp only [Act.put, List.getElem_toArray, List.getElem_cons_zero, List.getElem_cons_succ, List.setIfInBounds_toArray, List.set_cons_zero, List.set_cons_succ]))
    refine Kr.seqDone ?_
    go_upto_region 6 with fail
    refine Kr.seqStart ?_
    (refine Kr.seqP (v := ?_) (by rfl) ?_ ?_; rotate_left; (focus (go_simp; first | done | rfl)); (try simp only [Act.put, List.getElem_toArray, List.getElem_cons_zero, List.getElem_cons_succ, List.setIfInBounds_toArray, List.set_cons_zero, List.set_cons_succ]))
    have hk := H.c
    simp only [Kr.Cells] at hk
    refine Kr.seqS (fun K hK => ?_)
    go_simp
    clear hk
    obtain ⟨y16, hy⟩ : ∃ y, wc.setCell ⟨br, 0, none⟩ (.slice none 0 0) = y := ⟨_, rfl⟩
    rw [hy]
    replace H := H.store 1 hy rfl rfl
    dsimp only [List.set] at H
    clear hy
    refine hK.out _ _ ?_; clear hK K
    (try simp only [Act.put, List.getElem_toArray, List.getElem_cons_zero, List.getElem_cons_succ, List.setIfInBounds_toArray, List.set_cons_zero, List.set_cons_succ])
    (refine Kr.seqP (v := ?_) (by rfl) ?_ ?_; rotate_left; (focus (go_simp; first | done | rfl)); (try simp only [Act.put, List.getElem_toArray, List.getElem_cons_zero, List.getElem_cons_succ, List.setIfInBounds_toArray, List.set_cons_zero, List.set_cons_succ]))
    refine Kr.seqDone ?_
    have hk := H.c
    simp only [Kr.Cells] at hk
    go_wp2
    refine bodyPost_ret (v := .tuple #[.agg #[.slice none 0 0], .int .i64 10]) (by simp [results, Try.results35, go_sem, hk]) rfl ⟨none, 0, 0, rfl, nw_none _, H.g⟩
set_option linter.unusedSimpArgs false in
set_option maxRecDepth 100000 in
set_option maxHeartbeats 16000000 in
theorem mCrt_big {pa : Option Addr} {na ca : Nat} {pp : Option Addr} {np cp : Nat} {pb : Option Addr} {nb cb : Nat} {pq : Option Addr} {nq cq : Nat} {a p b q : Nat} {w : World} (ha : Nw w pa na ca (digs a)) (hp : Nw w pp np cp (digs p)) (hb : Nw w pb nb cb (digs b)) (hq : Nw w pq nq cq (digs q)) (va : a < p) (vb : b < q) (vp : p < pw 32) (vq : q < pw 32) (hg1 : Nat.gcd (p % q) q = 1) (hpq : pw 32 ≤ p * q) :
    Calls Try.prog 35 #[.agg #[.slice pa na ca], .agg #[.slice pp np cp], .agg #[.slice pb nb cb], .agg #[.slice pq nq cq]] w ((HasE 0 9 w)) := by
  have HC := Lib.hid (chk_ok ha hp hb hq va vb vp vq)
  have Hva := Lib.hid va
  have Hvb := Lib.hid vb
  have Hvp := Lib.hid vp
  have Hvq := Lib.hid vq
  have Hhg1 := Lib.hid hg1
  have Hhpq := Lib.hid hpq
  clear va vb vp vq hg1 hpq
  have Hq0 : Hid (0 < q) := Lib.hid (Nat.lt_of_le_of_lt (Nat.zero_le _) Hvb.out)
  have HPQ : Hid (p * q < pw 64) := Lib.hid (by have := Nat.mul_lt_mul'' Hvp.out Hvq.out; rwa [← pw_add] at this)
  have HIM : Hid (im (digs (p * q)) = false) := Lib.hid (decide_eq_false fun h => by have h1 := h.2.2; rw [val_digs] at h1; have := Hhpq.out; omega)
  have H := Sta.start w
  replace H := H.num ha
  replace H := H.num hp
  replace H := H.num hb
  replace H := H.num hq
  go_enter Try.func35, Try.ntmps35
  go_upto_region 0 with fail
  refine Kr.seqStart ?_
  refine Kr.seqS (fun K hK => ?_)
  go_simp
  obtain ⟨y1, hy⟩ : ∃ y, w.alloc (.cells #[.slice pa na ca] 24) = y := ⟨_, rfl⟩
  obtain ⟨ba, hb⟩ : ∃ b, w.heap.size = b := ⟨_, rfl⟩
  rw [hy, hb]
  replace H := H.alloc hy hb rfl
  clear hy hb
  refine hK.out _ _ ?_; clear hK K
  (try simp only [Act.put, List.getElem_toArray, List.getElem_cons_zero, List.getElem_cons_succ, List.setIfInBounds_toArray, List.set_cons_zero, List.set_cons_succ])
  refine Kr.seqS (fun K hK => ?_)
  go_simp
  obtain ⟨y2, hy⟩ : ∃ y, y1.alloc (.cells #[.slice pp np cp] 24) = y := ⟨_, rfl⟩
  obtain ⟨bp, hb⟩ : ∃ b, y1.heap.size = b := ⟨_, rfl⟩
  rw [hy, hb]
  replace H := H.alloc hy hb rfl
  clear hy hb
  refine hK.out _ _ ?_; clear hK K
  (try simp only [Act.put, List.getElem_toArray, List.getElem_cons_zero, List.getElem_cons_succ, List.setIfInBounds_toArray, List.set_cons_zero, List.set_cons_succ])
  refine Kr.seqS (fun K hK => ?_)
  go_simp
  obtain ⟨y3, hy⟩ : ∃ y, y2.alloc (.cells #[.slice pb nb cb] 24) = y := ⟨_, rfl⟩
  obtain ⟨bb, hb⟩ : ∃ b, y2.heap.size = b := ⟨_, rfl⟩
  rw [hy, hb]
  replace H := H.alloc hy hb rfl
  clear hy hb
  refine hK.out _ _ ?_; clear hK K
  (try simp only [Act.put, List.getElem_toArray, List.getElem_cons_zero, List.getElem_cons_succ, List.setIfInBounds_toArray, List.set_cons_zero, List.set_cons_succ])
  refine Kr.seqS (fun K hK => ?_)
  go_simp
  obtain ⟨y4, hy⟩ : ∃ y, y3.alloc (.cells #[.slice pq nq cq] 24) = y := ⟨_, rfl⟩
  obtain ⟨bq, hb⟩ : ∃ b, y3.heap.size = b := ⟨_, rfl⟩
  rw [hy, hb]
  replace H := H.alloc hy hb rfl
  clear hy hb
  refine hK.out _ _ ?_; clear hK K
  (try simp only [Act.put, List.getElem_toArray, List.getElem_cons_zero, List.getElem_cons_succ, List.setIfInBounds_toArray, List.set_cons_zero, List.set_cons_succ])
  refine Kr.seqS (fun K hK => ?_)
  go_simp
  obtain ⟨y5, hy⟩ : ∃ y, y4.alloc (.cells #[.slice none 0 0] 24) = y := ⟨_, rfl⟩
  obtain ⟨br, hb⟩ : ∃ b, y4.heap.size = b := ⟨_, rfl⟩
  rw [hy, hb]
  replace H := H.alloc hy hb rfl
  clear hy hb
  refine hK.out _ _ ?_; clear hK K
  (try simp only [Act.put, List.getElem_toArray, List.getElem_cons_zero, List.getElem_cons_succ, List.setIfInBounds_toArray, List.set_cons_zero, List.set_cons_succ])
  (refine Kr.seqP (v := ?_) (by rfl) ?_ ?_; rotate_left; (focus (go_simp; first | done | rfl)); (try simp only [Act.put, List.getElem_toArray, List.getElem_cons_zero, List.getElem_cons_succ, List.setIfInBounds_toArray, List.set_cons_zero, List.set_cons_succ]))
  refine Kr.seqDone ?_
  go_upto_region 1 with fail
  refine Kr.seqStart ?_
  have hk := H.c
  simp only [Kr.Cells] at hk
  iterate 4 (refine Kr.seqP (v := ?_) (by rfl) ?_ ?_; rotate_left; (focus (go_simp; first | done | rfl)); (try simp only [Act.put, List.getElem_toArray, List.getElem_cons_zero, List.getElem_cons_succ, List.setIfInBounds_toArray, List.set_cons_zero, List.set_cons_succ]))
  refine Kr.seqS (fun K hK => ?_)
  go_simp
  go_at_call 70
  refine (HC.out _ H.g).mono ?_
  rintro e y6 ⟨rfl, hg⟩
  clear hk
  replace H := H.grow hg
  clear hg
  refine hK.out _ _ ?_; clear hK K
  (try simp only [Act.put, List.getElem_toArray, List.getElem_cons_zero, List.getElem_cons_succ, List.setIfInBounds_toArray, List.set_cons_zero, List.set_cons_succ])
  (refine Kr.seqP (v := ?_) (by rfl) ?_ ?_; rotate_left; (focus (go_simp; first | done | rfl)); (try simp only [Act.put, List.getElem_toArray, List.getElem_cons_zero, List.getElem_cons_succ, List.setIfInBounds_toArray, List.set_cons_zero, List.set_cons_succ]))
  refine Kr.seqDone ?_
  go_upto_region 2 with fail
  refine Kr.seqStart ?_
  iterate 2 (refine Kr.seqP (v := ?_) (by rfl) ?_ ?_; rotate_left; (focus (go_simp; first | done | rfl)); (try simp only [Act.put, List.getElem_toArray, List.getElem_cons_zero, List.getElem_cons_succ, List.setIfInBounds_toArray, List.set_cons_zero, List.set_cons_succ]))
  refine Kr.seqDone ?_
  go_upto_region 4 with fail
  go_cut [11, 12] from 26 to 33 (fun s11 s12 W => ∃ (bi : Nat) (pi : Option Addr) (ni ci : Nat) (p14 : Option Addr) (n14 c14 : Nat) (z : Nat), s11 = .pointer (some ⟨bi, 0, none⟩) ∧ s12 = .bool true ∧ Hid (IsInv (p % q) q z) ∧ Hid (Sta w W [(bi, 0, .slice pi ni ci), (br, 0, .slice none 0 0), (bq, 0, .slice pq nq cq), (bb, 0, .slice pb nb cb), (bp, 0, .slice pp np cp), (ba, 0, .slice pa na ca)] [N pi ni ci (z), N p14 n14 c14 (p % q), N pq nq cq (q), N pb nb cb (b), N pp np cp (p), N pa na ca (a)]))
  case first =>
    refine Kr.startL (fun W' => Kr.Cells W' [(bp, 0, .slice pp np cp), (bq, 0, .slice pq nq cq)]) [] (by kernel_rfl) ?_
    have gd : Gr y6 y6.drew := (Gr.refl _).drew
    generalize y6.drew = d7 at gd ⊢
    replace H := H.grow gd
    clear gd
    (refine Kr.tS 0 [] (v := ?_) rfl (by kernel_rfl) (fun _ _ _ h => h) (by rfl) (H.sub [3, 1] rfl) (fun wx hSx => ?_) ?_; rotate_left; (focus (simp only [Kr.Cells] at hSx; go_simp; first | done | rfl)); (try simp only [Act.put, List.getElem_toArray, List.getElem_cons_zero, List.getElem_cons_succ, List.setIfInBounds_toArray, List.set_cons_zero, List.set_cons_succ]))
    (refine Kr.tS 1 [] (v := ?_) rfl (by kernel_rfl) (fun _ _ _ h => h) (by rfl) (H.sub [3, 1] rfl) (fun wx hSx => ?_) ?_; rotate_left; (focus (simp only [Kr.Cells] at hSx; go_simp; first | done | rfl)); (try simp only [Act.put, List.getElem_toArray, List.getElem_cons_zero, List.getElem_cons_succ, List.setIfInBounds_toArray, List.set_cons_zero, List.set_cons_succ]))
    (refine Kr.tS 3 [] (v := ?_) rfl (by kernel_rfl) (fun _ _ _ h => h) (by rfl) (H.sub [3, 1] rfl) (fun wx hSx => ?_) ?_; rotate_left; (focus (simp only [Kr.Cells] at hSx; go_simp; first | done | rfl)); (try simp only [Act.put, List.getElem_toArray, List.getElem_cons_zero, List.getElem_cons_succ, List.setIfInBounds_toArray, List.set_cons_zero, List.set_cons_succ]))
    refine Kr.readyL (rs := [2, 8]) (by kernel_rfl) (by simp) ?_
    refine Kr.AllL.cons rfl (fun K hK => ?_) ?_
    · go_simp
      go_at_call 71
      refine (mrest_v (H.nw 2 rfl) (H.nw 0 rfl) (lt64 Hvp.out) (lt64 Hvq.out) Hq0.out).mono ?_
      rintro e y8 ⟨p8, n8, c8, rfl, hr, hg⟩
      replace H := H.grow hg
      replace H := H.num hr.toNw
      clear hr hg
      refine hK.out _ _ (fun _ => (H.sub [3, 1] rfl)) ?_; clear hK K
      (try simp only [Act.put, List.getElem_toArray, List.getElem_cons_zero, List.getElem_cons_succ, List.setIfInBounds_toArray, List.set_cons_zero, List.set_cons_succ])
      refine Kr.readyL (rs := [4, 8]) (by kernel_rfl) (by simp) ?_
      refine Kr.AllL.cons rfl (fun K hK => ?_) ?_
      · go_simp
        go_at_call 88
        refine (invert_v (H.nw 0 rfl) (H.nw 1 rfl) (Nat.mod_lt _ Hq0.out) Hvq.out).mono ?_
        rintro e yi ⟨pi, ni, ci, z, rfl, h1, h2, hr, hg⟩
        rw [decide_eq_true Hhg1.out]
        have HI := Lib.hid (h1 Hhg1.out)
        replace H := H.grow hg
        replace H := H.num hr
        clear hr hg h1 h2
        refine hK.out _ _ (fun _ => (H.sub [3, 1] rfl)) ?_; clear hK K
        (try simp only [Act.put, List.getElem_toArray, List.getElem_cons_zero, List.getElem_cons_succ, List.setIfInBounds_toArray, List.set_cons_zero, List.set_cons_succ])
        (refine Kr.tP 5 (v := ?_) rfl (by kernel_rfl) (fun _ _ _ h => h) (by rfl) (fun _ => (H.sub [3, 1] rfl)) (fun wx => ?_) ?_; rotate_left; (focus (go_simp; first | done | rfl)); (try simp only [Act.put, List.getElem_toArray, List.getElem_cons_zero, List.getElem_cons_succ, List.setIfInBounds_toArray, List.set_cons_zero, List.set_cons_succ]))
        (refine Kr.tP 6 (v := ?_) rfl (by kernel_rfl) (fun _ _ _ h => h) (by rfl) (fun _ => (H.sub [3, 1] rfl)) (fun wx => ?_) ?_; rotate_left; (focus (go_simp; first | done | rfl)); (try simp only [Act.put, List.getElem_toArray, List.getElem_cons_zero, List.getElem_cons_succ, List.setIfInBounds_toArray, List.set_cons_zero, List.set_cons_succ]))
        (refine Kr.tP 7 (v := ?_) rfl (by kernel_rfl) (fun _ _ _ h => h) (by rfl) (fun _ => (H.sub [3, 1] rfl)) (fun wx => ?_) ?_; rotate_left; (focus (go_simp; first | done | rfl)); (try simp only [Act.put, List.getElem_toArray, List.getElem_cons_zero, List.getElem_cons_succ, List.setIfInBounds_toArray, List.set_cons_zero, List.set_cons_succ]))
        refine Kr.readyL (rs := [8]) (by kernel_rfl) (by simp) ?_
        refine Kr.AllL.cons rfl (fun K hK => ?_) Kr.AllL.nil
        go_simp
        obtain ⟨y9, hy⟩ : ∃ y, yi.alloc (.cells #[.slice none 0 0] 24) = y := ⟨_, rfl⟩
        obtain ⟨bi, hb⟩ : ∃ b, yi.heap.size = b := ⟨_, rfl⟩
        rw [hy, hb]
        replace H := H.alloc hy hb rfl
        clear hy hb
        refine hK.out _ _ (fun _ => (H.sub [4, 2] rfl)) ?_; clear hK K
        (try simp only [Act.put, List.getElem_toArray, List.getElem_cons_zero, List.getElem_cons_succ, List.setIfInBounds_toArray, List.set_cons_zero, List.set_cons_succ])
        refine Kr.readyL (rs := [9]) (by kernel_rfl) (by simp) ?_
        refine Kr.AllL.cons rfl (fun K hK => ?_) Kr.AllL.nil
        have hk := H.c
        simp only [Kr.Cells] at hk
        go_simp
        clear hk
        obtain ⟨y10, hy⟩ : ∃ y, y9.setCell ⟨bi, 0, none⟩ (.slice pi ni ci) = y := ⟨_, rfl⟩
        rw [hy]
        replace H := H.store 0 hy rfl rfl
        dsimp only [List.set] at H
        clear hy
        refine hK.out _ _ (fun _ => (H.sub [4, 2] rfl)) ?_; clear hK K
        (try simp only [Act.put, List.getElem_toArray, List.getElem_cons_zero, List.getElem_cons_succ, List.setIfInBounds_toArray, List.set_cons_zero, List.set_cons_succ])
        (refine Kr.tP 10 (v := ?_) rfl (by kernel_rfl) (fun _ _ _ h => h) (by rfl) (fun _ => (H.sub [4, 2] rfl)) (fun wx => ?_) ?_; rotate_left; (focus (go_simp; first | done | rfl)); (try simp only [Act.put, List.getElem_toArray, List.getElem_cons_zero, List.getElem_cons_succ, List.setIfInBounds_toArray, List.set_cons_zero, List.set_cons_succ]))
        refine Kr.doneL (by kernel_rfl) ?_ _
        go_wp2_with fail
        go_meet
        exact ⟨_, _, _, _, _, _, _, _, rfl, rfl, HI, Lib.hid H⟩
      refine Kr.AllL.cons rfl (fun K hK => ?_) Kr.AllL.nil
      go_simp
      obtain ⟨y11, hy⟩ : ∃ y, y8.alloc (.cells #[.slice none 0 0] 24) = y := ⟨_, rfl⟩
      obtain ⟨bi, hb⟩ : ∃ b, y8.heap.size = b := ⟨_, rfl⟩
      rw [hy, hb]
      replace H := H.alloc hy hb rfl
      clear hy hb
      refine hK.out _ _ (fun _ => (H.sub [4, 2] rfl)) ?_; clear hK K
      (try simp only [Act.put, List.getElem_toArray, List.getElem_cons_zero, List.getElem_cons_succ, List.setIfInBounds_toArray, List.set_cons_zero, List.set_cons_succ])
      refine Kr.readyL (rs := [4]) (by kernel_rfl) (by simp) ?_
      refine Kr.AllL.cons rfl (fun K hK => ?_) Kr.AllL.nil
      go_simp
      go_at_call 88
      refine (invert_v (H.nw 0 rfl) (H.nw 1 rfl) (Nat.mod_lt _ Hq0.out) Hvq.out).mono ?_
      rintro e yi ⟨pi, ni, ci, z, rfl, h1, h2, hr, hg⟩
      rw [decide_eq_true Hhg1.out]
      have HI := Lib.hid (h1 Hhg1.out)
      replace H := H.grow hg
      replace H := H.num hr
      clear hr hg h1 h2
      refine hK.out _ _ (fun _ => (H.sub [4, 2] rfl)) ?_; clear hK K
      (try simp only [Act.put, List.getElem_toArray, List.getElem_cons_zero, List.getElem_cons_succ, List.setIfInBounds_toArray, List.set_cons_zero, List.set_cons_succ])
      (refine Kr.tP 5 (v := ?_) rfl (by kernel_rfl) (fun _ _ _ h => h) (by rfl) (fun _ => (H.sub [4, 2] rfl)) (fun wx => ?_) ?_; rotate_left; (focus (go_simp; first | done | rfl)); (try simp only [Act.put, List.getElem_toArray, List.getElem_cons_zero, List.getElem_cons_succ, List.setIfInBounds_toArray, List.set_cons_zero, List.set_cons_succ]))
      (refine Kr.tP 6 (v := ?_) rfl (by kernel_rfl) (fun _ _ _ h => h) (by rfl) (fun _ => (H.sub [4, 2] rfl)) (fun wx => ?_) ?_; rotate_left; (focus (go_simp; first | done | rfl)); (try simp only [Act.put, List.getElem_toArray, List.getElem_cons_zero, List.getElem_cons_succ, List.setIfInBounds_toArray, List.set_cons_zero, List.set_cons_succ]))
      (refine Kr.tP 7 (v := ?_) rfl (by kernel_rfl) (fun _ _ _ h => h) (by rfl) (fun _ => (H.sub [4, 2] rfl)) (fun wx => ?_) ?_; rotate_left; (focus (go_simp; first | done | rfl)); (try simp only [Act.put, List.getElem_toArray, List.getElem_cons_zero, List.getElem_cons_succ, List.setIfInBounds_toArray, List.set_cons_zero, List.set_cons_succ]))
      refine Kr.readyL (rs := [9]) (by kernel_rfl) (by simp) ?_
      refine Kr.AllL.cons rfl (fun K hK => ?_) Kr.AllL.nil
      have hk := H.c
      simp only [Kr.Cells] at hk
      go_simp
      clear hk
      obtain ⟨y12, hy⟩ : ∃ y, yi.setCell ⟨bi, 0, none⟩ (.slice pi ni ci) = y := ⟨_, rfl⟩
      rw [hy]
      replace H := H.store 0 hy rfl rfl
      dsimp only [List.set] at H
      clear hy
      refine hK.out _ _ (fun _ => (H.sub [4, 2] rfl)) ?_; clear hK K
      (try simp only [Act.put, List.getElem_toArray, List.getElem_cons_zero, List.getElem_cons_succ, List.setIfInBounds_toArray, List.set_cons_zero, List.set_cons_succ])
      (refine Kr.tP 10 (v := ?_) rfl (by kernel_rfl) (fun _ _ _ h => h) (by rfl) (fun _ => (H.sub [4, 2] rfl)) (fun wx => ?_) ?_; rotate_left; (focus (go_simp; first | done | rfl)); (try simp only [Act.put, List.getElem_toArray, List.getElem_cons_zero, List.getElem_cons_succ, List.setIfInBounds_toArray, List.set_cons_zero, List.set_cons_succ]))
      refine Kr.doneL (by kernel_rfl) ?_ _
      go_wp2_with fail
      go_meet
      exact ⟨_, _, _, _, _, _, _, _, rfl, rfl, HI, Lib.hid H⟩
    refine Kr.AllL.cons rfl (fun K hK => ?_) Kr.AllL.nil
    go_simp
    obtain ⟨y13, hy⟩ : ∃ y, d7.alloc (.cells #[.slice none 0 0] 24) = y := ⟨_, rfl⟩
    obtain ⟨bi, hb⟩ : ∃ b, d7.heap.size = b := ⟨_, rfl⟩
    rw [hy, hb]
    replace H := H.alloc hy hb rfl
    clear hy hb
    refine hK.out _ _ (fun _ => (H.sub [4, 2] rfl)) ?_; clear hK K
    (try simp only [Act.put, List.getElem_toArray, List.getElem_cons_zero, List.getElem_cons_succ, List.setIfInBounds_toArray, List.set_cons_zero, List.set_cons_succ])
    refine Kr.readyL (rs := [2]) (by kernel_rfl) (by simp) ?_
    refine Kr.AllL.cons rfl (fun K hK => ?_) Kr.AllL.nil
    go_simp
    go_at_call 71
    refine (mrest_v (H.nw 2 rfl) (H.nw 0 rfl) (lt64 Hvp.out) (lt64 Hvq.out) Hq0.out).mono ?_
    rintro e y14 ⟨p14, n14, c14, rfl, hr, hg⟩
    replace H := H.grow hg
    replace H := H.num hr.toNw
    clear hr hg
    refine hK.out _ _ (fun _ => (H.sub [4, 2] rfl)) ?_; clear hK K
    (try simp only [Act.put, List.getElem_toArray, List.getElem_cons_zero, List.getElem_cons_succ, List.setIfInBounds_toArray, List.set_cons_zero, List.set_cons_succ])
    refine Kr.readyL (rs := [4]) (by kernel_rfl) (by simp) ?_
    refine Kr.AllL.cons rfl (fun K hK => ?_) Kr.AllL.nil
    go_simp
    go_at_call 88
    refine (invert_v (H.nw 0 rfl) (H.nw 1 rfl) (Nat.mod_lt _ Hq0.out) Hvq.out).mono ?_
    rintro e yi ⟨pi, ni, ci, z, rfl, h1, h2, hr, hg⟩
    rw [decide_eq_true Hhg1.out]
    have HI := Lib.hid (h1 Hhg1.out)
    replace H := H.grow hg
    replace H := H.num hr
    clear hr hg h1 h2
    refine hK.out _ _ (fun _ => (H.sub [4, 2] rfl)) ?_; clear hK K
    (try simp only [Act.put, List.getElem_toArray, List.getElem_cons_zero, List.getElem_cons_succ, List.setIfInBounds_toArray, List.set_cons_zero, List.set_cons_succ])
    (refine Kr.tP 5 (v := ?_) rfl (by kernel_rfl) (fun _ _ _ h => h) (by rfl) (fun _ => (H.sub [4, 2] rfl)) (fun wx => ?_) ?_; rotate_left; (focus (go_simp; first | done | rfl)); (try simp only [Act.put, List.getElem_toArray, List.getElem_cons_zero, List.getElem_cons_succ, List.setIfInBounds_toArray, List.set_cons_zero, List.set_cons_succ]))
    (refine Kr.tP 6 (v := ?_) rfl (by kernel_rfl) (fun _ _ _ h => h) (by rfl) (fun _ => (H.sub [4, 2] rfl)) (fun wx => ?_) ?_; rotate_left; (focus (go_simp; first | done | rfl)); (try simp only [Act.put, List.getElem_toArray, List.getElem_cons_zero, List.getElem_cons_succ, List.setIfInBounds_toArray, List.set_cons_zero, List.set_cons_succ]))
    (refine Kr.tP 7 (v := ?_) rfl (by kernel_rfl) (fun _ _ _ h => h) (by rfl) (fun _ => (H.sub [4, 2] rfl)) (fun wx => ?_) ?_; rotate_left; (focus (go_simp; first | done | rfl)); (try simp only [Act.put, List.getElem_toArray, List.getElem_cons_zero, List.getElem_cons_succ, List.setIfInBounds_toArray, List.set_cons_zero, List.set_cons_succ]))
    refine Kr.readyL (rs := [9]) (by kernel_rfl) (by simp) ?_
    refine Kr.AllL.cons rfl (fun K hK => ?_) Kr.AllL.nil
    have hk := H.c
    simp only [Kr.Cells] at hk
    go_simp
    clear hk
    obtain ⟨y15, hy⟩ : ∃ y, yi.setCell ⟨bi, 0, none⟩ (.slice pi ni ci) = y := ⟨_, rfl⟩
    rw [hy]
    replace H := H.store 0 hy rfl rfl
    dsimp only [List.set] at H
    clear hy
    refine hK.out _ _ (fun _ => (H.sub [4, 2] rfl)) ?_; clear hK K
    (try simp only [Act.put, List.getElem_toArray, List.getElem_cons_zero, List.getElem_cons_succ, List.setIfInBounds_toArray, List.set_cons_zero, List.set_cons_succ])
    (refine Kr.tP 10 (v := ?_) rfl (by kernel_rfl) (fun _ _ _ h => h) (by rfl) (fun _ => (H.sub [4, 2] rfl)) (fun wx => ?_) ?_; rotate_left; (focus (go_simp; first | done | rfl)); (try simp only [Act.put, List.getElem_toArray, List.getElem_cons_zero, List.getElem_cons_succ, List.setIfInBounds_toArray, List.set_cons_zero, List.set_cons_succ]))
    refine Kr.doneL (by kernel_rfl) ?_ _
    go_wp2_with fail
    go_meet
    exact ⟨_, _, _, _, _, _, _, _, rfl, rfl, HI, Lib.hid H⟩
  case rest =>
    clear H
    obtain ⟨bi, pi, ni, ci, p14, n14, c14, z, rfl, rfl, HI, HH⟩ := hcut
    have H := HH.out
    clear HH
    go_upto_region 5 with fail
    refine Kr.seqStart ?_
    iterate 3 (refine Kr.seqP (v := ?_) (by rfl) ?_ ?_; rotate_left; (focus (go_simp; first | done | rfl)); (try simp only [Act.put, List.getElem_toArray, List.getElem_cons_zero, List.getElem_cons_succ, List.setIfInBounds_toArray, List.set_cons_zero, List.set_cons_succ]))
    refine Kr.seqDone ?_
    go_upto_region 7 with fail
    refine Kr.seqStart ?_
    have hk := H.c
    simp only [Kr.Cells] at hk
    iterate 2 (refine Kr.seqP (v := ?_) (by rfl) ?_ ?_; rotate_left; (focus (go_simp; first | done | rfl)); (try simp only [Act.put, List.getElem_toArray, List.getElem_cons_zero, List.getElem_cons_succ, List.setIfInBounds_toArray, List.set_cons_zero, List.set_cons_succ]))
    refine Kr.seqS (fun K hK => ?_)
    go_simp
    go_at_call 79
    refine (mtimes_v (H.nw 4 rfl) (H.nw 2 rfl) (lt64 Hvp.out) (lt64 Hvq.out) HPQ.out).mono ?_
    rintro e y16 ⟨p16, n16, c16, rfl, hr, hg⟩
    clear hk
    replace H := H.grow hg
    replace H := H.num hr.toNw
    clear hr hg
    refine hK.out _ _ ?_; clear hK K
    (try simp only [Act.put, List.getElem_toArray, List.getElem_cons_zero, List.getElem_cons_succ, List.setIfInBounds_toArray, List.set_cons_zero, List.set_cons_succ])
    refine Kr.seqS (fun K hK => ?_)
    go_simp
    go_at_call 90
    refine (isModulus_any (H.nw 0 rfl)).mono ?_
    rintro e y17 ⟨rfl, hg⟩
    rw [HIM.out]
    replace H := H.grow hg
    clear hg
    refine hK.out _ _ ?_; clear hK K
    (try simp only [Act.put, List.getElem_toArray, List.getElem_cons_zero, List.getElem_cons_succ, List.setIfInBounds_toArray, List.set_cons_zero, List.set_cons_succ])
    iterate 2 (refine Kr.seqP (v := ?_) (by rfl) ?_ ?_; rotate_left; (focus (go_simp; first | done | rfl)); (try simp only [Act.put, List.getElem_toArray, List.getElem_cons_zero, List.getElem_cons_succ, List.setIfInBounds_toArray, List.set_cons_zero, List.set_cons_succ]))
    refine Kr.seqDone ?_
    go_upto_region 8 with fail
    refine Kr.seqStart ?_
    (refine Kr.seqP (v := ?_) (by rfl) ?_ ?_; rotate_left; (focus (go_simp; first | done | rfl)); (try simp only [Act.put, List.getElem_toArray, List.getElem_cons_zero, List.getElem_cons_succ, List.setIfInBounds_toArray, List.set_cons_zero, List.set_cons_succ]))
    have hk := H.c
    simp only [Kr.Cells] at hk
    refine Kr.seqS (fun K hK => ?_)
    go_simp
    clear hk
    obtain ⟨y18, hy⟩ : ∃ y, y17.setCell ⟨br, 0, none⟩ (.slice none 0 0) = y := ⟨_, rfl⟩
    rw [hy]
    replace H := H.store 1 hy rfl rfl
    dsimp only [List.set] at H
    clear hy
    refine hK.out _ _ ?_; clear hK K
    (try simp only [Act.put, List.getElem_toArray, List.getElem_cons_zero, List.getElem_cons_succ, List.setIfInBounds_toArray, List.set_cons_zero, List.set_cons_succ])
    (refine Kr.seqP (v := ?_) (by rfl) ?_ ?_; rotate_left; (focus (go_simp; first | done | rfl)); (try simp only [Act.put, List.getElem_toArray, List.getElem_cons_zero, List.getElem_cons_succ, List.setIfInBounds_toArray, List.set_cons_zero, List.set_cons_succ]))
    refine Kr.seqDone ?_
    have hk := H.c
    simp only [Kr.Cells] at hk
    go_wp2
    refine bodyPost_ret (v := .tuple #[.agg #[.slice none 0 0], .int .i64 9]) (by simp [results, Try.results35, go_sem, hk]) rfl ⟨none, 0, 0, rfl, nw_none _, H.g⟩
set_option linter.unusedSimpArgs false in
set_option maxRecDepth 100000 in
set_option maxHeartbeats 16000000 in
theorem mCrt_ok {pa : Option Addr} {na ca : Nat} {pp : Option Addr} {np cp : Nat} {pb : Option Addr} {nb cb : Nat} {pq : Option Addr} {nq cq : Nat} {a p b q : Nat} {w : World} (ha : Nw w pa na ca (digs a)) (hp : Nw w pp np cp (digs p)) (hb : Nw w pb nb cb (digs b)) (hq : Nw w pq nq cq (digs q)) (va : a < p) (vb : b < q) (vp : p < pw 32) (vq : q < pw 32) (hg1 : Nat.gcd (p % q) q = 1) (hpq : p * q < pw 32) :
    Calls Try.prog 35 #[.agg #[.slice pa na ca], .agg #[.slice pp np cp], .agg #[.slice pb nb cb], .agg #[.slice pq nq cq]] w (fun e w' => ∃ z, IsInv (p % q) q z ∧ HasE (a + p * ((b + q - a % q) % q * z % q)) 0 w e w') := by
  have HC := Lib.hid (chk_ok ha hp hb hq va vb vp vq)
  have Hva := Lib.hid va
  have Hvb := Lib.hid vb
  have Hvp := Lib.hid vp
  have Hvq := Lib.hid vq
  have Hhg1 := Lib.hid hg1
  have Hhpq := Lib.hid hpq
  clear va vb vp vq hg1 hpq
  have Hq0 : Hid (0 < q) := Lib.hid (Nat.lt_of_le_of_lt (Nat.zero_le _) Hvb.out)
  have HPQ : Hid (p * q < pw 64) := Lib.hid (by have := Nat.mul_lt_mul'' Hvp.out Hvq.out; rwa [← pw_add] at this)
  have HIM : Hid (im (digs (p * q)) = true) := Lib.hid (im_digs (Nat.mul_pos (Nat.lt_of_le_of_lt (Nat.zero_le _) Hva.out) Hq0.out) Hhpq.out)
  have H := Sta.start w
  replace H := H.num ha
  replace H := H.num hp
  replace H := H.num hb
  replace H := H.num hq
  go_enter Try.func35, Try.ntmps35
  go_upto_region 0 with fail
  refine Kr.seqStart ?_
  refine Kr.seqS (fun K hK => ?_)
  go_simp
  obtain ⟨y1, hy⟩ : ∃ y, w.alloc (.cells #[.slice pa na ca] 24) = y := ⟨_, rfl⟩
  obtain ⟨ba, hb⟩ : ∃ b, w.heap.size = b := ⟨_, rfl⟩
  rw [hy, hb]
  replace H := H.alloc hy hb rfl
  clear hy hb
  refine hK.out _ _ ?_; clear hK K
  (try simp only [Act.put, List.getElem_toArray, List.getElem_cons_zero, List.getElem_cons_succ, List.setIfInBounds_toArray, List.set_cons_zero, List.set_cons_succ])
  refine Kr.seqS (fun K hK => ?_)
  go_simp
  obtain ⟨y2, hy⟩ : ∃ y, y1.alloc (.cells #[.slice pp np cp] 24) = y := ⟨_, rfl⟩
  obtain ⟨bp, hb⟩ : ∃ b, y1.heap.size = b := ⟨_, rfl⟩
  rw [hy, hb]
  replace H := H.alloc hy hb rfl
  clear hy hb
  refine hK.out _ _ ?_; clear hK K
  (try simp only [Act.put, List.getElem_toArray, List.getElem_cons_zero, List.getElem_cons_succ, List.setIfInBounds_toArray, List.set_cons_zero, List.set_cons_succ])
  refine Kr.seqS (fun K hK => ?_)
  go_simp
  obtain ⟨y3, hy⟩ : ∃ y, y2.alloc (.cells #[.slice pb nb cb] 24) = y := ⟨_, rfl⟩
  obtain ⟨bb, hb⟩ : ∃ b, y2.heap.size = b := ⟨_, rfl⟩
  rw [hy, hb]
  replace H := H.alloc hy hb rfl
  clear hy hb
  refine hK.out _ _ ?_; clear hK K
  (try simp only [Act.put, List.getElem_toArray, List.getElem_cons_zero, List.getElem_cons_succ, List.setIfInBounds_toArray, List.set_cons_zero, List.set_cons_succ])
  refine Kr.seqS (fun K hK => ?_)
  go_simp
  obtain ⟨y4, hy⟩ : ∃ y, y3.alloc (.cells #[.slice pq nq cq] 24) = y := ⟨_, rfl⟩
  obtain ⟨bq, hb⟩ : ∃ b, y3.heap.size = b := ⟨_, rfl⟩
  rw [hy, hb]
  replace H := H.alloc hy hb rfl
  clear hy hb
  refine hK.out _ _ ?_; clear hK K
  (try simp only [Act.put, List.getElem_toArray, List.getElem_cons_zero, List.getElem_cons_succ, List.setIfInBounds_toArray, List.set_cons_zero, List.set_cons_succ])
  refine Kr.seqS (fun K hK => ?_)
  go_simp
  obtain ⟨y5, hy⟩ : ∃ y, y4.alloc (.cells #[.slice none 0 0] 24) = y := ⟨_, rfl⟩
  obtain ⟨br, hb⟩ : ∃ b, y4.heap.size = b := ⟨_, rfl⟩
  rw [hy, hb]
  replace H := H.alloc hy hb rfl
  clear hy hb
  refine hK.out _ _ ?_; clear hK K
  (try simp only [Act.put, List.getElem_toArray, List.getElem_cons_zero, List.getElem_cons_succ, List.setIfInBounds_toArray, List.set_cons_zero, List.set_cons_succ])
  (refine Kr.seqP (v := ?_) (by rfl) ?_ ?_; rotate_left; (focus (go_simp; first | done | rfl)); (try simp only [Act.put, List.getElem_toArray, List.getElem_cons_zero, List.getElem_cons_succ, List.setIfInBounds_toArray, List.set_cons_zero, List.set_cons_succ]))
  refine Kr.seqDone ?_
  go_upto_region 1 with fail
  refine Kr.seqStart ?_
  have hk := H.c
  simp only [Kr.Cells] at hk
  iterate 4 (refine Kr.seqP (v := ?_) (by rfl) ?_ ?_; rotate_left; (focus (go_simp; first | done | rfl)); (try simp only [Act.put, List.getElem_toArray, List.getElem_cons_zero, List.getElem_cons_succ, List.setIfInBounds_toArray, List.set_cons_zero, List.set_cons_succ]))
  refine Kr.seqS (fun K hK => ?_)
  go_simp
  go_at_call 70
  refine (HC.out _ H.g).mono ?_
  rintro e y6 ⟨rfl, hg⟩
  clear hk
  replace H := H.grow hg
  clear hg
  refine hK.out _ _ ?_; clear hK K
  (try simp only [Act.put, List.getElem_toArray, List.getElem_cons_zero, List.getElem_cons_succ, List.setIfInBounds_toArray, List.set_cons_zero, List.set_cons_succ])
  (refine Kr.seqP (v := ?_) (by rfl) ?_ ?_; rotate_left; (focus (go_simp; first | done | rfl)); (try simp only [Act.put, List.getElem_toArray, List.getElem_cons_zero, List.getElem_cons_succ, List.setIfInBounds_toArray, List.set_cons_zero, List.set_cons_succ]))
  refine Kr.seqDone ?_
  go_upto_region 2 with fail
  refine Kr.seqStart ?_
  iterate 2 (refine Kr.seqP (v := ?_) (by rfl) ?_ ?_; rotate_left; (focus (go_simp; first | done | rfl)); (try simp only [Act.put, List.getElem_toArray, List.getElem_cons_zero, List.getElem_cons_succ, List.setIfInBounds_toArray, List.set_cons_zero, List.set_cons_succ]))
  refine Kr.seqDone ?_
  go_upto_region 4 with fail
  go_cut [11, 12] from 26 to 33 (fun s11 s12 W => ∃ (bi : Nat) (pi : Option Addr) (ni ci : Nat) (p14 : Option Addr) (n14 c14 : Nat) (z : Nat), s11 = .pointer (some ⟨bi, 0, none⟩) ∧ s12 = .bool true ∧ Hid (IsInv (p % q) q z) ∧ Hid (Sta w W [(bi, 0, .slice pi ni ci), (br, 0, .slice none 0 0), (bq, 0, .slice pq nq cq), (bb, 0, .slice pb nb cb), (bp, 0, .slice pp np cp), (ba, 0, .slice pa na ca)] [N pi ni ci (z), N p14 n14 c14 (p % q), N pq nq cq (q), N pb nb cb (b), N pp np cp (p), N pa na ca (a)]))
  case first =>
    refine Kr.startL (fun W' => Kr.Cells W' [(bp, 0, .slice pp np cp), (bq, 0, .slice pq nq cq)]) [] (by kernel_rfl) ?_
    have gd : Gr y6 y6.drew := (Gr.refl _).drew
    generalize y6.drew = d7 at gd ⊢
    replace H := H.grow gd
    clear gd
    (refine Kr.tS 0 [] (v := ?_) rfl (by kernel_rfl) (fun _ _ _ h => h) (by rfl) (H.sub [3, 1] rfl) (fun wx hSx => ?_) ?_; rotate_left; (focus (simp only [Kr.Cells] at hSx; go_simp; first | done | rfl)); (try simp only [Act.put, List.getElem_toArray, List.getElem_cons_zero, List.getElem_cons_succ, List.setIfInBounds_toArray, List.set_cons_zero, List.set_cons_succ]))
    (refine Kr.tS 1 [] (v := ?_) rfl (by kernel_rfl) (fun _ _ _ h => h) (by rfl) (H.sub [3, 1] rfl) (fun wx hSx => ?_) ?_; rotate_left; (focus (simp only [Kr.Cells] at hSx; go_simp; first | done | rfl)); (try simp only [Act.put, List.getElem_toArray, List.getElem_cons_zero, List.getElem_cons_succ, List.setIfInBounds_toArray, List.set_cons_zero, List.set_cons_succ]))
    (refine Kr.tS 3 [] (v := ?_) rfl (by kernel_rfl) (fun _ _ _ h => h) (by rfl) (H.sub [3, 1] rfl) (fun wx hSx => ?_) ?_; rotate_left; (focus (simp only [Kr.Cells] at hSx; go_simp; first | done | rfl)); (try simp only [Act.put, List.getElem_toArray, List.getElem_cons_zero, List.getElem_cons_succ, List.setIfInBounds_toArray, List.set_cons_zero, List.set_cons_succ]))
    refine Kr.readyL (rs := [2, 8]) (by kernel_rfl) (by simp) ?_
    refine Kr.AllL.cons rfl (fun K hK => ?_) ?_
    · go_simp
      go_at_call 71
      refine (mrest_v (H.nw 2 rfl) (H.nw 0 rfl) (lt64 Hvp.out) (lt64 Hvq.out) Hq0.out).mono ?_
      rintro e y8 ⟨p8, n8, c8, rfl, hr, hg⟩
      replace H := H.grow hg
      replace H := H.num hr.toNw
      clear hr hg
      refine hK.out _ _ (fun _ => (H.sub [3, 1] rfl)) ?_; clear hK K
      (try simp only [Act.put, List.getElem_toArray, List.getElem_cons_zero, List.getElem_cons_succ, List.setIfInBounds_toArray, List.set_cons_zero, List.set_cons_succ])
      refine Kr.readyL (rs := [4, 8]) (by kernel_rfl) (by simp) ?_
      refine Kr.AllL.cons rfl (fun K hK => ?_) ?_
      · go_simp
        go_at_call 88
        refine (invert_v (H.nw 0 rfl) (H.nw 1 rfl) (Nat.mod_lt _ Hq0.out) Hvq.out).mono ?_
        rintro e yi ⟨pi, ni, ci, z, rfl, h1, h2, hr, hg⟩
        rw [decide_eq_true Hhg1.out]
        have HI := Lib.hid (h1 Hhg1.out)
        replace H := H.grow hg
        replace H := H.num hr
        clear hr hg h1 h2
        refine hK.out _ _ (fun _ => (H.sub [3, 1] rfl)) ?_; clear hK K
        (try simp only [Act.put, List.getElem_toArray, List.getElem_cons_zero, List.getElem_cons_succ, List.setIfInBounds_toArray, List.set_cons_zero, List.set_cons_succ])
        (refine Kr.tP 5 (v := ?_) rfl (by kernel_rfl) (fun _ _ _ h => h) (by rfl) (fun _ => (H.sub [3, 1] rfl)) (fun wx => ?_) ?_; rotate_left; (focus (go_simp; first | done | rfl)); (try simp only [Act.put, List.getElem_toArray, List.getElem_cons_zero, List.getElem_cons_succ, List.setIfInBounds_toArray, List.set_cons_zero, List.set_cons_succ]))
        (refine Kr.tP 6 (v := ?_) rfl (by kernel_rfl) (fun _ _ _ h => h) (by rfl) (fun _ => (H.sub [3, 1] rfl)) (fun wx => ?_) ?_; rotate_left; (focus (go_simp; first | done | rfl)); (try simp only [Act.put, List.getElem_toArray, List.getElem_cons_zero, List.getElem_cons_succ, List.setIfInBounds_toArray, List.set_cons_zero, List.set_cons_succ]))
        (refine Kr.tP 7 (v := ?_) rfl (by kernel_rfl) (fun _ _ _ h => h) (by rfl) (fun _ => (H.sub [3, 1] rfl)) (fun wx => ?_) ?_; rotate_left; (focus (go_simp; first | done | rfl)); (try simp only [Act.put, List.getElem_toArray, List.getElem_cons_zero, List.getElem_cons_succ, List.setIfInBounds_toArray, List.set_cons_zero, List.set_cons_succ]))
        refine Kr.readyL (rs := [8]) (by kernel_rfl) (by simp) ?_
        refine Kr.AllL.cons rfl (fun K hK => ?_) Kr.AllL.nil
        go_simp
        obtain ⟨y9, hy⟩ : ∃ y, yi.alloc (.cells #[.slice none 0 0] 24) = y := ⟨_, rfl⟩
        obtain ⟨bi, hb⟩ : ∃ b, yi.heap.size = b := ⟨_, rfl⟩
        rw [hy, hb]
        replace H := H.alloc hy hb rfl
        clear hy hb
        refine hK.out _ _ (fun _ => (H.sub [4, 2] rfl)) ?_; clear hK K
        (try simp only [Act.put, List.getElem_toArray, List.getElem_cons_zero, List.getElem_cons_succ, List.setIfInBounds_toArray, List.set_cons_zero, List.set_cons_succ])
        refine Kr.readyL (rs := [9]) (by kernel_rfl) (by simp) ?_
        refine Kr.AllL.cons rfl (fun K hK => ?_) Kr.AllL.nil
        have hk := H.c
        simp only [Kr.Cells] at hk
        go_simp
        clear hk
        obtain ⟨y10, hy⟩ : ∃ y, y9.setCell ⟨bi, 0, none⟩ (.slice pi ni ci) = y := ⟨_, rfl⟩
        rw [hy]
        replace H := H.store 0 hy rfl rfl
        dsimp only [List.set] at H
        clear hy
        refine hK.out _ _ (fun _ => (H.sub [4, 2] rfl)) ?_; clear hK K
        (try simp only [Act.put, List.getElem_toArray, List.getElem_cons_zero, List.getElem_cons_succ, List.setIfInBounds_toArray, List.set_cons_zero, List.set_cons_succ])
        (refine Kr.tP 10 (v := ?_) rfl (by kernel_rfl) (fun _ _ _ h => h) (by rfl) (fun _ => (H.sub [4, 2] rfl)) (fun wx => ?_) ?_; rotate_left; (focus (go_simp; first | done | rfl)); (try simp only [Act.put, List.getElem_toArray, List.getElem_cons_zero, List.getElem_cons_succ, List.setIfInBounds_toArray, List.set_cons_zero, List.set_cons_succ]))
        refine Kr.doneL (by kernel_rfl) ?_ _
        go_wp2_with fail
        go_meet
        exact ⟨_, _, _, _, _, _, _, _, rfl, rfl, HI, Lib.hid H⟩
      refine Kr.AllL.cons rfl (fun K hK => ?_) Kr.AllL.nil
      go_simp
      obtain ⟨y11, hy⟩ : ∃ y, y8.alloc (.cells #[.slice none 0 0] 24) = y := ⟨_, rfl⟩
      obtain ⟨bi, hb⟩ : ∃ b, y8.heap.size = b := ⟨_, rfl⟩
      rw [hy, hb]
      replace H := H.alloc hy hb rfl
      clear hy hb
      refine hK.out _ _ (fun _ => (H.sub [4, 2] rfl)) ?_; clear hK K
      (try simp only [Act.put, List.getElem_toArray, List.getElem_cons_zero, List.getElem_cons_succ, List.setIfInBounds_toArray, List.set_cons_zero, List.set_cons_succ])
      refine Kr.readyL (rs := [4]) (by kernel_rfl) (by simp) ?_
      refine Kr.AllL.cons rfl (fun K hK => ?_) Kr.AllL.nil
      go_simp
      go_at_call 88
      refine (invert_v (H.nw 0 rfl) (H.nw 1 rfl) (Nat.mod_lt _ Hq0.out) Hvq.out).mono ?_
      rintro e yi ⟨pi, ni, ci, z, rfl, h1, h2, hr, hg⟩
      rw [decide_eq_true Hhg1.out]
      have HI := Lib.hid (h1 Hhg1.out)
      replace H := H.grow hg
      replace H := H.num hr
      clear hr hg h1 h2
      refine hK.out _ _ (fun _ => (H.sub [4, 2] rfl)) ?_; clear hK K
      (try simp only [Act.put, List.getElem_toArray, List.getElem_cons_zero, List.getElem_cons_succ, List.setIfInBounds_toArray, List.set_cons_zero, List.set_cons_succ])
      (refine Kr.tP 5 (v := ?_) rfl (by kernel_rfl) (fun _ _ _ h => h) (by rfl) (fun _ => (H.sub [4, 2] rfl)) (fun wx => ?_) ?_; rotate_left; (focus (go_simp; first | done | rfl)); (try simp only [Act.put, List.getElem_toArray, List.getElem_cons_zero, List.getElem_cons_succ, List.setIfInBounds_toArray, List.set_cons_zero, List.set_cons_succ]))
      (refine Kr.tP 6 (v := ?_) rfl (by kernel_rfl) (fun _ _ _ h => h) (by rfl) (fun _ => (H.sub [4, 2] rfl)) (fun wx => ?_) ?_; rotate_left; (focus (go_simp; first | done | rfl)); (try simp only [Act.put, List.getElem_toArray, List.getElem_cons_zero, List.getElem_cons_succ, List.setIfInBounds_toArray, List.set_cons_zero, List.set_cons_succ]))
      (refine Kr.tP 7 (v := ?_) rfl (by kernel_rfl) (fun _ _ _ h => h) (by rfl) (fun _ => (H.sub [4, 2] rfl)) (fun wx => ?_) ?_; rotate_left; (focus (go_simp; first | done | rfl)); (try simp only [Act.put, List.getElem_toArray, List.getElem_cons_zero, List.getElem_cons_succ, List.setIfInBounds_toArray, List.set_cons_zero, List.set_cons_succ]))
      refine Kr.readyL (rs := [9]) (by kernel_rfl) (by simp) ?_
      refine Kr.AllL.cons rfl (fun K hK => ?_) Kr.AllL.nil
      have hk := H.c
      simp only [Kr.Cells] at hk
      go_simp
      clear hk
      obtain ⟨y12, hy⟩ : ∃ y, yi.setCell ⟨bi, 0, none⟩ (.slice pi ni ci) = y := ⟨_, rfl⟩
      rw [hy]
      replace H := H.store 0 hy rfl rfl
      dsimp only [List.set] at H
      clear hy
      refine hK.out _ _ (fun _ => (H.sub [4, 2] rfl)) ?_; clear hK K
      (try simp only [Act.put, List.getElem_toArray, List.getElem_cons_zero, List.getElem_cons_succ, List.setIfInBounds_toArray, List.set_cons_zero, List.set_cons_succ])
      (refine Kr.tP 10 (v := ?_) rfl (by kernel_rfl) (fun _ _ _ h => h) (by rfl) (fun _ => (H.sub [4, 2] rfl)) (fun wx => ?_) ?_; rotate_left; (focus (go_simp; first | done | rfl)); (try simp only [Act.put, List.getElem_toArray, List.getElem_cons_zero, List.getElem_cons_succ, List.setIfInBounds_toArray, List.set_cons_zero, List.set_cons_succ]))
      refine Kr.doneL (by kernel_rfl) ?_ _
      go_wp2_with fail
      go_meet
      exact ⟨_, _, _, _, _, _, _, _, rfl, rfl, HI, Lib.hid H⟩
    refine Kr.AllL.cons rfl (fun K hK => ?_) Kr.AllL.nil
    go_simp
    obtain ⟨y13, hy⟩ : ∃ y, d7.alloc (.cells #[.slice none 0 0] 24) = y := ⟨_, rfl⟩
    obtain ⟨bi, hb⟩ : ∃ b, d7.heap.size = b := ⟨_, rfl⟩
    rw [hy, hb]
    replace H := H.alloc hy hb rfl
    clear hy hb
    refine hK.out _ _ (fun _ => (H.sub [4, 2] rfl)) ?_; clear hK K
    (try simp only [Act.put, List.getElem_toArray, List.getElem_cons_zero, List.getElem_cons_succ, List.setIfInBounds_toArray, List.set_cons_zero, List.set_cons_succ])
    refine Kr.readyL (rs := [2]) (by kernel_rfl) (by simp) ?_
    refine Kr.AllL.cons rfl (fun K hK => ?_) Kr.AllL.nil
    go_simp
    go_at_call 71
    refine (mrest_v (H.nw 2 rfl) (H.nw 0 rfl) (lt64 Hvp.out) (lt64 Hvq.out) Hq0.out).mono ?_
    rintro e y14 ⟨p14, n14, c14, rfl, hr, hg⟩
    replace H := H.grow hg
    replace H := H.num hr.toNw
    clear hr hg
    refine hK.out _ _ (fun _ => (H.sub [4, 2] rfl)) ?_; clear hK K
    (try simp only [Act.put, List.getElem_toArray, List.getElem_cons_zero, List.getElem_cons_succ, List.setIfInBounds_toArray, List.set_cons_zero, List.set_cons_succ])
    refine Kr.readyL (rs := [4]) (by kernel_rfl) (by simp) ?_
    refine Kr.AllL.cons rfl (fun K hK => ?_) Kr.AllL.nil
    go_simp
    go_at_call 88
    refine (invert_v (H.nw 0 rfl) (H.nw 1 rfl) (Nat.mod_lt _ Hq0.out) Hvq.out).mono ?_
    rintro e yi ⟨pi, ni, ci, z, rfl, h1, h2, hr, hg⟩
    rw [decide_eq_true Hhg1.out]
    have HI := Lib.hid (h1 Hhg1.out)
    replace H := H.grow hg
    replace H := H.num hr
    clear hr hg h1 h2
    refine hK.out _ _ (fun _ => (H.sub [4, 2] rfl)) ?_; clear hK K
    (try simp only [Act.put, List.getElem_toArray, List.getElem_cons_zero, List.getElem_cons_succ, List.setIfInBounds_toArray, List.set_cons_zero, List.set_cons_succ])
    (refine Kr.tP 5 (v := ?_) rfl (by kernel_rfl) (fun _ _ _ h => h) (by rfl) (fun _ => (H.sub [4, 2] rfl)) (fun wx => ?_) ?_; rotate_left; (focus (go_simp; first | done | rfl)); (try simp only [Act.put, List.getElem_toArray, List.getElem_cons_zero, List.getElem_cons_succ, List.setIfInBounds_toArray, List.set_cons_zero, List.set_cons_succ]))
    (refine Kr.tP 6 (v := ?_) rfl (by kernel_rfl) (fun _ _ _ h => h) (by rfl) (fun _ => (H.sub [4, 2] rfl)) (fun wx => ?_) ?_; rotate_left; (focus (go_simp; first | done | rfl)); (try simp only [Act.put, List.getElem_toArray, List.getElem_cons_zero, List.getElem_cons_succ, List.setIfInBounds_toArray, List.set_cons_zero, List.set_cons_succ]))
    (refine Kr.tP 7 (v := ?_) rfl (by kernel_rfl) (fun _ _ _ h => h) (by rfl) (fun _ => (H.sub [4, 2] rfl)) (fun wx => ?_) ?_; rotate_left; (focus (go_simp; first | done | rfl)); (try simp only [Act.put, List.getElem_toArray, List.getElem_cons_zero, List.getElem_cons_succ, List.setIfInBounds_toArray, List.set_cons_zero, List.set_cons_succ]))
    refine Kr.readyL (rs := [9]) (by kernel_rfl) (by simp) ?_
    refine Kr.AllL.cons rfl (fun K hK => ?_) Kr.AllL.nil
    have hk := H.c
    simp only [Kr.Cells] at hk
    go_simp
    clear hk
    obtain ⟨y15, hy⟩ : ∃ y, yi.setCell ⟨bi, 0, none⟩ (.slice pi ni ci) = y := ⟨_, rfl⟩
    rw [hy]
    replace H := H.store 0 hy rfl rfl
    dsimp only [List.set] at H
    clear hy
    refine hK.out _ _ (fun _ => (H.sub [4, 2] rfl)) ?_; clear hK K
    (try simp only [Act.put, List.getElem_toArray, List.getElem_cons_zero, List.getElem_cons_succ, List.setIfInBounds_toArray, List.set_cons_zero, List.set_cons_succ])
    (refine Kr.tP 10 (v := ?_) rfl (by kernel_rfl) (fun _ _ _ h => h) (by rfl) (fun _ => (H.sub [4, 2] rfl)) (fun wx => ?_) ?_; rotate_left; (focus (go_simp; first | done | rfl)); (try simp only [Act.put, List.getElem_toArray, List.getElem_cons_zero, List.getElem_cons_succ, List.setIfInBounds_toArray, List.set_cons_zero, List.set_cons_succ]))
    refine Kr.doneL (by kernel_rfl) ?_ _
    go_wp2_with fail
    go_meet
    exact ⟨_, _, _, _, _, _, _, _, rfl, rfl, HI, Lib.hid H⟩
  case rest =>
    clear H
    obtain ⟨bi, pi, ni, ci, p14, n14, c14, z, rfl, rfl, HI, HH⟩ := hcut
    have H := HH.out
    clear HH
    go_upto_region 5 with fail
    refine Kr.seqStart ?_
    iterate 3 (refine Kr.seqP (v := ?_) (by rfl) ?_ ?_; rotate_left; (focus (go_simp; first | done | rfl)); (try simp only [Act.put, List.getElem_toArray, List.getElem_cons_zero, List.getElem_cons_succ, List.setIfInBounds_toArray, List.set_cons_zero, List.set_cons_succ]))
    refine Kr.seqDone ?_
    go_upto_region 7 with fail
    refine Kr.seqStart ?_
    have hk := H.c
    simp only [Kr.Cells] at hk
    iterate 2 (refine Kr.seqP (v := ?_) (by rfl) ?_ ?_; rotate_left; (focus (go_simp; first | done | rfl)); (try simp only [Act.put, List.getElem_toArray, List.getElem_cons_zero, List.getElem_cons_succ, List.setIfInBounds_toArray, List.set_cons_zero, List.set_cons_succ]))
    refine Kr.seqS (fun K hK => ?_)
    go_simp
    go_at_call 79
    refine (mtimes_v (H.nw 4 rfl) (H.nw 2 rfl) (lt64 Hvp.out) (lt64 Hvq.out) HPQ.out).mono ?_
    rintro e y16 ⟨p16, n16, c16, rfl, hr, hg⟩
    clear hk
    replace H := H.grow hg
    replace H := H.num hr.toNw
    clear hr hg
    refine hK.out _ _ ?_; clear hK K
    (try simp only [Act.put, List.getElem_toArray, List.getElem_cons_zero, List.getElem_cons_succ, List.setIfInBounds_toArray, List.set_cons_zero, List.set_cons_succ])
    refine Kr.seqS (fun K hK => ?_)
    go_simp
    go_at_call 90
    refine (isModulus_any (H.nw 0 rfl)).mono ?_
    rintro e y17 ⟨rfl, hg⟩
    rw [HIM.out]
    replace H := H.grow hg
    clear hg
    refine hK.out _ _ ?_; clear hK K
    (try simp only [Act.put, List.getElem_toArray, List.getElem_cons_zero, List.getElem_cons_succ, List.setIfInBounds_toArray, List.set_cons_zero, List.set_cons_succ])
    iterate 2 (refine Kr.seqP (v := ?_) (by rfl) ?_ ?_; rotate_left; (focus (go_simp; first | done | rfl)); (try simp only [Act.put, List.getElem_toArray, List.getElem_cons_zero, List.getElem_cons_succ, List.setIfInBounds_toArray, List.set_cons_zero, List.set_cons_succ]))
    refine Kr.seqDone ?_
    go_upto_region 9 with fail
    go_cut [13, 14] from 45 to 53 (fun s13 s14 W => ∃ (bg : Nat) (p28 : Option Addr) (n28 c28 : Nat) (p27 : Option Addr) (n27 c27 : Nat), s13 = .pointer (some ⟨bg, 0, none⟩) ∧ s14 = .int .i64 0 ∧ Hid (Sta w W [(bg, 0, .slice p28 n28 c28), (bi, 0, .slice pi ni ci), (br, 0, .slice none 0 0), (bq, 0, .slice pq nq cq), (bb, 0, .slice pb nb cb), (bp, 0, .slice pp np cp), (ba, 0, .slice pa na ca)] [N p28 n28 c28 ((b + q - a % q) % q), N p27 n27 c27 (a % q), N p16 n16 c16 (p * q), N pi ni ci (z), N p14 n14 c14 (p % q), N pq nq cq (q), N pb nb cb (b), N pp np cp (p), N pa na ca (a)]))
    case first =>
      refine Kr.startL (fun W' => Kr.Cells W' [(bb, 0, .slice pb nb cb), (ba, 0, .slice pa na ca), (bq, 0, .slice pq nq cq)]) [] (by kernel_rfl) ?_
      have gd : Gr y17 y17.drew := (Gr.refl _).drew
      generalize y17.drew = d18 at gd ⊢
      replace H := H.grow gd
      clear gd
      (refine Kr.tS 0 [] (v := ?_) rfl (by kernel_rfl) (fun _ _ _ h => h) (by rfl) (H.sub [3, 5, 2] rfl) (fun wx hSx => ?_) ?_; rotate_left; (focus (simp only [Kr.Cells] at hSx; go_simp; first | done | rfl)); (try simp only [Act.put, List.getElem_toArray, List.getElem_cons_zero, List.getElem_cons_succ, List.setIfInBounds_toArray, List.set_cons_zero, List.set_cons_succ]))
      (refine Kr.tS 1 [] (v := ?_) rfl (by kernel_rfl) (fun _ _ _ h => h) (by rfl) (H.sub [3, 5, 2] rfl) (fun wx hSx => ?_) ?_; rotate_left; (focus (simp only [Kr.Cells] at hSx; go_simp; first | done | rfl)); (try simp only [Act.put, List.getElem_toArray, List.getElem_cons_zero, List.getElem_cons_succ, List.setIfInBounds_toArray, List.set_cons_zero, List.set_cons_succ]))
      (refine Kr.tS 2 [] (v := ?_) rfl (by kernel_rfl) (fun _ _ _ h => h) (by rfl) (H.sub [3, 5, 2] rfl) (fun wx hSx => ?_) ?_; rotate_left; (focus (simp only [Kr.Cells] at hSx; go_simp; first | done | rfl)); (try simp only [Act.put, List.getElem_toArray, List.getElem_cons_zero, List.getElem_cons_succ, List.setIfInBounds_toArray, List.set_cons_zero, List.set_cons_succ]))
      (refine Kr.tS 4 [] (v := ?_) rfl (by kernel_rfl) (fun _ _ _ h => h) (by rfl) (H.sub [3, 5, 2] rfl) (fun wx hSx => ?_) ?_; rotate_left; (focus (simp only [Kr.Cells] at hSx; go_simp; first | done | rfl)); (try simp only [Act.put, List.getElem_toArray, List.getElem_cons_zero, List.getElem_cons_succ, List.setIfInBounds_toArray, List.set_cons_zero, List.set_cons_succ]))
      refine Kr.readyL (rs := [3, 9]) (by kernel_rfl) (by simp) ?_
      refine Kr.AllL.cons rfl (fun K hK => ?_) ?_
      · go_simp
        go_at_call 71
        refine (mrest_v (H.nw 6 rfl) (H.nw 3 rfl) (lt64 (Nat.lt_trans Hva.out Hvp.out)) (lt64 Hvq.out) Hq0.out).mono ?_
        rintro e y19 ⟨p19, n19, c19, rfl, hr, hg⟩
        replace H := H.grow hg
        replace H := H.num hr.toNw
        clear hr hg
        refine hK.out _ _ (fun _ => (H.sub [3, 5, 2] rfl)) ?_; clear hK K
        (try simp only [Act.put, List.getElem_toArray, List.getElem_cons_zero, List.getElem_cons_succ, List.setIfInBounds_toArray, List.set_cons_zero, List.set_cons_succ])
        refine Kr.readyL (rs := [5, 9]) (by kernel_rfl) (by simp) ?_
        refine Kr.AllL.cons rfl (fun K hK => ?_) ?_
        · go_simp
          go_at_call 21
          refine (mSub_v (H.nw 5 rfl) (H.nw 0 rfl) (H.nw 4 rfl) Hvb.out (Nat.mod_lt _ Hq0.out) Hvq.out).mono ?_
          rintro e y20 ⟨p20, n20, c20, rfl, hr, hg⟩
          replace H := H.grow hg
          replace H := H.num hr.toNw
          clear hr hg
          refine hK.out _ _ (fun _ => (H.sub [3, 5, 2] rfl)) ?_; clear hK K
          (try simp only [Act.put, List.getElem_toArray, List.getElem_cons_zero, List.getElem_cons_succ, List.setIfInBounds_toArray, List.set_cons_zero, List.set_cons_succ])
          (refine Kr.tP 6 (v := ?_) rfl (by kernel_rfl) (fun _ _ _ h => h) (by rfl) (fun _ => (H.sub [3, 5, 2] rfl)) (fun wx => ?_) ?_; rotate_left; (focus (go_simp; first | done | rfl)); (try simp only [Act.put, List.getElem_toArray, List.getElem_cons_zero, List.getElem_cons_succ, List.setIfInBounds_toArray, List.set_cons_zero, List.set_cons_succ]))
          (refine Kr.tP 7 (v := ?_) rfl (by kernel_rfl) (fun _ _ _ h => h) (by rfl) (fun _ => (H.sub [3, 5, 2] rfl)) (fun wx => ?_) ?_; rotate_left; (focus (go_simp; first | done | rfl)); (try simp only [Act.put, List.getElem_toArray, List.getElem_cons_zero, List.getElem_cons_succ, List.setIfInBounds_toArray, List.set_cons_zero, List.set_cons_succ]))
          (refine Kr.tP 8 (v := ?_) rfl (by kernel_rfl) (fun _ _ _ h => h) (by rfl) (fun _ => (H.sub [3, 5, 2] rfl)) (fun wx => ?_) ?_; rotate_left; (focus (go_simp; first | done | rfl)); (try simp only [Act.put, List.getElem_toArray, List.getElem_cons_zero, List.getElem_cons_succ, List.setIfInBounds_toArray, List.set_cons_zero, List.set_cons_succ]))
          refine Kr.readyL (rs := [9]) (by kernel_rfl) (by simp) ?_
          refine Kr.AllL.cons rfl (fun K hK => ?_) Kr.AllL.nil
          go_simp
          obtain ⟨y21, hy⟩ : ∃ y, y20.alloc (.cells #[.slice none 0 0] 24) = y := ⟨_, rfl⟩
          obtain ⟨bg, hb⟩ : ∃ b, y20.heap.size = b := ⟨_, rfl⟩
          rw [hy, hb]
          replace H := H.alloc hy hb rfl
          clear hy hb
          refine hK.out _ _ (fun _ => (H.sub [4, 6, 3] rfl)) ?_; clear hK K
          (try simp only [Act.put, List.getElem_toArray, List.getElem_cons_zero, List.getElem_cons_succ, List.setIfInBounds_toArray, List.set_cons_zero, List.set_cons_succ])
          refine Kr.readyL (rs := [10]) (by kernel_rfl) (by simp) ?_
          refine Kr.AllL.cons rfl (fun K hK => ?_) Kr.AllL.nil
          have hk := H.c
          simp only [Kr.Cells] at hk
          go_simp
          clear hk
          obtain ⟨y22, hy⟩ : ∃ y, y21.setCell ⟨bg, 0, none⟩ (.slice p20 n20 c20) = y := ⟨_, rfl⟩
          rw [hy]
          replace H := H.store 0 hy rfl rfl
          dsimp only [List.set] at H
          clear hy
          refine hK.out _ _ (fun _ => (H.sub [4, 6, 3] rfl)) ?_; clear hK K
          (try simp only [Act.put, List.getElem_toArray, List.getElem_cons_zero, List.getElem_cons_succ, List.setIfInBounds_toArray, List.set_cons_zero, List.set_cons_succ])
          (refine Kr.tP 11 (v := ?_) rfl (by kernel_rfl) (fun _ _ _ h => h) (by rfl) (fun _ => (H.sub [4, 6, 3] rfl)) (fun wx => ?_) ?_; rotate_left; (focus (go_simp; first | done | rfl)); (try simp only [Act.put, List.getElem_toArray, List.getElem_cons_zero, List.getElem_cons_succ, List.setIfInBounds_toArray, List.set_cons_zero, List.set_cons_succ]))
          refine Kr.doneL (by kernel_rfl) ?_ _
          go_wp2_with fail
          go_meet
          exact ⟨_, _, _, _, _, _, _, rfl, rfl, Lib.hid H⟩
        refine Kr.AllL.cons rfl (fun K hK => ?_) Kr.AllL.nil
        go_simp
        obtain ⟨y23, hy⟩ : ∃ y, y19.alloc (.cells #[.slice none 0 0] 24) = y := ⟨_, rfl⟩
        obtain ⟨bg, hb⟩ : ∃ b, y19.heap.size = b := ⟨_, rfl⟩
        rw [hy, hb]
        replace H := H.alloc hy hb rfl
        clear hy hb
        refine hK.out _ _ (fun _ => (H.sub [4, 6, 3] rfl)) ?_; clear hK K
        (try simp only [Act.put, List.getElem_toArray, List.getElem_cons_zero, List.getElem_cons_succ, List.setIfInBounds_toArray, List.set_cons_zero, List.set_cons_succ])
        refine Kr.readyL (rs := [5]) (by kernel_rfl) (by simp) ?_
        refine Kr.AllL.cons rfl (fun K hK => ?_) Kr.AllL.nil
        go_simp
        go_at_call 21
        refine (mSub_v (H.nw 5 rfl) (H.nw 0 rfl) (H.nw 4 rfl) Hvb.out (Nat.mod_lt _ Hq0.out) Hvq.out).mono ?_
        rintro e y24 ⟨p24, n24, c24, rfl, hr, hg⟩
        replace H := H.grow hg
        replace H := H.num hr.toNw
        clear hr hg
        refine hK.out _ _ (fun _ => (H.sub [4, 6, 3] rfl)) ?_; clear hK K
        (try simp only [Act.put, List.getElem_toArray, List.getElem_cons_zero, List.getElem_cons_succ, List.setIfInBounds_toArray, List.set_cons_zero, List.set_cons_succ])
        (refine Kr.tP 6 (v := ?_) rfl (by kernel_rfl) (fun _ _ _ h => h) (by rfl) (fun _ => (H.sub [4, 6, 3] rfl)) (fun wx => ?_) ?_; rotate_left; (focus (go_simp; first | done | rfl)); (try simp only [Act.put, List.getElem_toArray, List.getElem_cons_zero, List.getElem_cons_succ, List.setIfInBounds_toArray, List.set_cons_zero, List.set_cons_succ]))
        (refine Kr.tP 7 (v := ?_) rfl (by kernel_rfl) (fun _ _ _ h => h) (by rfl) (fun _ => (H.sub [4, 6, 3] rfl)) (fun wx => ?_) ?_; rotate_left; (focus (go_simp; first | done | rfl)); (try simp only [Act.put, List.getElem_toArray, List.getElem_cons_zero, List.getElem_cons_succ, List.setIfInBounds_toArray, List.set_cons_zero, List.set_cons_succ]))
        (refine Kr.tP 8 (v := ?_) rfl (by kernel_rfl) (fun _ _ _ h => h) (by rfl) (fun _ => (H.sub [4, 6, 3] rfl)) (fun wx => ?_) ?_; rotate_left; (focus (go_simp; first | done | rfl)); (try simp only [Act.put, List.getElem_toArray, List.getElem_cons_zero, List.getElem_cons_succ, List.setIfInBounds_toArray, List.set_cons_zero, List.set_cons_succ]))
        refine Kr.readyL (rs := [10]) (by kernel_rfl) (by simp) ?_
        refine Kr.AllL.cons rfl (fun K hK => ?_) Kr.AllL.nil
        have hk := H.c
        simp only [Kr.Cells] at hk
        go_simp
        clear hk
        obtain ⟨y25, hy⟩ : ∃ y, y24.setCell ⟨bg, 0, none⟩ (.slice p24 n24 c24) = y := ⟨_, rfl⟩
        rw [hy]
        replace H := H.store 0 hy rfl rfl
        dsimp only [List.set] at H
        clear hy
        refine hK.out _ _ (fun _ => (H.sub [4, 6, 3] rfl)) ?_; clear hK K
        (try simp only [Act.put, List.getElem_toArray, List.getElem_cons_zero, List.getElem_cons_succ, List.setIfInBounds_toArray, List.set_cons_zero, List.set_cons_succ])
        (refine Kr.tP 11 (v := ?_) rfl (by kernel_rfl) (fun _ _ _ h => h) (by rfl) (fun _ => (H.sub [4, 6, 3] rfl)) (fun wx => ?_) ?_; rotate_left; (focus (go_simp; first | done | rfl)); (try simp only [Act.put, List.getElem_toArray, List.getElem_cons_zero, List.getElem_cons_succ, List.setIfInBounds_toArray, List.set_cons_zero, List.set_cons_succ]))
        refine Kr.doneL (by kernel_rfl) ?_ _
        go_wp2_with fail
        go_meet
        exact ⟨_, _, _, _, _, _, _, rfl, rfl, Lib.hid H⟩
      refine Kr.AllL.cons rfl (fun K hK => ?_) Kr.AllL.nil
      go_simp
      obtain ⟨y26, hy⟩ : ∃ y, d18.alloc (.cells #[.slice none 0 0] 24) = y := ⟨_, rfl⟩
      obtain ⟨bg, hb⟩ : ∃ b, d18.heap.size = b := ⟨_, rfl⟩
      rw [hy, hb]
      replace H := H.alloc hy hb rfl
      clear hy hb
      refine hK.out _ _ (fun _ => (H.sub [4, 6, 3] rfl)) ?_; clear hK K
      (try simp only [Act.put, List.getElem_toArray, List.getElem_cons_zero, List.getElem_cons_succ, List.setIfInBounds_toArray, List.set_cons_zero, List.set_cons_succ])
      refine Kr.readyL (rs := [3]) (by kernel_rfl) (by simp) ?_
      refine Kr.AllL.cons rfl (fun K hK => ?_) Kr.AllL.nil
      go_simp
      go_at_call 71
      refine (mrest_v (H.nw 6 rfl) (H.nw 3 rfl) (lt64 (Nat.lt_trans Hva.out Hvp.out)) (lt64 Hvq.out) Hq0.out).mono ?_
      rintro e y27 ⟨p27, n27, c27, rfl, hr, hg⟩
      replace H := H.grow hg
      replace H := H.num hr.toNw
      clear hr hg
      refine hK.out _ _ (fun _ => (H.sub [4, 6, 3] rfl)) ?_; clear hK K
      (try simp only [Act.put, List.getElem_toArray, List.getElem_cons_zero, List.getElem_cons_succ, List.setIfInBounds_toArray, List.set_cons_zero, List.set_cons_succ])
      refine Kr.readyL (rs := [5]) (by kernel_rfl) (by simp) ?_
      refine Kr.AllL.cons rfl (fun K hK => ?_) Kr.AllL.nil
      go_simp
      go_at_call 21
      refine (mSub_v (H.nw 5 rfl) (H.nw 0 rfl) (H.nw 4 rfl) Hvb.out (Nat.mod_lt _ Hq0.out) Hvq.out).mono ?_
      rintro e y28 ⟨p28, n28, c28, rfl, hr, hg⟩
      replace H := H.grow hg
      replace H := H.num hr.toNw
      clear hr hg
      refine hK.out _ _ (fun _ => (H.sub [4, 6, 3] rfl)) ?_; clear hK K
      (try simp only [Act.put, List.getElem_toArray, List.getElem_cons_zero, List.getElem_cons_succ, List.setIfInBounds_toArray, List.set_cons_zero, List.set_cons_succ])
      (refine Kr.tP 6 (v := ?_) rfl (by kernel_rfl) (fun _ _ _ h => h) (by rfl) (fun _ => (H.sub [4, 6, 3] rfl)) (fun wx => ?_) ?_; rotate_left; (focus (go_simp; first | done | rfl)); (try simp only [Act.put, List.getElem_toArray, List.getElem_cons_zero, List.getElem_cons_succ, List.setIfInBounds_toArray, List.set_cons_zero, List.set_cons_succ]))
      (refine Kr.tP 7 (v := ?_) rfl (by kernel_rfl) (fun _ _ _ h => h) (by rfl) (fun _ => (H.sub [4, 6, 3] rfl)) (fun wx => ?_) ?_; rotate_left; (focus (go_simp; first | done | rfl)); (try simp only [Act.put, List.getElem_toArray, List.getElem_cons_zero, List.getElem_cons_succ, List.setIfInBounds_toArray, List.set_cons_zero, List.set_cons_succ]))
      (refine Kr.tP 8 (v := ?_) rfl (by kernel_rfl) (fun _ _ _ h => h) (by rfl) (fun _ => (H.sub [4, 6, 3] rfl)) (fun wx => ?_) ?_; rotate_left; (focus (go_simp; first | done | rfl)); (try simp only [Act.put, List.getElem_toArray, List.getElem_cons_zero, List.getElem_cons_succ, List.setIfInBounds_toArray, List.set_cons_zero, List.set_cons_succ]))
      refine Kr.readyL (rs := [10]) (by kernel_rfl) (by simp) ?_
      refine Kr.AllL.cons rfl (fun K hK => ?_) Kr.AllL.nil
      have hk := H.c
      simp only [Kr.Cells] at hk
      go_simp
      clear hk
      obtain ⟨y29, hy⟩ : ∃ y, y28.setCell ⟨bg, 0, none⟩ (.slice p28 n28 c28) = y := ⟨_, rfl⟩
      rw [hy]
      replace H := H.store 0 hy rfl rfl
      dsimp only [List.set] at H
      clear hy
      refine hK.out _ _ (fun _ => (H.sub [4, 6, 3] rfl)) ?_; clear hK K
      (try simp only [Act.put, List.getElem_toArray, List.getElem_cons_zero, List.getElem_cons_succ, List.setIfInBounds_toArray, List.set_cons_zero, List.set_cons_succ])
      (refine Kr.tP 11 (v := ?_) rfl (by kernel_rfl) (fun _ _ _ h => h) (by rfl) (fun _ => (H.sub [4, 6, 3] rfl)) (fun wx => ?_) ?_; rotate_left; (focus (go_simp; first | done | rfl)); (try simp only [Act.put, List.getElem_toArray, List.getElem_cons_zero, List.getElem_cons_succ, List.setIfInBounds_toArray, List.set_cons_zero, List.set_cons_succ]))
      refine Kr.doneL (by kernel_rfl) ?_ _
      go_wp2_with fail
      go_meet
      exact ⟨_, _, _, _, _, _, _, rfl, rfl, Lib.hid H⟩
    case rest =>
      clear H
      obtain ⟨bg, p28, n28, c28, p27, n27, c27, rfl, rfl, HH⟩ := hcut
      have H := HH.out
      clear HH
      go_upto_region 10 with fail
      refine Kr.seqStart ?_
      have hk := H.c
      simp only [Kr.Cells] at hk
      iterate 3 (refine Kr.seqP (v := ?_) (by rfl) ?_ ?_; rotate_left; (focus (go_simp; first | done | rfl)); (try simp only [Act.put, List.getElem_toArray, List.getElem_cons_zero, List.getElem_cons_succ, List.setIfInBounds_toArray, List.set_cons_zero, List.set_cons_succ]))
      refine Kr.seqS (fun K hK => ?_)
      go_simp
      go_at_call 26
      refine (mMul_v (H.nw 0 rfl) (H.nw 3 rfl) (H.nw 5 rfl) (Nat.mod_lt _ Hq0.out) HI.out.1 Hvq.out).mono ?_
      rintro e y30 ⟨p30, n30, c30, rfl, hr, hg⟩
      clear hk
      replace H := H.grow hg
      replace H := H.num hr.toNw
      clear hr hg
      refine hK.out _ _ ?_; clear hK K
      (try simp only [Act.put, List.getElem_toArray, List.getElem_cons_zero, List.getElem_cons_succ, List.setIfInBounds_toArray, List.set_cons_zero, List.set_cons_succ])
      iterate 3 (refine Kr.seqP (v := ?_) (by rfl) ?_ ?_; rotate_left; (focus (go_simp; first | done | rfl)); (try simp only [Act.put, List.getElem_toArray, List.getElem_cons_zero, List.getElem_cons_succ, List.setIfInBounds_toArray, List.set_cons_zero, List.set_cons_succ]))
      refine Kr.seqS (fun K hK => ?_)
      go_simp
      obtain ⟨y31, hy⟩ : ∃ y, y30.alloc (.cells #[.slice none 0 0] 24) = y := ⟨_, rfl⟩
      obtain ⟨bs, hb⟩ : ∃ b, y30.heap.size = b := ⟨_, rfl⟩
      rw [hy, hb]
      replace H := H.alloc hy hb rfl
      clear hy hb
      refine hK.out _ _ ?_; clear hK K
      (try simp only [Act.put, List.getElem_toArray, List.getElem_cons_zero, List.getElem_cons_succ, List.setIfInBounds_toArray, List.set_cons_zero, List.set_cons_succ])
      have hk := H.c
      simp only [Kr.Cells] at hk
      refine Kr.seqS (fun K hK => ?_)
      go_simp
      clear hk
      obtain ⟨y32, hy⟩ : ∃ y, y31.setCell ⟨bs, 0, none⟩ (.slice p30 n30 c30) = y := ⟨_, rfl⟩
      rw [hy]
      replace H := H.store 0 hy rfl rfl
      dsimp only [List.set] at H
      clear hy
      refine hK.out _ _ ?_; clear hK K
      (try simp only [Act.put, List.getElem_toArray, List.getElem_cons_zero, List.getElem_cons_succ, List.setIfInBounds_toArray, List.set_cons_zero, List.set_cons_succ])
      (refine Kr.seqP (v := ?_) (by rfl) ?_ ?_; rotate_left; (focus (go_simp; first | done | rfl)); (try simp only [Act.put, List.getElem_toArray, List.getElem_cons_zero, List.getElem_cons_succ, List.setIfInBounds_toArray, List.set_cons_zero, List.set_cons_succ]))
      refine Kr.seqDone ?_
      go_upto_region 11 with fail
      refine Kr.startL (fun W' => Kr.Cells W' [(ba, 0, .slice pa na ca), (bp, 0, .slice pp np cp), (bs, 0, .slice p30 n30 c30)]) [] (by kernel_rfl) ?_
      have gd : Gr y32 y32.drew := (Gr.refl _).drew
      generalize y32.drew = d33 at gd ⊢
      replace H := H.grow gd
      clear gd
      (refine Kr.tS 0 [] (v := ?_) rfl (by kernel_rfl) (fun _ _ _ h => h) (by rfl) (H.sub [7, 6, 0] rfl) (fun wx hSx => ?_) ?_; rotate_left; (focus (simp only [Kr.Cells] at hSx; go_simp; first | done | rfl)); (try simp only [Act.put, List.getElem_toArray, List.getElem_cons_zero, List.getElem_cons_succ, List.setIfInBounds_toArray, List.set_cons_zero, List.set_cons_succ]))
      (refine Kr.tS 1 [] (v := ?_) rfl (by kernel_rfl) (fun _ _ _ h => h) (by rfl) (H.sub [7, 6, 0] rfl) (fun wx hSx => ?_) ?_; rotate_left; (focus (simp only [Kr.Cells] at hSx; go_simp; first | done | rfl)); (try simp only [Act.put, List.getElem_toArray, List.getElem_cons_zero, List.getElem_cons_succ, List.setIfInBounds_toArray, List.set_cons_zero, List.set_cons_succ]))
      (refine Kr.tS 2 [] (v := ?_) rfl (by kernel_rfl) (fun _ _ _ h => h) (by rfl) (H.sub [7, 6, 0] rfl) (fun wx hSx => ?_) ?_; rotate_left; (focus (simp only [Kr.Cells] at hSx; go_simp; first | done | rfl)); (try simp only [Act.put, List.getElem_toArray, List.getElem_cons_zero, List.getElem_cons_succ, List.setIfInBounds_toArray, List.set_cons_zero, List.set_cons_succ]))
      refine Kr.readyL (rs := [3]) (by kernel_rfl) (by simp) ?_
      refine Kr.AllL.cons rfl (fun K hK => ?_) Kr.AllL.nil
      go_simp
      go_at_call 79
      refine (mtimes_v (H.nw 8 rfl) (H.nw 0 rfl) (lt64 Hvp.out) (lt64 (Nat.lt_trans (Nat.mod_lt _ Hq0.out) Hvq.out)) (Nat.lt_of_le_of_lt (Nat.mul_le_mul_left p (Nat.le_of_lt (Nat.mod_lt _ Hq0.out))) HPQ.out)).mono ?_
      rintro e y34 ⟨p34, n34, c34, rfl, hr, hg⟩
      replace H := H.grow hg
      replace H := H.num hr.toNw
      clear hr hg
      refine hK.out _ _ (fun _ => (H.sub [7, 6, 0] rfl)) ?_; clear hK K
      (try simp only [Act.put, List.getElem_toArray, List.getElem_cons_zero, List.getElem_cons_succ, List.setIfInBounds_toArray, List.set_cons_zero, List.set_cons_succ])
      refine Kr.readyL (rs := [4]) (by kernel_rfl) (by simp) ?_
      refine Kr.AllL.cons rfl (fun K hK => ?_) Kr.AllL.nil
      go_simp
      go_at_call 72
      refine (mplus_v (H.nw 10 rfl) (H.nw 0 rfl) (lt64 (Nat.lt_trans Hva.out Hvp.out)) (Nat.lt_of_le_of_lt (Nat.mul_le_mul_left p (Nat.le_of_lt (Nat.mod_lt _ Hq0.out))) HPQ.out) (Nat.lt_trans (crt_lt Hva.out (Nat.mod_lt _ Hq0.out)) HPQ.out)).mono ?_
      rintro e y35 ⟨p35, n35, c35, rfl, hr, hg⟩
      replace H := H.grow hg
      replace H := H.num hr.toNw
      clear hr hg
      refine hK.out _ _ (fun _ => (H.sub [7, 6, 0] rfl)) ?_; clear hK K
      (try simp only [Act.put, List.getElem_toArray, List.getElem_cons_zero, List.getElem_cons_succ, List.setIfInBounds_toArray, List.set_cons_zero, List.set_cons_succ])
      refine Kr.readyL (rs := [5]) (by kernel_rfl) (by simp) ?_
      refine Kr.AllL.cons rfl (fun K hK => ?_) Kr.AllL.nil
      have hk := H.c
      simp only [Kr.Cells] at hk
      go_simp
      clear hk
      obtain ⟨y36, hy⟩ : ∃ y, y35.setCell ⟨br, 0, none⟩ (.slice p35 n35 c35) = y := ⟨_, rfl⟩
      rw [hy]
      replace H := H.store 3 hy rfl rfl
      dsimp only [List.set] at H
      clear hy
      refine hK.out _ _ (fun _ => (H.sub [7, 6, 0] rfl)) ?_; clear hK K
      (try simp only [Act.put, List.getElem_toArray, List.getElem_cons_zero, List.getElem_cons_succ, List.setIfInBounds_toArray, List.set_cons_zero, List.set_cons_succ])
      (refine Kr.tP 6 (v := ?_) rfl (by kernel_rfl) (fun _ _ _ h => h) (by rfl) (fun _ => (H.sub [7, 6, 0] rfl)) (fun wx => ?_) ?_; rotate_left; (focus (go_simp; first | done | rfl)); (try simp only [Act.put, List.getElem_toArray, List.getElem_cons_zero, List.getElem_cons_succ, List.setIfInBounds_toArray, List.set_cons_zero, List.set_cons_succ]))
      refine Kr.doneL (by kernel_rfl) ?_ _
      have hk := H.c
      simp only [Kr.Cells] at hk
      go_wp2
      refine bodyPost_ret (v := .tuple #[.agg #[.slice p35 n35 c35], .int .i64 0]) (by simp [results, Try.results35, go_sem, hk]) rfl ⟨z, HI.out, p35, n35, c35, rfl, (H.nw 0 rfl), H.g⟩
end Go.Proofs.Ytlciocebbckdcaa.Mo


/- The contracts of natmod's Pow. -/
namespace Go.Proofs.Ytlciocebbckdcaa.Mo
open Go.RowKit Go.Shelf Go.Proofs.Ytlciocebbckdcaa.Nm Go.Proofs.Ytlciocebbckdcaa.Ne Go.Proofs.Ytlciocebbckdcaa.Nf Go.Proofs.Ytlciocebbckdcaa.Nk Go.Proofs.Ytlciocebbckdcaa.Nv Go.Proofs.Ytlciocebbckdcaa.Nr2 Go.Proofs.Ytlciocebbckdcaa.Mo Go.Proofs.Ytlciocebbckdcaa.Mr Go.Proofs.Ytlciocebbckdcaa.Kr
theorem half_step (e j : Nat) : e / 2 ^ j = 2 * (e / 2 ^ (j + 1)) + (e.testBit j).toNat := by
  have h1 : e / 2 ^ (j + 1) = e / 2 ^ j / 2 := by rw [Nat.pow_succ, Nat.div_div_eq_div_mul]
  have h2 : (e.testBit j).toNat = e / 2 ^ j % 2 := by rw [Nat.testBit_eq_decide_div_mod_eq]; rcases Nat.mod_two_eq_zero_or_one (e / 2 ^ j) with h | h <;> simp [h]
  rw [h1, h2]
  omega
theorem half_0 {e j : Nat} (h : e.testBit j = false) : e / 2 ^ j = e / 2 ^ (j + 1) + e / 2 ^ (j + 1) := by
  have := half_step e j
  rw [h] at this
  simp only [Bool.toNat_false] at this
  omega
theorem half_1 {e j : Nat} (h : e.testBit j = true) : e / 2 ^ j = e / 2 ^ (j + 1) + e / 2 ^ (j + 1) + 1 := by
  have := half_step e j
  rw [h] at this
  simp only [Bool.toNat_true] at this
  omega
theorem pow_0 {x e j m : Nat} (h : e.testBit j = false) : (x ^ (e / 2 ^ (j + 1)) % m) * (x ^ (e / 2 ^ (j + 1)) % m) % m = x ^ (e / 2 ^ j) % m := by
  rw [half_0 h]
  generalize e / 2 ^ (j + 1) = E
  rw [Nat.pow_add, ← Nat.mul_mod]
theorem pow_1 {x e j m : Nat} (h : e.testBit j = true) : (x ^ (e / 2 ^ (j + 1)) % m) * (x ^ (e / 2 ^ (j + 1)) % m) % m * x % m = x ^ (e / 2 ^ j) % m := by
  rw [half_1 h]
  generalize e / 2 ^ (j + 1) = E
  rw [Nat.pow_succ, Nat.pow_add, ← Nat.mul_mod, Nat.mod_mul_mod]
theorem nb_zero (e : Nat) : e / 2 ^ nb e = 0 := Nat.div_eq_of_lt ((nb_le e (nb e)).1 (Nat.le_refl _))
theorem nb_lt {e : Nat} (h : e < pw 64) : nb e ≤ 2048 := by
  obtain ⟨K, hK⟩ : ∃ K, K = 64 := ⟨_, rfl⟩
  rw [← hK, pw_eq] at h
  have h1 := (nb_le e (32 * K)).2 h
  omega
theorem mod_lt' {x y m : Nat} (h : x < m) : y % m < m := Nat.mod_lt _ (Nat.lt_of_le_of_lt (Nat.zero_le _) h)

set_option linter.unusedSimpArgs false in
set_option maxRecDepth 100000 in
set_option maxHeartbeats 16000000 in
theorem mPow_exp0 {pa : Option Addr} {na ca : Nat} {pe : Option Addr} {ne ce : Nat} {pm : Option Addr} {nm cm : Nat} {le : List Nat} {w : World} (he : Nw w pe ne ce le) (hv : decide (valid le) = false) (hC : Chk w (.agg #[.slice pa na ca]) (.agg #[.slice pm nm cm]) (.agg #[.slice none 0 0]) (.agg #[.slice pm nm cm]) 0) :
    Calls Try.prog 27 #[.agg #[.slice pa na ca], .agg #[.slice pe ne ce], .agg #[.slice pm nm cm]] w (HasE 0 1 w) := by
  have HC := Lib.hid hC
  have HV := Lib.hid hv
  clear hC hv
  have H := Sta.start w
  replace H := H.add (keepWs _ _ _ _) he
  go_enter Try.func27, Try.ntmps27
  go_upto_region 0 with fail
  refine Kr.seqStart ?_
  refine Kr.seqS (fun K hK => ?_)
  go_simp
  obtain ⟨y1, hy⟩ : ∃ y, w.alloc (.cells #[.slice pa na ca] 24) = y := ⟨_, rfl⟩
  obtain ⟨ba, hb⟩ : ∃ b, w.heap.size = b := ⟨_, rfl⟩
  rw [hy, hb]
  replace H := H.alloc hy hb rfl
  clear hy hb
  refine hK.out _ _ ?_; clear hK K
  (try simp only [Act.put, List.getElem_toArray, List.getElem_cons_zero, List.getElem_cons_succ, List.setIfInBounds_toArray, List.set_cons_zero, List.set_cons_succ])
  refine Kr.seqS (fun K hK => ?_)
  go_simp
  obtain ⟨y2, hy⟩ : ∃ y, y1.alloc (.cells #[.slice pe ne ce] 24) = y := ⟨_, rfl⟩
  obtain ⟨be, hb⟩ : ∃ b, y1.heap.size = b := ⟨_, rfl⟩
  rw [hy, hb]
  replace H := H.alloc hy hb rfl
  clear hy hb
  refine hK.out _ _ ?_; clear hK K
  (try simp only [Act.put, List.getElem_toArray, List.getElem_cons_zero, List.getElem_cons_succ, List.setIfInBounds_toArray, List.set_cons_zero, List.set_cons_succ])
  refine Kr.seqS (fun K hK => ?_)
  go_simp
  obtain ⟨y3, hy⟩ : ∃ y, y2.alloc (.cells #[.slice pm nm cm] 24) = y := ⟨_, rfl⟩
  obtain ⟨bm, hb⟩ : ∃ b, y2.heap.size = b := ⟨_, rfl⟩
  rw [hy, hb]
  replace H := H.alloc hy hb rfl
  clear hy hb
  refine hK.out _ _ ?_; clear hK K
  (try simp only [Act.put, List.getElem_toArray, List.getElem_cons_zero, List.getElem_cons_succ, List.setIfInBounds_toArray, List.set_cons_zero, List.set_cons_succ])
  refine Kr.seqS (fun K hK => ?_)
  go_simp
  obtain ⟨y4, hy⟩ : ∃ y, y3.alloc (.cells #[.slice none 0 0] 24) = y := ⟨_, rfl⟩
  obtain ⟨br, hb⟩ : ∃ b, y3.heap.size = b := ⟨_, rfl⟩
  rw [hy, hb]
  replace H := H.alloc hy hb rfl
  clear hy hb
  refine hK.out _ _ ?_; clear hK K
  (try simp only [Act.put, List.getElem_toArray, List.getElem_cons_zero, List.getElem_cons_succ, List.setIfInBounds_toArray, List.set_cons_zero, List.set_cons_succ])
  (refine Kr.seqP (v := ?_) (by rfl) ?_ ?_; rotate_left; (focus (go_simp; first | done | rfl)); (try simp only [Act.put, List.getElem_toArray, List.getElem_cons_zero, List.getElem_cons_succ, List.setIfInBounds_toArray, List.set_cons_zero, List.set_cons_succ]))
  refine Kr.seqDone ?_
  go_upto_region 1 with fail
  refine Kr.seqStart ?_
  have hk := H.c
  simp only [Kr.Cells] at hk
  iterate 4 (refine Kr.seqP (v := ?_) (by rfl) ?_ ?_; rotate_left; (focus (go_simp; first | done | rfl)); (try simp only [Act.put, List.getElem_toArray, List.getElem_cons_zero, List.getElem_cons_succ, List.setIfInBounds_toArray, List.set_cons_zero, List.set_cons_succ]))
  refine Kr.seqS (fun K hK => ?_)
  go_simp
  go_at_call 70
  refine (HC.out _ H.g).mono ?_
  rintro e y5 ⟨rfl, hg⟩
  clear hk
  replace H := H.grow hg
  clear hg
  refine hK.out _ _ ?_; clear hK K
  (try simp only [Act.put, List.getElem_toArray, List.getElem_cons_zero, List.getElem_cons_succ, List.setIfInBounds_toArray, List.set_cons_zero, List.set_cons_succ])
  (refine Kr.seqP (v := ?_) (by rfl) ?_ ?_; rotate_left; (focus (go_simp; first | done | rfl)); (try simp only [Act.put, List.getElem_toArray, List.getElem_cons_zero, List.getElem_cons_succ, List.setIfInBounds_toArray, List.set_cons_zero, List.set_cons_succ]))
  refine Kr.seqDone ?_
  go_upto_region 2 with fail
  refine Kr.seqStart ?_
  have hk := H.c
  simp only [Kr.Cells] at hk
  (refine Kr.seqP (v := ?_) (by rfl) ?_ ?_; rotate_left; (focus (go_simp; first | done | rfl)); (try simp only [Act.put, List.getElem_toArray, List.getElem_cons_zero, List.getElem_cons_succ, List.setIfInBounds_toArray, List.set_cons_zero, List.set_cons_succ]))
  refine Kr.seqS (fun K hK => ?_)
  go_simp
  go_at_call 80
  refine (Valid_n _ _ _ _ _ (H.ws 0 rfl)).mono ?_
  rintro e y6 ⟨rfl, hg⟩
  rw [HV.out]
  clear hk
  replace H := H.grow hg
  clear hg
  refine hK.out _ _ ?_; clear hK K
  (try simp only [Act.put, List.getElem_toArray, List.getElem_cons_zero, List.getElem_cons_succ, List.setIfInBounds_toArray, List.set_cons_zero, List.set_cons_succ])
  iterate 2 (refine Kr.seqP (v := ?_) (by rfl) ?_ ?_; rotate_left; (focus (go_simp; first | done | rfl)); (try simp only [Act.put, List.getElem_toArray, List.getElem_cons_zero, List.getElem_cons_succ, List.setIfInBounds_toArray, List.set_cons_zero, List.set_cons_succ]))
  refine Kr.seqDone ?_
  go_upto_region 3 with fail
  refine Kr.seqStart ?_
  (refine Kr.seqP (v := ?_) (by rfl) ?_ ?_; rotate_left; (focus (go_simp; first | done | rfl)); (try simp only [Act.put, List.getElem_toArray, List.getElem_cons_zero, List.getElem_cons_succ, List.setIfInBounds_toArray, List.set_cons_zero, List.set_cons_succ]))
  have hk := H.c
  simp only [Kr.Cells] at hk
  refine Kr.seqS (fun K hK => ?_)
  go_simp
  clear hk
  obtain ⟨y7, hy⟩ : ∃ y, y6.setCell ⟨br, 0, none⟩ (.slice none 0 0) = y := ⟨_, rfl⟩
  rw [hy]
  replace H := H.store 0 hy rfl rfl
  dsimp only [List.set] at H
  clear hy
  refine hK.out _ _ ?_; clear hK K
  (try simp only [Act.put, List.getElem_toArray, List.getElem_cons_zero, List.getElem_cons_succ, List.setIfInBounds_toArray, List.set_cons_zero, List.set_cons_succ])
  (refine Kr.seqP (v := ?_) (by rfl) ?_ ?_; rotate_left; (focus (go_simp; first | done | rfl)); (try simp only [Act.put, List.getElem_toArray, List.getElem_cons_zero, List.getElem_cons_succ, List.setIfInBounds_toArray, List.set_cons_zero, List.set_cons_succ]))
  refine Kr.seqDone ?_
  have hk := H.c
  simp only [Kr.Cells] at hk
  go_wp2
  refine bodyPost_ret (v := .tuple #[.agg #[.slice none 0 0], .int .i64 1]) (by simp [results, Try.results27, go_sem, hk]) rfl ⟨none, 0, 0, rfl, nw_none _, H.g⟩
set_option linter.unusedSimpArgs false in
set_option maxRecDepth 100000 in
set_option maxHeartbeats 16000000 in
theorem mPow_exp1 {pa : Option Addr} {na ca : Nat} {pe : Option Addr} {ne ce : Nat} {pm : Option Addr} {nm cm : Nat} {le : List Nat} {w : World} (he : Nw w pe ne ce le) (hv : decide (valid le) = false) (hC : Chk w (.agg #[.slice pa na ca]) (.agg #[.slice pm nm cm]) (.agg #[.slice none 0 0]) (.agg #[.slice pm nm cm]) 1) :
    Calls Try.prog 27 #[.agg #[.slice pa na ca], .agg #[.slice pe ne ce], .agg #[.slice pm nm cm]] w (HasE 0 1 w) := by
  have HC := Lib.hid hC
  have HV := Lib.hid hv
  clear hC hv
  have H := Sta.start w
  replace H := H.add (keepWs _ _ _ _) he
  go_enter Try.func27, Try.ntmps27
  go_upto_region 0 with fail
  refine Kr.seqStart ?_
  refine Kr.seqS (fun K hK => ?_)
  go_simp
  obtain ⟨y1, hy⟩ : ∃ y, w.alloc (.cells #[.slice pa na ca] 24) = y := ⟨_, rfl⟩
  obtain ⟨ba, hb⟩ : ∃ b, w.heap.size = b := ⟨_, rfl⟩
  rw [hy, hb]
  replace H := H.alloc hy hb rfl
  clear hy hb
  refine hK.out _ _ ?_; clear hK K
  (try simp only [Act.put, List.getElem_toArray, List.getElem_cons_zero, List.getElem_cons_succ, List.setIfInBounds_toArray, List.set_cons_zero, List.set_cons_succ])
  refine Kr.seqS (fun K hK => ?_)
  go_simp
  obtain ⟨y2, hy⟩ : ∃ y, y1.alloc (.cells #[.slice pe ne ce] 24) = y := ⟨_, rfl⟩
  obtain ⟨be, hb⟩ : ∃ b, y1.heap.size = b := ⟨_, rfl⟩
  rw [hy, hb]
  replace H := H.alloc hy hb rfl
  clear hy hb
  refine hK.out _ _ ?_; clear hK K
  (try simp only [Act.put, List.getElem_toArray, List.getElem_cons_zero, List.getElem_cons_succ, List.setIfInBounds_toArray, List.set_cons_zero, List.set_cons_succ])
  refine Kr.seqS (fun K hK => ?_)
  go_simp
  obtain ⟨y3, hy⟩ : ∃ y, y2.alloc (.cells #[.slice pm nm cm] 24) = y := ⟨_, rfl⟩
  obtain ⟨bm, hb⟩ : ∃ b, y2.heap.size = b := ⟨_, rfl⟩
  rw [hy, hb]
  replace H := H.alloc hy hb rfl
  clear hy hb
  refine hK.out _ _ ?_; clear hK K
  (try simp only [Act.put, List.getElem_toArray, List.getElem_cons_zero, List.getElem_cons_succ, List.setIfInBounds_toArray, List.set_cons_zero, List.set_cons_succ])
  refine Kr.seqS (fun K hK => ?_)
  go_simp
  obtain ⟨y4, hy⟩ : ∃ y, y3.alloc (.cells #[.slice none 0 0] 24) = y := ⟨_, rfl⟩
  obtain ⟨br, hb⟩ : ∃ b, y3.heap.size = b := ⟨_, rfl⟩
  rw [hy, hb]
  replace H := H.alloc hy hb rfl
  clear hy hb
  refine hK.out _ _ ?_; clear hK K
  (try simp only [Act.put, List.getElem_toArray, List.getElem_cons_zero, List.getElem_cons_succ, List.setIfInBounds_toArray, List.set_cons_zero, List.set_cons_succ])
  (refine Kr.seqP (v := ?_) (by rfl) ?_ ?_; rotate_left; (focus (go_simp; first | done | rfl)); (try simp only [Act.put, List.getElem_toArray, List.getElem_cons_zero, List.getElem_cons_succ, List.setIfInBounds_toArray, List.set_cons_zero, List.set_cons_succ]))
  refine Kr.seqDone ?_
  go_upto_region 1 with fail
  refine Kr.seqStart ?_
  have hk := H.c
  simp only [Kr.Cells] at hk
  iterate 4 (refine Kr.seqP (v := ?_) (by rfl) ?_ ?_; rotate_left; (focus (go_simp; first | done | rfl)); (try simp only [Act.put, List.getElem_toArray, List.getElem_cons_zero, List.getElem_cons_succ, List.setIfInBounds_toArray, List.set_cons_zero, List.set_cons_succ]))
  refine Kr.seqS (fun K hK => ?_)
  go_simp
  go_at_call 70
  refine (HC.out _ H.g).mono ?_
  rintro e y5 ⟨rfl, hg⟩
  clear hk
  replace H := H.grow hg
  clear hg
  refine hK.out _ _ ?_; clear hK K
  (try simp only [Act.put, List.getElem_toArray, List.getElem_cons_zero, List.getElem_cons_succ, List.setIfInBounds_toArray, List.set_cons_zero, List.set_cons_succ])
  (refine Kr.seqP (v := ?_) (by rfl) ?_ ?_; rotate_left; (focus (go_simp; first | done | rfl)); (try simp only [Act.put, List.getElem_toArray, List.getElem_cons_zero, List.getElem_cons_succ, List.setIfInBounds_toArray, List.set_cons_zero, List.set_cons_succ]))
  refine Kr.seqDone ?_
  go_upto_region 2 with fail
  refine Kr.seqStart ?_
  have hk := H.c
  simp only [Kr.Cells] at hk
  (refine Kr.seqP (v := ?_) (by rfl) ?_ ?_; rotate_left; (focus (go_simp; first | done | rfl)); (try simp only [Act.put, List.getElem_toArray, List.getElem_cons_zero, List.getElem_cons_succ, List.setIfInBounds_toArray, List.set_cons_zero, List.set_cons_succ]))
  refine Kr.seqS (fun K hK => ?_)
  go_simp
  go_at_call 80
  refine (Valid_n _ _ _ _ _ (H.ws 0 rfl)).mono ?_
  rintro e y6 ⟨rfl, hg⟩
  rw [HV.out]
  clear hk
  replace H := H.grow hg
  clear hg
  refine hK.out _ _ ?_; clear hK K
  (try simp only [Act.put, List.getElem_toArray, List.getElem_cons_zero, List.getElem_cons_succ, List.setIfInBounds_toArray, List.set_cons_zero, List.set_cons_succ])
  iterate 2 (refine Kr.seqP (v := ?_) (by rfl) ?_ ?_; rotate_left; (focus (go_simp; first | done | rfl)); (try simp only [Act.put, List.getElem_toArray, List.getElem_cons_zero, List.getElem_cons_succ, List.setIfInBounds_toArray, List.set_cons_zero, List.set_cons_succ]))
  refine Kr.seqDone ?_
  go_upto_region 3 with fail
  refine Kr.seqStart ?_
  (refine Kr.seqP (v := ?_) (by rfl) ?_ ?_; rotate_left; (focus (go_simp; first | done | rfl)); (try simp only [Act.put, List.getElem_toArray, List.getElem_cons_zero, List.getElem_cons_succ, List.setIfInBounds_toArray, List.set_cons_zero, List.set_cons_succ]))
  have hk := H.c
  simp only [Kr.Cells] at hk
  refine Kr.seqS (fun K hK => ?_)
  go_simp
  clear hk
  obtain ⟨y7, hy⟩ : ∃ y, y6.setCell ⟨br, 0, none⟩ (.slice none 0 0) = y := ⟨_, rfl⟩
  rw [hy]
  replace H := H.store 0 hy rfl rfl
  dsimp only [List.set] at H
  clear hy
  refine hK.out _ _ ?_; clear hK K
  (try simp only [Act.put, List.getElem_toArray, List.getElem_cons_zero, List.getElem_cons_succ, List.setIfInBounds_toArray, List.set_cons_zero, List.set_cons_succ])
  (refine Kr.seqP (v := ?_) (by rfl) ?_ ?_; rotate_left; (focus (go_simp; first | done | rfl)); (try simp only [Act.put, List.getElem_toArray, List.getElem_cons_zero, List.getElem_cons_succ, List.setIfInBounds_toArray, List.set_cons_zero, List.set_cons_succ]))
  refine Kr.seqDone ?_
  have hk := H.c
  simp only [Kr.Cells] at hk
  go_wp2
  refine bodyPost_ret (v := .tuple #[.agg #[.slice none 0 0], .int .i64 1]) (by simp [results, Try.results27, go_sem, hk]) rfl ⟨none, 0, 0, rfl, nw_none _, H.g⟩
set_option linter.unusedSimpArgs false in
set_option maxRecDepth 100000 in
set_option maxHeartbeats 16000000 in
theorem mPow_exp2 {pa : Option Addr} {na ca : Nat} {pe : Option Addr} {ne ce : Nat} {pm : Option Addr} {nm cm : Nat} {le : List Nat} {w : World} (he : Nw w pe ne ce le) (hv : decide (valid le) = false) (hC : Chk w (.agg #[.slice pa na ca]) (.agg #[.slice pm nm cm]) (.agg #[.slice none 0 0]) (.agg #[.slice pm nm cm]) 2) :
    Calls Try.prog 27 #[.agg #[.slice pa na ca], .agg #[.slice pe ne ce], .agg #[.slice pm nm cm]] w (HasE 0 1 w) := by
  have HC := Lib.hid hC
  have HV := Lib.hid hv
  clear hC hv
  have H := Sta.start w
  replace H := H.add (keepWs _ _ _ _) he
  go_enter Try.func27, Try.ntmps27
  go_upto_region 0 with fail
  refine Kr.seqStart ?_
  refine Kr.seqS (fun K hK => ?_)
  go_simp
  obtain ⟨y1, hy⟩ : ∃ y, w.alloc (.cells #[.slice pa na ca] 24) = y := ⟨_, rfl⟩
  obtain ⟨ba, hb⟩ : ∃ b, w.heap.size = b := ⟨_, rfl⟩
  rw [hy, hb]
  replace H := H.alloc hy hb rfl
  clear hy hb
  refine hK.out _ _ ?_; clear hK K
  (try simp only [Act.put, List.getElem_toArray, List.getElem_cons_zero, List.getElem_cons_succ, List.setIfInBounds_toArray, List.set_cons_zero, List.set_cons_succ])
  refine Kr.seqS (fun K hK => ?_)
  go_simp
  obtain ⟨y2, hy⟩ : ∃ y, y1.alloc (.cells #[.slice pe ne ce] 24) = y := ⟨_, rfl⟩
  obtain ⟨be, hb⟩ : ∃ b, y1.heap.size = b := ⟨_, rfl⟩
  rw [hy, hb]
  replace H := H.alloc hy hb rfl
  clear hy hb
  refine hK.out _ _ ?_; clear hK K
  (try simp only [Act.put, List.getElem_toArray, List.getElem_cons_zero, List.getElem_cons_succ, List.setIfInBounds_toArray, List.set_cons_zero, List.set_cons_succ])
  refine Kr.seqS (fun K hK => ?_)
  go_simp
  obtain ⟨y3, hy⟩ : ∃ y, y2.alloc (.cells #[.slice pm nm cm] 24) = y := ⟨_, rfl⟩
  obtain ⟨bm, hb⟩ : ∃ b, y2.heap.size = b := ⟨_, rfl⟩
  rw [hy, hb]
  replace H := H.alloc hy hb rfl
  clear hy hb
  refine hK.out _ _ ?_; clear hK K
  (try simp only [Act.put, List.getElem_toArray, List.getElem_cons_zero, List.getElem_cons_succ, List.setIfInBounds_toArray, List.set_cons_zero, List.set_cons_succ])
  refine Kr.seqS (fun K hK => ?_)
  go_simp
  obtain ⟨y4, hy⟩ : ∃ y, y3.alloc (.cells #[.slice none 0 0] 24) = y := ⟨_, rfl⟩
  obtain ⟨br, hb⟩ : ∃ b, y3.heap.size = b := ⟨_, rfl⟩
  rw [hy, hb]
  replace H := H.alloc hy hb rfl
  clear hy hb
  refine hK.out _ _ ?_; clear hK K
  (try simp only [Act.put, List.getElem_toArray, List.getElem_cons_zero, List.getElem_cons_succ, List.setIfInBounds_toArray, List.set_cons_zero, List.set_cons_succ])
  (refine Kr.seqP (v := ?_) (by rfl) ?_ ?_; rotate_left; (focus (go_simp; first | done | rfl)); (try simp only [Act.put, List.getElem_toArray, List.getElem_cons_zero, List.getElem_cons_succ, List.setIfInBounds_toArray, List.set_cons_zero, List.set_cons_succ]))
  refine Kr.seqDone ?_
  go_upto_region 1 with fail
  refine Kr.seqStart ?_
  have hk := H.c
  simp only [Kr.Cells] at hk
  iterate 4 (refine Kr.seqP (v := ?_) (by rfl) ?_ ?_; rotate_left; (focus (go_simp; first | done | rfl)); (try simp only [Act.put, List.getElem_toArray, List.getElem_cons_zero, List.getElem_cons_succ, List.setIfInBounds_toArray, List.set_cons_zero, List.set_cons_succ]))
  refine Kr.seqS (fun K hK => ?_)
  go_simp
  go_at_call 70
  refine (HC.out _ H.g).mono ?_
  rintro e y5 ⟨rfl, hg⟩
  clear hk
  replace H := H.grow hg
  clear hg
  refine hK.out _ _ ?_; clear hK K
  (try simp only [Act.put, List.getElem_toArray, List.getElem_cons_zero, List.getElem_cons_succ, List.setIfInBounds_toArray, List.set_cons_zero, List.set_cons_succ])
  (refine Kr.seqP (v := ?_) (by rfl) ?_ ?_; rotate_left; (focus (go_simp; first | done | rfl)); (try simp only [Act.put, List.getElem_toArray, List.getElem_cons_zero, List.getElem_cons_succ, List.setIfInBounds_toArray, List.set_cons_zero, List.set_cons_succ]))
  refine Kr.seqDone ?_
  go_upto_region 2 with fail
  refine Kr.seqStart ?_
  have hk := H.c
  simp only [Kr.Cells] at hk
  (refine Kr.seqP (v := ?_) (by rfl) ?_ ?_; rotate_left; (focus (go_simp; first | done | rfl)); (try simp only [Act.put, List.getElem_toArray, List.getElem_cons_zero, List.getElem_cons_succ, List.setIfInBounds_toArray, List.set_cons_zero, List.set_cons_succ]))
  refine Kr.seqS (fun K hK => ?_)
  go_simp
  go_at_call 80
  refine (Valid_n _ _ _ _ _ (H.ws 0 rfl)).mono ?_
  rintro e y6 ⟨rfl, hg⟩
  rw [HV.out]
  clear hk
  replace H := H.grow hg
  clear hg
  refine hK.out _ _ ?_; clear hK K
  (try simp only [Act.put, List.getElem_toArray, List.getElem_cons_zero, List.getElem_cons_succ, List.setIfInBounds_toArray, List.set_cons_zero, List.set_cons_succ])
  iterate 2 (refine Kr.seqP (v := ?_) (by rfl) ?_ ?_; rotate_left; (focus (go_simp; first | done | rfl)); (try simp only [Act.put, List.getElem_toArray, List.getElem_cons_zero, List.getElem_cons_succ, List.setIfInBounds_toArray, List.set_cons_zero, List.set_cons_succ]))
  refine Kr.seqDone ?_
  go_upto_region 3 with fail
  refine Kr.seqStart ?_
  (refine Kr.seqP (v := ?_) (by rfl) ?_ ?_; rotate_left; (focus (go_simp; first | done | rfl)); (try simp only [Act.put, List.getElem_toArray, List.getElem_cons_zero, List.getElem_cons_succ, List.setIfInBounds_toArray, List.set_cons_zero, List.set_cons_succ]))
  have hk := H.c
  simp only [Kr.Cells] at hk
  refine Kr.seqS (fun K hK => ?_)
  go_simp
  clear hk
  obtain ⟨y7, hy⟩ : ∃ y, y6.setCell ⟨br, 0, none⟩ (.slice none 0 0) = y := ⟨_, rfl⟩
  rw [hy]
  replace H := H.store 0 hy rfl rfl
  dsimp only [List.set] at H
  clear hy
  refine hK.out _ _ ?_; clear hK K
  (try simp only [Act.put, List.getElem_toArray, List.getElem_cons_zero, List.getElem_cons_succ, List.setIfInBounds_toArray, List.set_cons_zero, List.set_cons_succ])
  (refine Kr.seqP (v := ?_) (by rfl) ?_ ?_; rotate_left; (focus (go_simp; first | done | rfl)); (try simp only [Act.put, List.getElem_toArray, List.getElem_cons_zero, List.getElem_cons_succ, List.setIfInBounds_toArray, List.set_cons_zero, List.set_cons_succ]))
  refine Kr.seqDone ?_
  have hk := H.c
  simp only [Kr.Cells] at hk
  go_wp2
  refine bodyPost_ret (v := .tuple #[.agg #[.slice none 0 0], .int .i64 1]) (by simp [results, Try.results27, go_sem, hk]) rfl ⟨none, 0, 0, rfl, nw_none _, H.g⟩
set_option linter.unusedSimpArgs false in
set_option maxRecDepth 100000 in
set_option maxHeartbeats 16000000 in
theorem mPow_err1 {pa : Option Addr} {na ca : Nat} {pe : Option Addr} {ne ce : Nat} {pm : Option Addr} {nm cm : Nat} {le : List Nat} {w : World} (he : Nw w pe ne ce le) (hv : decide (valid le) = true) (hC : Chk w (.agg #[.slice pa na ca]) (.agg #[.slice pm nm cm]) (.agg #[.slice none 0 0]) (.agg #[.slice pm nm cm]) 1) :
    Calls Try.prog 27 #[.agg #[.slice pa na ca], .agg #[.slice pe ne ce], .agg #[.slice pm nm cm]] w (HasE 0 1 w) := by
  have HC := Lib.hid hC
  have HV := Lib.hid hv
  clear hC hv
  have H := Sta.start w
  replace H := H.add (keepWs _ _ _ _) he
  go_enter Try.func27, Try.ntmps27
  go_upto_region 0 with fail
  refine Kr.seqStart ?_
  refine Kr.seqS (fun K hK => ?_)
  go_simp
  obtain ⟨y1, hy⟩ : ∃ y, w.alloc (.cells #[.slice pa na ca] 24) = y := ⟨_, rfl⟩
  obtain ⟨ba, hb⟩ : ∃ b, w.heap.size = b := ⟨_, rfl⟩
  rw [hy, hb]
  replace H := H.alloc hy hb rfl
  clear hy hb
  refine hK.out _ _ ?_; clear hK K
  (try simp only [Act.put, List.getElem_toArray, List.getElem_cons_zero, List.getElem_cons_succ, List.setIfInBounds_toArray, List.set_cons_zero, List.set_cons_succ])
  refine Kr.seqS (fun K hK => ?_)
  go_simp
  obtain ⟨y2, hy⟩ : ∃ y, y1.alloc (.cells #[.slice pe ne ce] 24) = y := ⟨_, rfl⟩
  obtain ⟨be, hb⟩ : ∃ b, y1.heap.size = b := ⟨_, rfl⟩
  rw [hy, hb]
  replace H := H.alloc hy hb rfl
  clear hy hb
  refine hK.out _ _ ?_; clear hK K
  (try simp only [Act.put, List.getElem_toArray, List.getElem_cons_zero, List.getElem_cons_succ, List.setIfInBounds_toArray, List.set_cons_zero, List.set_cons_succ])
  refine Kr.seqS (fun K hK => ?_)
  go_simp
  obtain ⟨y3, hy⟩ : ∃ y, y2.alloc (.cells #[.slice pm nm cm] 24) = y := ⟨_, rfl⟩
  obtain ⟨bm, hb⟩ : ∃ b, y2.heap.size = b := ⟨_, rfl⟩
  rw [hy, hb]
  replace H := H.alloc hy hb rfl
  clear hy hb
  refine hK.out _ _ ?_; clear hK K
  (try simp only [Act.put, List.getElem_toArray, List.getElem_cons_zero, List.getElem_cons_succ, List.setIfInBounds_toArray, List.set_cons_zero, List.set_cons_succ])
  refine Kr.seqS (fun K hK => ?_)
  go_simp
  obtain ⟨y4, hy⟩ : ∃ y, y3.alloc (.cells #[.slice none 0 0] 24) = y := ⟨_, rfl⟩
  obtain ⟨br, hb⟩ : ∃ b, y3.heap.size = b := ⟨_, rfl⟩
  rw [hy, hb]
  replace H := H.alloc hy hb rfl
  clear hy hb
  refine hK.out _ _ ?_; clear hK K
  (try simp only [Act.put, List.getElem_toArray, List.getElem_cons_zero, List.getElem_cons_succ, List.setIfInBounds_toArray, List.set_cons_zero, List.set_cons_succ])
  (refine Kr.seqP (v := ?_) (by rfl) ?_ ?_; rotate_left; (focus (go_simp; first | done | rfl)); (try simp only [Act.put, List.getElem_toArray, List.getElem_cons_zero, List.getElem_cons_succ, List.setIfInBounds_toArray, List.set_cons_zero, List.set_cons_succ]))
  refine Kr.seqDone ?_
  go_upto_region 1 with fail
  refine Kr.seqStart ?_
  have hk := H.c
  simp only [Kr.Cells] at hk
  iterate 4 (refine Kr.seqP (v := ?_) (by rfl) ?_ ?_; rotate_left; (focus (go_simp; first | done | rfl)); (try simp only [Act.put, List.getElem_toArray, List.getElem_cons_zero, List.getElem_cons_succ, List.setIfInBounds_toArray, List.set_cons_zero, List.set_cons_succ]))
  refine Kr.seqS (fun K hK => ?_)
  go_simp
  go_at_call 70
  refine (HC.out _ H.g).mono ?_
  rintro e y5 ⟨rfl, hg⟩
  clear hk
  replace H := H.grow hg
  clear hg
  refine hK.out _ _ ?_; clear hK K
  (try simp only [Act.put, List.getElem_toArray, List.getElem_cons_zero, List.getElem_cons_succ, List.setIfInBounds_toArray, List.set_cons_zero, List.set_cons_succ])
  (refine Kr.seqP (v := ?_) (by rfl) ?_ ?_; rotate_left; (focus (go_simp; first | done | rfl)); (try simp only [Act.put, List.getElem_toArray, List.getElem_cons_zero, List.getElem_cons_succ, List.setIfInBounds_toArray, List.set_cons_zero, List.set_cons_succ]))
  refine Kr.seqDone ?_
  go_upto_region 2 with fail
  refine Kr.seqStart ?_
  have hk := H.c
  simp only [Kr.Cells] at hk
  (refine Kr.seqP (v := ?_) (by rfl) ?_ ?_; rotate_left; (focus (go_simp; first | done | rfl)); (try simp only [Act.put, List.getElem_toArray, List.getElem_cons_zero, List.getElem_cons_succ, List.setIfInBounds_toArray, List.set_cons_zero, List.set_cons_succ]))
  refine Kr.seqS (fun K hK => ?_)
  go_simp
  go_at_call 80
  refine (Valid_n _ _ _ _ _ (H.ws 0 rfl)).mono ?_
  rintro e y6 ⟨rfl, hg⟩
  rw [HV.out]
  clear hk
  replace H := H.grow hg
  clear hg
  refine hK.out _ _ ?_; clear hK K
  (try simp only [Act.put, List.getElem_toArray, List.getElem_cons_zero, List.getElem_cons_succ, List.setIfInBounds_toArray, List.set_cons_zero, List.set_cons_succ])
  iterate 2 (refine Kr.seqP (v := ?_) (by rfl) ?_ ?_; rotate_left; (focus (go_simp; first | done | rfl)); (try simp only [Act.put, List.getElem_toArray, List.getElem_cons_zero, List.getElem_cons_succ, List.setIfInBounds_toArray, List.set_cons_zero, List.set_cons_succ]))
  refine Kr.seqDone ?_
  go_upto_region 4 with fail
  refine Kr.seqStart ?_
  iterate 3 (refine Kr.seqP (v := ?_) (by rfl) ?_ ?_; rotate_left; (focus (go_simp; first | done | rfl)); (try simp only [Act.put, List.getElem_toArray, List.getElem_cons_zero, List.getElem_cons_succ, List.setIfInBounds_toArray, List.set_cons_zero, List.set_cons_succ]))
  refine Kr.seqDone ?_
  go_upto_region 5 with fail
  refine Kr.seqStart ?_
  iterate 2 (refine Kr.seqP (v := ?_) (by rfl) ?_ ?_; rotate_left; (focus (go_simp; first | done | rfl)); (try simp only [Act.put, List.getElem_toArray, List.getElem_cons_zero, List.getElem_cons_succ, List.setIfInBounds_toArray, List.set_cons_zero, List.set_cons_succ]))
  have hk := H.c
  simp only [Kr.Cells] at hk
  refine Kr.seqS (fun K hK => ?_)
  go_simp
  clear hk
  obtain ⟨y7, hy⟩ : ∃ y, y6.setCell ⟨br, 0, none⟩ (.slice none 0 0) = y := ⟨_, rfl⟩
  rw [hy]
  replace H := H.store 0 hy rfl rfl
  dsimp only [List.set] at H
  clear hy
  refine hK.out _ _ ?_; clear hK K
  (try simp only [Act.put, List.getElem_toArray, List.getElem_cons_zero, List.getElem_cons_succ, List.setIfInBounds_toArray, List.set_cons_zero, List.set_cons_succ])
  (refine Kr.seqP (v := ?_) (by rfl) ?_ ?_; rotate_left; (focus (go_simp; first | done | rfl)); (try simp only [Act.put, List.getElem_toArray, List.getElem_cons_zero, List.getElem_cons_succ, List.setIfInBounds_toArray, List.set_cons_zero, List.set_cons_succ]))
  refine Kr.seqDone ?_
  have hk := H.c
  simp only [Kr.Cells] at hk
  go_wp2
  refine bodyPost_ret (v := .tuple #[.agg #[.slice none 0 0], .int .i64 1]) (by simp [results, Try.results27, go_sem, hk]) rfl ⟨none, 0, 0, rfl, nw_none _, H.g⟩
set_option linter.unusedSimpArgs false in
set_option maxRecDepth 100000 in
set_option maxHeartbeats 16000000 in
theorem mPow_err2 {pa : Option Addr} {na ca : Nat} {pe : Option Addr} {ne ce : Nat} {pm : Option Addr} {nm cm : Nat} {le : List Nat} {w : World} (he : Nw w pe ne ce le) (hv : decide (valid le) = true) (hC : Chk w (.agg #[.slice pa na ca]) (.agg #[.slice pm nm cm]) (.agg #[.slice none 0 0]) (.agg #[.slice pm nm cm]) 2) :
    Calls Try.prog 27 #[.agg #[.slice pa na ca], .agg #[.slice pe ne ce], .agg #[.slice pm nm cm]] w (HasE 0 2 w) := by
  have HC := Lib.hid hC
  have HV := Lib.hid hv
  clear hC hv
  have H := Sta.start w
  replace H := H.add (keepWs _ _ _ _) he
  go_enter Try.func27, Try.ntmps27
  go_upto_region 0 with fail
  refine Kr.seqStart ?_
  refine Kr.seqS (fun K hK => ?_)
  go_simp
  obtain ⟨y1, hy⟩ : ∃ y, w.alloc (.cells #[.slice pa na ca] 24) = y := ⟨_, rfl⟩
  obtain ⟨ba, hb⟩ : ∃ b, w.heap.size = b := ⟨_, rfl⟩
  rw [hy, hb]
  replace H := H.alloc hy hb rfl
  clear hy hb
  refine hK.out _ _ ?_; clear hK K
  (try simp only [Act.put, List.getElem_toArray, List.getElem_cons_zero, List.getElem_cons_succ, List.setIfInBounds_toArray, List.set_cons_zero, List.set_cons_succ])
  refine Kr.seqS (fun K hK => ?_)
  go_simp
  obtain ⟨y2, hy⟩ : ∃ y, y1.alloc (.cells #[.slice pe ne ce] 24) = y := ⟨_, rfl⟩
  obtain ⟨be, hb⟩ : ∃ b, y1.heap.size = b := ⟨_, rfl⟩
  rw [hy, hb]
  replace H := H.alloc hy hb rfl
  clear hy hb
  refine hK.out _ _ ?_; clear hK K
  (try simp only [Act.put, List.getElem_toArray, List.getElem_cons_zero, List.getElem_cons_succ, List.setIfInBounds_toArray, List.set_cons_zero, List.set_cons_succ])
  refine Kr.seqS (fun K hK => ?_)
  go_simp
  obtain ⟨y3, hy⟩ : ∃ y, y2.alloc (.cells #[.slice pm nm cm] 24) = y := ⟨_, rfl⟩
  obtain ⟨bm, hb⟩ : ∃ b, y2.heap.size = b := ⟨_, rfl⟩
  rw [hy, hb]
  replace H := H.alloc hy hb rfl
  clear hy hb
  refine hK.out _ _ ?_; clear hK K
  (try simp only [Act.put, List.getElem_toArray, List.getElem_cons_zero, List.getElem_cons_succ, List.setIfInBounds_toArray, List.set_cons_zero, List.set_cons_succ])
  refine Kr.seqS (fun K hK => ?_)
  go_simp
  obtain ⟨y4, hy⟩ : ∃ y, y3.alloc (.cells #[.slice none 0 0] 24) = y := ⟨_, rfl⟩
  obtain ⟨br, hb⟩ : ∃ b, y3.heap.size = b := ⟨_, rfl⟩
  rw [hy, hb]
  replace H := H.alloc hy hb rfl
  clear hy hb
  refine hK.out _ _ ?_; clear hK K
  (try simp only [Act.put, List.getElem_toArray, List.getElem_cons_zero, List.getElem_cons_succ, List.setIfInBounds_toArray, List.set_cons_zero, List.set_cons_succ])
  (refine Kr.seqP (v := ?_) (by rfl) ?_ ?_; rotate_left; (focus (go_simp; first | done | rfl)); (try simp only [Act.put, List.getElem_toArray, List.getElem_cons_zero, List.getElem_cons_succ, List.setIfInBounds_toArray, List.set_cons_zero, List.set_cons_succ]))
  refine Kr.seqDone ?_
  go_upto_region 1 with fail
  refine Kr.seqStart ?_
  have hk := H.c
  simp only [Kr.Cells] at hk
  iterate 4 (refine Kr.seqP (v := ?_) (by rfl) ?_ ?_; rotate_left; (focus (go_simp; first | done | rfl)); (try simp only [Act.put, List.getElem_toArray, List.getElem_cons_zero, List.getElem_cons_succ, List.setIfInBounds_toArray, List.set_cons_zero, List.set_cons_succ]))
  refine Kr.seqS (fun K hK => ?_)
  go_simp
  go_at_call 70
  refine (HC.out _ H.g).mono ?_
  rintro e y5 ⟨rfl, hg⟩
  clear hk
  replace H := H.grow hg
  clear hg
  refine hK.out _ _ ?_; clear hK K
  (try simp only [Act.put, List.getElem_toArray, List.getElem_cons_zero, List.getElem_cons_succ, List.setIfInBounds_toArray, List.set_cons_zero, List.set_cons_succ])
  (refine Kr.seqP (v := ?_) (by rfl) ?_ ?_; rotate_left; (focus (go_simp; first | done | rfl)); (try simp only [Act.put, List.getElem_toArray, List.getElem_cons_zero, List.getElem_cons_succ, List.setIfInBounds_toArray, List.set_cons_zero, List.set_cons_succ]))
  refine Kr.seqDone ?_
  go_upto_region 2 with fail
  refine Kr.seqStart ?_
  have hk := H.c
  simp only [Kr.Cells] at hk
  (refine Kr.seqP (v := ?_) (by rfl) ?_ ?_; rotate_left; (focus (go_simp; first | done | rfl)); (try simp only [Act.put, List.getElem_toArray, List.getElem_cons_zero, List.getElem_cons_succ, List.setIfInBounds_toArray, List.set_cons_zero, List.set_cons_succ]))
  refine Kr.seqS (fun K hK => ?_)
  go_simp
  go_at_call 80
  refine (Valid_n _ _ _ _ _ (H.ws 0 rfl)).mono ?_
  rintro e y6 ⟨rfl, hg⟩
  rw [HV.out]
  clear hk
  replace H := H.grow hg
  clear hg
  refine hK.out _ _ ?_; clear hK K
  (try simp only [Act.put, List.getElem_toArray, List.getElem_cons_zero, List.getElem_cons_succ, List.setIfInBounds_toArray, List.set_cons_zero, List.set_cons_succ])
  iterate 2 (refine Kr.seqP (v := ?_) (by rfl) ?_ ?_; rotate_left; (focus (go_simp; first | done | rfl)); (try simp only [Act.put, List.getElem_toArray, List.getElem_cons_zero, List.getElem_cons_succ, List.setIfInBounds_toArray, List.set_cons_zero, List.set_cons_succ]))
  refine Kr.seqDone ?_
  go_upto_region 4 with fail
  refine Kr.seqStart ?_
  iterate 3 (refine Kr.seqP (v := ?_) (by rfl) ?_ ?_; rotate_left; (focus (go_simp; first | done | rfl)); (try simp only [Act.put, List.getElem_toArray, List.getElem_cons_zero, List.getElem_cons_succ, List.setIfInBounds_toArray, List.set_cons_zero, List.set_cons_succ]))
  refine Kr.seqDone ?_
  go_upto_region 5 with fail
  refine Kr.seqStart ?_
  iterate 2 (refine Kr.seqP (v := ?_) (by rfl) ?_ ?_; rotate_left; (focus (go_simp; first | done | rfl)); (try simp only [Act.put, List.getElem_toArray, List.getElem_cons_zero, List.getElem_cons_succ, List.setIfInBounds_toArray, List.set_cons_zero, List.set_cons_succ]))
  have hk := H.c
  simp only [Kr.Cells] at hk
  refine Kr.seqS (fun K hK => ?_)
  go_simp
  clear hk
  obtain ⟨y7, hy⟩ : ∃ y, y6.setCell ⟨br, 0, none⟩ (.slice none 0 0) = y := ⟨_, rfl⟩
  rw [hy]
  replace H := H.store 0 hy rfl rfl
  dsimp only [List.set] at H
  clear hy
  refine hK.out _ _ ?_; clear hK K
  (try simp only [Act.put, List.getElem_toArray, List.getElem_cons_zero, List.getElem_cons_succ, List.setIfInBounds_toArray, List.set_cons_zero, List.set_cons_succ])
  (refine Kr.seqP (v := ?_) (by rfl) ?_ ?_; rotate_left; (focus (go_simp; first | done | rfl)); (try simp only [Act.put, List.getElem_toArray, List.getElem_cons_zero, List.getElem_cons_succ, List.setIfInBounds_toArray, List.set_cons_zero, List.set_cons_succ]))
  refine Kr.seqDone ?_
  have hk := H.c
  simp only [Kr.Cells] at hk
  go_wp2
  refine bodyPost_ret (v := .tuple #[.agg #[.slice none 0 0], .int .i64 2]) (by simp [results, Try.results27, go_sem, hk]) rfl ⟨none, 0, 0, rfl, nw_none _, H.g⟩
set_option linter.unusedSimpArgs false in
set_option maxRecDepth 100000 in
set_option maxHeartbeats 16000000 in
theorem mPow_ok {pa : Option Addr} {na ca : Nat} {pe : Option Addr} {ne ce : Nat} {pm : Option Addr} {nm cm : Nat} {x e m : Nat} {w : World} (ha : Nw w pa na ca (digs x)) (he : Nw w pe ne ce (digs e)) (hm : Nw w pm nm cm (digs m)) (hx : x < m) (ve : e < pw 64) (vm : m < pw 32) :
    Calls Try.prog 27 #[.agg #[.slice pa na ca], .agg #[.slice pe ne ce], .agg #[.slice pm nm cm]] w (HasE (x ^ e % m) 0 w) := by
  have HC := Lib.hid (chk_ok ha hm (nw_none w) hm hx (Nat.lt_of_le_of_lt (Nat.zero_le _) hx) vm vm)
  have HX := Lib.hid hx
  have VM := Lib.hid vm
  have VE := Lib.hid ve
  have M0 : Hid (0 < m) := Lib.hid (Nat.lt_of_le_of_lt (Nat.zero_le _) hx)
  have HB := Lib.hid (nb_lt ve)
  clear hx vm ve
  have H := Sta.start w
  replace H := H.num ha
  replace H := H.num he
  replace H := H.num hm
  go_enter Try.func27, Try.ntmps27
  obtain ⟨B, hB⟩ : ∃ B, nb e = B := ⟨_, rfl⟩
  have HNB := Lib.hid hB
  have hb : B ≤ 2048 := by rw [← hB]; exact HB.out
  have hW : IntKind.i64.wrap ((B : Int) - 1) = (B : Int) - 1 := IntWalk.i64_in _ (by omega)
  have HWB := Lib.hid hW
  clear hB
  go_upto_region 0 with fail
  refine Kr.seqStart ?_
  refine Kr.seqS (fun K hK => ?_)
  go_simp
  obtain ⟨y1, hy⟩ : ∃ y, w.alloc (.cells #[.slice pa na ca] 24) = y := ⟨_, rfl⟩
  obtain ⟨ba, hb⟩ : ∃ b, w.heap.size = b := ⟨_, rfl⟩
  rw [hy, hb]
  replace H := H.alloc hy hb rfl
  clear hy hb
  refine hK.out _ _ ?_; clear hK K
  (try simp only [Act.put, List.getElem_toArray, List.getElem_cons_zero, List.getElem_cons_succ, List.setIfInBounds_toArray, List.set_cons_zero, List.set_cons_succ])
  refine Kr.seqS (fun K hK => ?_)
  go_simp
  obtain ⟨y2, hy⟩ : ∃ y, y1.alloc (.cells #[.slice pe ne ce] 24) = y := ⟨_, rfl⟩
  obtain ⟨be, hb⟩ : ∃ b, y1.heap.size = b := ⟨_, rfl⟩
  rw [hy, hb]
  replace H := H.alloc hy hb rfl
  clear hy hb
  refine hK.out _ _ ?_; clear hK K
  (try simp only [Act.put, List.getElem_toArray, List.getElem_cons_zero, List.getElem_cons_succ, List.setIfInBounds_toArray, List.set_cons_zero, List.set_cons_succ])
  refine Kr.seqS (fun K hK => ?_)
  go_simp
  obtain ⟨y3, hy⟩ : ∃ y, y2.alloc (.cells #[.slice pm nm cm] 24) = y := ⟨_, rfl⟩
  obtain ⟨bm, hb⟩ : ∃ b, y2.heap.size = b := ⟨_, rfl⟩
  rw [hy, hb]
  replace H := H.alloc hy hb rfl
  clear hy hb
  refine hK.out _ _ ?_; clear hK K
  (try simp only [Act.put, List.getElem_toArray, List.getElem_cons_zero, List.getElem_cons_succ, List.setIfInBounds_toArray, List.set_cons_zero, List.set_cons_succ])
  refine Kr.seqS (fun K hK => ?_)
  go_simp
  obtain ⟨y4, hy⟩ : ∃ y, y3.alloc (.cells #[.slice none 0 0] 24) = y := ⟨_, rfl⟩
  obtain ⟨br, hb⟩ : ∃ b, y3.heap.size = b := ⟨_, rfl⟩
  rw [hy, hb]
  replace H := H.alloc hy hb rfl
  clear hy hb
  refine hK.out _ _ ?_; clear hK K
  (try simp only [Act.put, List.getElem_toArray, List.getElem_cons_zero, List.getElem_cons_succ, List.setIfInBounds_toArray, List.set_cons_zero, List.set_cons_succ])
  (refine Kr.seqP (v := ?_) (by rfl) ?_ ?_; rotate_left; (focus (go_simp; first | done | rfl)); (try simp only [Act.put, List.getElem_toArray, List.getElem_cons_zero, List.getElem_cons_succ, List.setIfInBounds_toArray, List.set_cons_zero, List.set_cons_succ]))
  refine Kr.seqDone ?_
  go_upto_region 1 with fail
  refine Kr.seqStart ?_
  have hk := H.c
  simp only [Kr.Cells] at hk
  iterate 4 (refine Kr.seqP (v := ?_) (by rfl) ?_ ?_; rotate_left; (focus (go_simp; first | done | rfl)); (try simp only [Act.put, List.getElem_toArray, List.getElem_cons_zero, List.getElem_cons_succ, List.setIfInBounds_toArray, List.set_cons_zero, List.set_cons_succ]))
  refine Kr.seqS (fun K hK => ?_)
  go_simp
  go_at_call 70
  refine (HC.out _ H.g).mono ?_
  rintro e y5 ⟨rfl, hg⟩
  clear hk
  replace H := H.grow hg
  clear hg
  refine hK.out _ _ ?_; clear hK K
  (try simp only [Act.put, List.getElem_toArray, List.getElem_cons_zero, List.getElem_cons_succ, List.setIfInBounds_toArray, List.set_cons_zero, List.set_cons_succ])
  (refine Kr.seqP (v := ?_) (by rfl) ?_ ?_; rotate_left; (focus (go_simp; first | done | rfl)); (try simp only [Act.put, List.getElem_toArray, List.getElem_cons_zero, List.getElem_cons_succ, List.setIfInBounds_toArray, List.set_cons_zero, List.set_cons_succ]))
  refine Kr.seqDone ?_
  go_upto_region 2 with fail
  refine Kr.seqStart ?_
  have hk := H.c
  simp only [Kr.Cells] at hk
  (refine Kr.seqP (v := ?_) (by rfl) ?_ ?_; rotate_left; (focus (go_simp; first | done | rfl)); (try simp only [Act.put, List.getElem_toArray, List.getElem_cons_zero, List.getElem_cons_succ, List.setIfInBounds_toArray, List.set_cons_zero, List.set_cons_succ]))
  refine Kr.seqS (fun K hK => ?_)
  go_simp
  go_at_call 80
  refine (Valid_v (H.nw 1 rfl) VE.out).mono ?_
  rintro e y6 ⟨rfl, hg⟩
  clear hk
  replace H := H.grow hg
  clear hg
  refine hK.out _ _ ?_; clear hK K
  (try simp only [Act.put, List.getElem_toArray, List.getElem_cons_zero, List.getElem_cons_succ, List.setIfInBounds_toArray, List.set_cons_zero, List.set_cons_succ])
  iterate 2 (refine Kr.seqP (v := ?_) (by rfl) ?_ ?_; rotate_left; (focus (go_simp; first | done | rfl)); (try simp only [Act.put, List.getElem_toArray, List.getElem_cons_zero, List.getElem_cons_succ, List.setIfInBounds_toArray, List.set_cons_zero, List.set_cons_succ]))
  refine Kr.seqDone ?_
  go_upto_region 4 with fail
  refine Kr.seqStart ?_
  iterate 3 (refine Kr.seqP (v := ?_) (by rfl) ?_ ?_; rotate_left; (focus (go_simp; first | done | rfl)); (try simp only [Act.put, List.getElem_toArray, List.getElem_cons_zero, List.getElem_cons_succ, List.setIfInBounds_toArray, List.set_cons_zero, List.set_cons_succ]))
  refine Kr.seqDone ?_
  go_upto_region 6 with fail
  go_cut [9] from 26 to 28 (fun s9 W => ∃ (bp : Nat) (p17 : Option Addr) (n17 c17 : Nat) (p16 : Option Addr) (n16 c16 : Nat), s9 = .pointer (some ⟨bp, 0, none⟩) ∧ Hid (Sta w W [(bp, 0, .slice p17 n17 c17), (br, 0, .slice none 0 0), (bm, 0, .slice pm nm cm), (be, 0, .slice pe ne ce), (ba, 0, .slice pa na ca)] [N p17 n17 c17 (1 % m), N p16 n16 c16 (1), N pm nm cm (m), N pe ne ce (e), N pa na ca (x)]))
  case first =>
    refine Kr.startL (fun W' => Kr.Cells W' [(bm, 0, .slice pm nm cm)]) [] (by kernel_rfl) ?_
    have gd : Gr y6 y6.drew := (Gr.refl _).drew
    generalize y6.drew = d7 at gd ⊢
    replace H := H.grow gd
    clear gd
    (refine Kr.tS 1 [] (v := ?_) rfl (by kernel_rfl) (fun _ _ _ h => h) (by rfl) (H.sub [1] rfl) (fun wx hSx => ?_) ?_; rotate_left; (focus (simp only [Kr.Cells] at hSx; go_simp; first | done | rfl)); (try simp only [Act.put, List.getElem_toArray, List.getElem_cons_zero, List.getElem_cons_succ, List.setIfInBounds_toArray, List.set_cons_zero, List.set_cons_succ]))
    refine Kr.readyL (rs := [0, 3]) (by kernel_rfl) (by simp) ?_
    refine Kr.AllL.cons rfl (fun K hK => ?_) ?_
    · go_simp
      go_at_call 81
      refine (one_v _).mono ?_
      rintro e y8 ⟨p8, n8, c8, rfl, hr, hg⟩
      replace H := H.grow hg
      replace H := H.num hr.toNw
      clear hr hg
      refine hK.out _ _ (fun _ => (H.sub [1] rfl)) ?_; clear hK K
      (try simp only [Act.put, List.getElem_toArray, List.getElem_cons_zero, List.getElem_cons_succ, List.setIfInBounds_toArray, List.set_cons_zero, List.set_cons_succ])
      refine Kr.readyL (rs := [2, 3]) (by kernel_rfl) (by simp) ?_
      refine Kr.AllL.cons rfl (fun K hK => ?_) ?_
      · go_simp
        go_at_call 71
        refine (mrest_v (H.nw 0 rfl) (H.nw 1 rfl) (Nat.lt_of_lt_of_le (by decide) (pw_mono (show 1 ≤ 64 by decide))) (lt64 VM.out) M0.out).mono ?_
        rintro e y9 ⟨p9, n9, c9, rfl, hr, hg⟩
        replace H := H.grow hg
        replace H := H.num hr.toNw
        clear hr hg
        refine hK.out _ _ (fun _ => (H.sub [1] rfl)) ?_; clear hK K
        (try simp only [Act.put, List.getElem_toArray, List.getElem_cons_zero, List.getElem_cons_succ, List.setIfInBounds_toArray, List.set_cons_zero, List.set_cons_succ])
        refine Kr.readyL (rs := [3]) (by kernel_rfl) (by simp) ?_
        refine Kr.AllL.cons rfl (fun K hK => ?_) Kr.AllL.nil
        go_simp
        obtain ⟨y10, hy⟩ : ∃ y, y9.alloc (.cells #[.slice none 0 0] 24) = y := ⟨_, rfl⟩
        obtain ⟨bp, hb⟩ : ∃ b, y9.heap.size = b := ⟨_, rfl⟩
        rw [hy, hb]
        replace H := H.alloc hy hb rfl
        clear hy hb
        refine hK.out _ _ (fun _ => (H.sub [2] rfl)) ?_; clear hK K
        (try simp only [Act.put, List.getElem_toArray, List.getElem_cons_zero, List.getElem_cons_succ, List.setIfInBounds_toArray, List.set_cons_zero, List.set_cons_succ])
        refine Kr.readyL (rs := [4]) (by kernel_rfl) (by simp) ?_
        refine Kr.AllL.cons rfl (fun K hK => ?_) Kr.AllL.nil
        have hk := H.c
        simp only [Kr.Cells] at hk
        go_simp
        clear hk
        obtain ⟨y11, hy⟩ : ∃ y, y10.setCell ⟨bp, 0, none⟩ (.slice p9 n9 c9) = y := ⟨_, rfl⟩
        rw [hy]
        replace H := H.store 0 hy rfl rfl
        dsimp only [List.set] at H
        clear hy
        refine hK.out _ _ (fun _ => (H.sub [2] rfl)) ?_; clear hK K
        (try simp only [Act.put, List.getElem_toArray, List.getElem_cons_zero, List.getElem_cons_succ, List.setIfInBounds_toArray, List.set_cons_zero, List.set_cons_succ])
        refine Kr.doneL (by kernel_rfl) ?_ _
        go_wp2_with fail
        go_meet
        exact ⟨_, _, _, _, _, _, _, rfl, Lib.hid H⟩
      refine Kr.AllL.cons rfl (fun K hK => ?_) Kr.AllL.nil
      go_simp
      obtain ⟨y12, hy⟩ : ∃ y, y8.alloc (.cells #[.slice none 0 0] 24) = y := ⟨_, rfl⟩
      obtain ⟨bp, hb⟩ : ∃ b, y8.heap.size = b := ⟨_, rfl⟩
      rw [hy, hb]
      replace H := H.alloc hy hb rfl
      clear hy hb
      refine hK.out _ _ (fun _ => (H.sub [2] rfl)) ?_; clear hK K
      (try simp only [Act.put, List.getElem_toArray, List.getElem_cons_zero, List.getElem_cons_succ, List.setIfInBounds_toArray, List.set_cons_zero, List.set_cons_succ])
      refine Kr.readyL (rs := [2]) (by kernel_rfl) (by simp) ?_
      refine Kr.AllL.cons rfl (fun K hK => ?_) Kr.AllL.nil
      go_simp
      go_at_call 71
      refine (mrest_v (H.nw 0 rfl) (H.nw 1 rfl) (Nat.lt_of_lt_of_le (by decide) (pw_mono (show 1 ≤ 64 by decide))) (lt64 VM.out) M0.out).mono ?_
      rintro e y13 ⟨p13, n13, c13, rfl, hr, hg⟩
      replace H := H.grow hg
      replace H := H.num hr.toNw
      clear hr hg
      refine hK.out _ _ (fun _ => (H.sub [2] rfl)) ?_; clear hK K
      (try simp only [Act.put, List.getElem_toArray, List.getElem_cons_zero, List.getElem_cons_succ, List.setIfInBounds_toArray, List.set_cons_zero, List.set_cons_succ])
      refine Kr.readyL (rs := [4]) (by kernel_rfl) (by simp) ?_
      refine Kr.AllL.cons rfl (fun K hK => ?_) Kr.AllL.nil
      have hk := H.c
      simp only [Kr.Cells] at hk
      go_simp
      clear hk
      obtain ⟨y14, hy⟩ : ∃ y, y13.setCell ⟨bp, 0, none⟩ (.slice p13 n13 c13) = y := ⟨_, rfl⟩
      rw [hy]
      replace H := H.store 0 hy rfl rfl
      dsimp only [List.set] at H
      clear hy
      refine hK.out _ _ (fun _ => (H.sub [2] rfl)) ?_; clear hK K
      (try simp only [Act.put, List.getElem_toArray, List.getElem_cons_zero, List.getElem_cons_succ, List.setIfInBounds_toArray, List.set_cons_zero, List.set_cons_succ])
      refine Kr.doneL (by kernel_rfl) ?_ _
      go_wp2_with fail
      go_meet
      exact ⟨_, _, _, _, _, _, _, rfl, Lib.hid H⟩
    refine Kr.AllL.cons rfl (fun K hK => ?_) Kr.AllL.nil
    go_simp
    obtain ⟨y15, hy⟩ : ∃ y, d7.alloc (.cells #[.slice none 0 0] 24) = y := ⟨_, rfl⟩
    obtain ⟨bp, hb⟩ : ∃ b, d7.heap.size = b := ⟨_, rfl⟩
    rw [hy, hb]
    replace H := H.alloc hy hb rfl
    clear hy hb
    refine hK.out _ _ (fun _ => (H.sub [2] rfl)) ?_; clear hK K
    (try simp only [Act.put, List.getElem_toArray, List.getElem_cons_zero, List.getElem_cons_succ, List.setIfInBounds_toArray, List.set_cons_zero, List.set_cons_succ])
    refine Kr.readyL (rs := [0]) (by kernel_rfl) (by simp) ?_
    refine Kr.AllL.cons rfl (fun K hK => ?_) Kr.AllL.nil
    go_simp
    go_at_call 81
    refine (one_v _).mono ?_
    rintro e y16 ⟨p16, n16, c16, rfl, hr, hg⟩
    replace H := H.grow hg
    replace H := H.num hr.toNw
    clear hr hg
    refine hK.out _ _ (fun _ => (H.sub [2] rfl)) ?_; clear hK K
    (try simp only [Act.put, List.getElem_toArray, List.getElem_cons_zero, List.getElem_cons_succ, List.setIfInBounds_toArray, List.set_cons_zero, List.set_cons_succ])
    refine Kr.readyL (rs := [2]) (by kernel_rfl) (by simp) ?_
    refine Kr.AllL.cons rfl (fun K hK => ?_) Kr.AllL.nil
    go_simp
    go_at_call 71
    refine (mrest_v (H.nw 0 rfl) (H.nw 1 rfl) (Nat.lt_of_lt_of_le (by decide) (pw_mono (show 1 ≤ 64 by decide))) (lt64 VM.out) M0.out).mono ?_
    rintro e y17 ⟨p17, n17, c17, rfl, hr, hg⟩
    replace H := H.grow hg
    replace H := H.num hr.toNw
    clear hr hg
    refine hK.out _ _ (fun _ => (H.sub [2] rfl)) ?_; clear hK K
    (try simp only [Act.put, List.getElem_toArray, List.getElem_cons_zero, List.getElem_cons_succ, List.setIfInBounds_toArray, List.set_cons_zero, List.set_cons_succ])
    refine Kr.readyL (rs := [4]) (by kernel_rfl) (by simp) ?_
    refine Kr.AllL.cons rfl (fun K hK => ?_) Kr.AllL.nil
    have hk := H.c
    simp only [Kr.Cells] at hk
    go_simp
    clear hk
    obtain ⟨y18, hy⟩ : ∃ y, y17.setCell ⟨bp, 0, none⟩ (.slice p17 n17 c17) = y := ⟨_, rfl⟩
    rw [hy]
    replace H := H.store 0 hy rfl rfl
    dsimp only [List.set] at H
    clear hy
    refine hK.out _ _ (fun _ => (H.sub [2] rfl)) ?_; clear hK K
    (try simp only [Act.put, List.getElem_toArray, List.getElem_cons_zero, List.getElem_cons_succ, List.setIfInBounds_toArray, List.set_cons_zero, List.set_cons_succ])
    refine Kr.doneL (by kernel_rfl) ?_ _
    go_wp2_with fail
    go_meet
    exact ⟨_, _, _, _, _, _, _, rfl, Lib.hid H⟩
  case rest =>
    clear H
    obtain ⟨bp, p17, n17, c17, p16, n16, c16, rfl, HH⟩ := hcut
    have H := HH.out
    clear HH
    go_upto_region 7 with fail
    refine Kr.seqStart ?_
    have hk := H.c
    simp only [Kr.Cells] at hk
    (refine Kr.seqP (v := ?_) (by rfl) ?_ ?_; rotate_left; (focus (go_simp; first | done | rfl)); (try simp only [Act.put, List.getElem_toArray, List.getElem_cons_zero, List.getElem_cons_succ, List.setIfInBounds_toArray, List.set_cons_zero, List.set_cons_succ]))
    refine Kr.seqS (fun K hK => ?_)
    go_simp
    go_at_call 82
    refine (Bits_v (H.nw 3 rfl) VE.out).mono ?_
    rintro e y19 ⟨rfl, hg⟩
    rw [HNB.out]
    clear hk
    replace H := H.grow hg
    clear hg
    refine hK.out _ _ ?_; clear hK K
    (try simp only [Act.put, List.getElem_toArray, List.getElem_cons_zero, List.getElem_cons_succ, List.setIfInBounds_toArray, List.set_cons_zero, List.set_cons_succ])
    iterate 2 (refine Kr.seqP (v := ?_) (by rfl) ?_ ?_; rotate_left; (focus (go_simp; first | done | rfl)); (try simp only [Act.put, List.getElem_toArray, List.getElem_cons_zero, List.getElem_cons_succ, List.setIfInBounds_toArray, List.set_cons_zero, List.set_cons_succ]))
    refine Kr.seqDone ?_
    have H2 : Hid (Sta w y19 [(bp, 0, .slice p17 n17 c17), (br, 0, .slice none 0 0), (bm, 0, .slice pm nm cm), (be, 0, .slice pe ne ce), (ba, 0, .slice pa na ca)] [N p17 n17 c17 (x ^ (e / 2 ^ B) % m), N pa na ca (x), N pe ne ce (e), N pm nm cm (m)]) := Lib.hid (by rw [show e / 2 ^ B = 0 by rw [← HNB.out]; exact nb_zero e, Nat.pow_zero]; exact H.pick [0, 4, 3, 2] rfl)
    go_wp2
    go_loopw [10] (fun i wr => ∃ (k : Nat) (pz : Option Addr) (nz cz : Nat), k ≤ B ∧ (k = 0 ∧ i = .int .i64 (-1) ∨ ∃ j : Nat, k = j + 1 ∧ i = .int .i64 (j : Int)) ∧ Hid (Sta w wr [(bp, 0, .slice pz nz cz), (br, 0, .slice none 0 0), (bm, 0, .slice pm nm cm), (be, 0, .slice pe ne ce), (ba, 0, .slice pa na ca)] [N pz nz cz (x ^ (e / 2 ^ k) % m), N pa na ca (x), N pe ne ce (e), N pm nm cm (m)])) (fun i _ => (intOf i + 1).toNat)
    case atStart =>
      refine ⟨B, _, _, _, Nat.le_refl _, ?_, H2⟩
      rcases Nat.eq_zero_or_pos B with h0 | h0
      · exact .inl ⟨h0, by subst h0; rfl⟩
      · exact .inr ⟨B - 1, by omega, by congr 1; omega⟩
    case round =>
      clear H H2 hW
      obtain ⟨k, pz, nz, cz, hk, hik, HH⟩ := hrel
      rcases hik with ⟨rfl, rfl⟩ | ⟨j, rfl, rfl⟩
      · have H := HH.out
        clear HH
        go_upto_region 13 with fail
        refine Kr.seqStart ?_
        have hk := H.c
        simp only [Kr.Cells] at hk
        (refine Kr.seqP (v := ?_) (by rfl) ?_ ?_; rotate_left; (focus (go_simp; first | done | rfl)); (try simp only [Act.put, List.getElem_toArray, List.getElem_cons_zero, List.getElem_cons_succ, List.setIfInBounds_toArray, List.set_cons_zero, List.set_cons_succ]))
        refine Kr.seqS (fun K hK => ?_)
        go_simp
        clear hk
        obtain ⟨y20, hy⟩ : ∃ y, wr.setCell ⟨br, 0, none⟩ (.slice pz nz cz) = y := ⟨_, rfl⟩
        rw [hy]
        replace H := H.store 1 hy rfl rfl
        dsimp only [List.set] at H
        clear hy
        refine hK.out _ _ ?_; clear hK K
        (try simp only [Act.put, List.getElem_toArray, List.getElem_cons_zero, List.getElem_cons_succ, List.setIfInBounds_toArray, List.set_cons_zero, List.set_cons_succ])
        (refine Kr.seqP (v := ?_) (by rfl) ?_ ?_; rotate_left; (focus (go_simp; first | done | rfl)); (try simp only [Act.put, List.getElem_toArray, List.getElem_cons_zero, List.getElem_cons_succ, List.setIfInBounds_toArray, List.set_cons_zero, List.set_cons_succ]))
        refine Kr.seqDone ?_
        have hk := H.c
        simp only [Kr.Cells] at hk
        go_wp2
        refine bodyPost_ret (v := .tuple #[.agg #[.slice pz nz cz], .int .i64 0]) (by simp [results, Try.results27, go_sem, hk]) rfl ⟨pz, nz, cz, rfl, by have h := H.nw 0 rfl; rwa [Nat.pow_zero, Nat.div_one] at h, H.g⟩
      · have H := HH.out
        clear HH
        have hW : IntKind.i64.wrap ((j : Int) - 1) = (j : Int) - 1 := IntWalk.i64_in _ (by omega)
        have hj0 : (0 : Int) ≤ (j : Int) := by omega
        go_upto_region 10 with fail
        refine Kr.startL (fun W' => Kr.Cells W' [(bp, 0, .slice pz nz cz), (bm, 0, .slice pm nm cm)]) [5] (by kernel_rfl) ?_
        have gd : Gr wr wr.drew := (Gr.refl _).drew
        generalize wr.drew = d21 at gd ⊢
        replace H := H.grow gd
        clear gd
        (refine Kr.tS 0 [2, 4, 5] (v := ?_) rfl (by kernel_rfl) (fun _ _ _ h => h) (by rfl) (H.sub [0, 2] rfl) (fun wx hSx => ?_) ?_; rotate_left; (focus (simp only [Kr.Cells] at hSx; go_simp; first | done | rfl)); (try simp only [Act.put, List.getElem_toArray, List.getElem_cons_zero, List.getElem_cons_succ, List.setIfInBounds_toArray, List.set_cons_zero, List.set_cons_succ]))
        (refine Kr.tS 1 [2, 4, 5] (v := ?_) rfl (by kernel_rfl) (fun _ _ _ h => h) (by rfl) (H.sub [0, 2] rfl) (fun wx hSx => ?_) ?_; rotate_left; (focus (simp only [Kr.Cells] at hSx; go_simp; first | done | rfl)); (try simp only [Act.put, List.getElem_toArray, List.getElem_cons_zero, List.getElem_cons_succ, List.setIfInBounds_toArray, List.set_cons_zero, List.set_cons_succ]))
        (refine Kr.tS 3 [4, 5] (v := ?_) rfl (by kernel_rfl) (fun _ _ _ h => h) (by rfl) (H.sub [0, 2] rfl) (fun wx hSx => ?_) ?_; rotate_left; (focus (simp only [Kr.Cells] at hSx; go_simp; first | done | rfl)); (try simp only [Act.put, List.getElem_toArray, List.getElem_cons_zero, List.getElem_cons_succ, List.setIfInBounds_toArray, List.set_cons_zero, List.set_cons_succ]))
        refine Kr.readyL (rs := [2]) (by kernel_rfl) (by simp) ?_
        refine Kr.AllL.cons rfl (fun K hK => ?_) Kr.AllL.nil
        go_simp
        go_at_call 79
        refine (mtimes_v (H.nw 0 rfl) (H.nw 0 rfl) (lt64 (Nat.lt_trans (Nat.mod_lt _ M0.out) VM.out)) (lt64 (Nat.lt_trans (Nat.mod_lt _ M0.out) VM.out)) (mul_lt (Nat.mod_lt _ M0.out) (Nat.mod_lt _ M0.out) VM.out)).mono ?_
        rintro e y22 ⟨p22, n22, c22, rfl, hr, hg⟩
        replace H := H.grow hg
        replace H := H.num hr.toNw
        clear hr hg
        refine hK.out _ _ (fun _ => (H.sub [0, 2] rfl)) ?_; clear hK K
        (try simp only [Act.put, List.getElem_toArray, List.getElem_cons_zero, List.getElem_cons_succ, List.setIfInBounds_toArray, List.set_cons_zero, List.set_cons_succ])
        refine Kr.readyL (rs := [4]) (by kernel_rfl) (by simp) ?_
        refine Kr.AllL.cons rfl (fun K hK => ?_) Kr.AllL.nil
        go_simp
        go_at_call 71
        refine (mrest_v (H.nw 0 rfl) (H.nw 4 rfl) (mul_lt (Nat.mod_lt _ M0.out) (Nat.mod_lt _ M0.out) VM.out) (lt64 VM.out) M0.out).mono ?_
        rintro e y23 ⟨p23, n23, c23, rfl, hr, hg⟩
        replace H := H.grow hg
        replace H := H.num hr.toNw
        clear hr hg
        refine hK.out _ _ (fun _ => (H.sub [0, 2] rfl)) ?_; clear hK K
        (try simp only [Act.put, List.getElem_toArray, List.getElem_cons_zero, List.getElem_cons_succ, List.setIfInBounds_toArray, List.set_cons_zero, List.set_cons_succ])
        refine Kr.readyL (rs := [5]) (by kernel_rfl) (by simp) ?_
        refine Kr.AllL.cons rfl (fun K hK => ?_) Kr.AllL.nil
        have hk := H.c
        simp only [Kr.Cells] at hk
        go_simp
        clear hk
        obtain ⟨y24, hy⟩ : ∃ y, y23.setCell ⟨bp, 0, none⟩ (.slice p23 n23 c23) = y := ⟨_, rfl⟩
        rw [hy]
        replace H := H.store 0 hy rfl rfl
        dsimp only [List.set] at H
        clear hy
        refine hK.out _ _ (Kr.noStill (by kernel_rfl)) ?_; clear hK K
        (try simp only [Act.put, List.getElem_toArray, List.getElem_cons_zero, List.getElem_cons_succ, List.setIfInBounds_toArray, List.set_cons_zero, List.set_cons_succ])
        refine Kr.doneL (by kernel_rfl) ?_ _
        have HJ : Hid (j < 9223372036854775808) := Lib.hid (by omega)
        cases hbt : e.testBit j with
        | false =>
          have HBT := Lib.hid hbt
          clear hbt
          go_upto_region 11 with fail
          refine Kr.seqStart ?_
          have hk := H.c
          simp only [Kr.Cells] at hk
          iterate 2 (refine Kr.seqP (v := ?_) (by rfl) ?_ ?_; rotate_left; (focus (go_simp; first | done | rfl)); (try simp only [Act.put, List.getElem_toArray, List.getElem_cons_zero, List.getElem_cons_succ, List.setIfInBounds_toArray, List.set_cons_zero, List.set_cons_succ]))
          refine Kr.seqS (fun K hK => ?_)
          go_simp
          go_at_call 83
          refine (Bit_v j HJ.out (H.nw 4 rfl) VE.out).mono ?_
          rintro e y25 ⟨rfl, hg⟩
          rw [HBT.out]
          clear hk
          replace H := H.grow hg
          clear hg
          refine hK.out _ _ ?_; clear hK K
          (try simp only [Act.put, List.getElem_toArray, List.getElem_cons_zero, List.getElem_cons_succ, List.setIfInBounds_toArray, List.set_cons_zero, List.set_cons_succ])
          refine Kr.seqDone ?_
          go_upto_region 9 with fail
          refine Kr.seqStart ?_
          iterate 3 (refine Kr.seqP (v := ?_) (by rfl) ?_ ?_; rotate_left; (focus (go_simp; first | done | rfl)); (try simp only [Act.put, List.getElem_toArray, List.getElem_cons_zero, List.getElem_cons_succ, List.setIfInBounds_toArray, List.set_cons_zero, List.set_cons_succ]))
          refine Kr.seqDone ?_
          go_wp2
          go_roundw
          case rel =>
            refine ⟨j, p23, n23, c23, by omega, ?_, Lib.hid (by rw [← pow_0 HBT.out]; exact H.pick [0, 3, 4, 5] rfl)⟩
            rcases Nat.eq_zero_or_pos j with h0 | h0
            · exact .inl ⟨h0, by subst h0; rfl⟩
            · exact .inr ⟨j - 1, by omega, by congr 1; omega⟩
          case measure => (simp [intOf] <;> omega)
        | true =>
          have HBT := Lib.hid hbt
          clear hbt
          go_upto_region 11 with fail
          refine Kr.seqStart ?_
          have hk := H.c
          simp only [Kr.Cells] at hk
          iterate 2 (refine Kr.seqP (v := ?_) (by rfl) ?_ ?_; rotate_left; (focus (go_simp; first | done | rfl)); (try simp only [Act.put, List.getElem_toArray, List.getElem_cons_zero, List.getElem_cons_succ, List.setIfInBounds_toArray, List.set_cons_zero, List.set_cons_succ]))
          refine Kr.seqS (fun K hK => ?_)
          go_simp
          go_at_call 83
          refine (Bit_v j HJ.out (H.nw 4 rfl) VE.out).mono ?_
          rintro e y26 ⟨rfl, hg⟩
          rw [HBT.out]
          clear hk
          replace H := H.grow hg
          clear hg
          refine hK.out _ _ ?_; clear hK K
          (try simp only [Act.put, List.getElem_toArray, List.getElem_cons_zero, List.getElem_cons_succ, List.setIfInBounds_toArray, List.set_cons_zero, List.set_cons_succ])
          refine Kr.seqDone ?_
          go_upto_region 12 with fail
          refine Kr.startL (fun W' => Kr.Cells W' [(bp, 0, .slice p23 n23 c23), (ba, 0, .slice pa na ca), (bm, 0, .slice pm nm cm)]) [5] (by kernel_rfl) ?_
          have gd : Gr y26 y26.drew := (Gr.refl _).drew
          generalize y26.drew = d27 at gd ⊢
          replace H := H.grow gd
          clear gd
          (refine Kr.tS 0 [2, 4, 5] (v := ?_) rfl (by kernel_rfl) (fun _ _ _ h => h) (by rfl) (H.sub [0, 4, 2] rfl) (fun wx hSx => ?_) ?_; rotate_left; (focus (simp only [Kr.Cells] at hSx; go_simp; first | done | rfl)); (try simp only [Act.put, List.getElem_toArray, List.getElem_cons_zero, List.getElem_cons_succ, List.setIfInBounds_toArray, List.set_cons_zero, List.set_cons_succ]))
          (refine Kr.tS 1 [2, 4, 5] (v := ?_) rfl (by kernel_rfl) (fun _ _ _ h => h) (by rfl) (H.sub [0, 4, 2] rfl) (fun wx hSx => ?_) ?_; rotate_left; (focus (simp only [Kr.Cells] at hSx; go_simp; first | done | rfl)); (try simp only [Act.put, List.getElem_toArray, List.getElem_cons_zero, List.getElem_cons_succ, List.setIfInBounds_toArray, List.set_cons_zero, List.set_cons_succ]))
          (refine Kr.tS 3 [4, 5] (v := ?_) rfl (by kernel_rfl) (fun _ _ _ h => h) (by rfl) (H.sub [0, 4, 2] rfl) (fun wx hSx => ?_) ?_; rotate_left; (focus (simp only [Kr.Cells] at hSx; go_simp; first | done | rfl)); (try simp only [Act.put, List.getElem_toArray, List.getElem_cons_zero, List.getElem_cons_succ, List.setIfInBounds_toArray, List.set_cons_zero, List.set_cons_succ]))
          refine Kr.readyL (rs := [2]) (by kernel_rfl) (by simp) ?_
          refine Kr.AllL.cons rfl (fun K hK => ?_) Kr.AllL.nil
          go_simp
          go_at_call 79
          refine (mtimes_v (H.nw 0 rfl) (H.nw 3 rfl) (lt64 (Nat.lt_trans (Nat.mod_lt _ M0.out) VM.out)) (lt64 (Nat.lt_trans HX.out VM.out)) (mul_lt (Nat.mod_lt _ M0.out) HX.out VM.out)).mono ?_
          rintro e y28 ⟨p28, n28, c28, rfl, hr, hg⟩
          replace H := H.grow hg
          replace H := H.num hr.toNw
          clear hr hg
          refine hK.out _ _ (fun _ => (H.sub [0, 4, 2] rfl)) ?_; clear hK K
          (try simp only [Act.put, List.getElem_toArray, List.getElem_cons_zero, List.getElem_cons_succ, List.setIfInBounds_toArray, List.set_cons_zero, List.set_cons_succ])
          refine Kr.readyL (rs := [4]) (by kernel_rfl) (by simp) ?_
          refine Kr.AllL.cons rfl (fun K hK => ?_) Kr.AllL.nil
          go_simp
          go_at_call 71
          refine (mrest_v (H.nw 0 rfl) (H.nw 6 rfl) (mul_lt (Nat.mod_lt _ M0.out) HX.out VM.out) (lt64 VM.out) M0.out).mono ?_
          rintro e y29 ⟨p29, n29, c29, rfl, hr, hg⟩
          replace H := H.grow hg
          replace H := H.num hr.toNw
          clear hr hg
          refine hK.out _ _ (fun _ => (H.sub [0, 4, 2] rfl)) ?_; clear hK K
          (try simp only [Act.put, List.getElem_toArray, List.getElem_cons_zero, List.getElem_cons_succ, List.setIfInBounds_toArray, List.set_cons_zero, List.set_cons_succ])
          refine Kr.readyL (rs := [5]) (by kernel_rfl) (by simp) ?_
          refine Kr.AllL.cons rfl (fun K hK => ?_) Kr.AllL.nil
          have hk := H.c
          simp only [Kr.Cells] at hk
          go_simp
          clear hk
          obtain ⟨y30, hy⟩ : ∃ y, y29.setCell ⟨bp, 0, none⟩ (.slice p29 n29 c29) = y := ⟨_, rfl⟩
          rw [hy]
          replace H := H.store 0 hy rfl rfl
          dsimp only [List.set] at H
          clear hy
          refine hK.out _ _ (Kr.noStill (by kernel_rfl)) ?_; clear hK K
          (try simp only [Act.put, List.getElem_toArray, List.getElem_cons_zero, List.getElem_cons_succ, List.setIfInBounds_toArray, List.set_cons_zero, List.set_cons_succ])
          refine Kr.doneL (by kernel_rfl) ?_ _
          go_upto_region 9 with fail
          refine Kr.seqStart ?_
          iterate 3 (refine Kr.seqP (v := ?_) (by rfl) ?_ ?_; rotate_left; (focus (go_simp; first | done | rfl)); (try simp only [Act.put, List.getElem_toArray, List.getElem_cons_zero, List.getElem_cons_succ, List.setIfInBounds_toArray, List.set_cons_zero, List.set_cons_succ]))
          refine Kr.seqDone ?_
          go_wp2
          go_roundw
          case rel =>
            refine ⟨j, p29, n29, c29, by omega, ?_, Lib.hid (by rw [← pow_1 HBT.out]; exact H.pick [0, 5, 6, 7] rfl)⟩
            rcases Nat.eq_zero_or_pos j with h0 | h0
            · exact .inl ⟨h0, by subst h0; rfl⟩
            · exact .inr ⟨j - 1, by omega, by congr 1; omega⟩
          case measure => (simp [intOf] <;> omega)
end Go.Proofs.Ytlciocebbckdcaa.Mo


/- What the laws of layer 3 ask of few and first. -/
namespace Go.Proofs.Ytlciocebbckdcaa.Mr
open Go.RowKit Go.Shelf Go.Proofs.Ytlciocebbckdcaa.Nm Go.Proofs.Ytlciocebbckdcaa.Ne Go.Proofs.Ytlciocebbckdcaa.Nf Go.Proofs.Ytlciocebbckdcaa.Nk Go.Proofs.Ytlciocebbckdcaa.Nv Go.Proofs.Ytlciocebbckdcaa.Nr2 Go.Proofs.Ytlciocebbckdcaa.Mo Go.Proofs.Ytlciocebbckdcaa.Kr

theorem gives_has_c {P : Program} {f : Nat} {vs : Array Value} {z k : Nat} {w : World} (h : Calls P f vs w (Gives z k w)) : Calls P f vs w (HasE z k w) := h.mono fun _ _ h => gives_has h
theorem nats_mk {W y : World} {b : Nat} {xs : List (Option Addr × Nat × Nat)} (hy : W.alloc (.cells (xs.map fun x => Value.slice x.1 x.2.1 x.2.2).toArray 24) = y) (hb : W.heap.size = b) : Nats y b 0 xs := by
  intro i hi
  rw [← hy, ← hb, Nat.zero_add]
  rw [show (W.alloc (.cells (xs.map fun x => Value.slice x.1 x.2.1 x.2.2).toArray 24)).cell? ⟨W.heap.size, i, none⟩ = (xs.map fun x => Value.slice x.1 x.2.1 x.2.2)[i]? by simp [go_sem]]
  rw [List.getElem?_map, List.getElem?_eq_getElem hi]
  rfl
theorem few_ok {b N : Nat} {xs : List (Option Addr × Nat × Nat)} {w : World} (h : Nats w b 0 xs) (hn : xs.length ≤ 1000) (hs : ∀ x ∈ xs, x.2.1 ≤ N) :
    Calls Try.prog 19 #[.int .i64 (N : Int), .slice (some ⟨b, 0, none⟩) xs.length xs.length] w fun e w' => e = .returned (.bool true) ∧ Gr w w' := by
  refine few_any N b 0 xs.length xs.length xs rfl hn w h false ⟨fun e => (by cases e), fun ⟨j, h1, h2⟩ => ?_⟩
  have h3 := hs _ (List.getElem_mem h1)
  simp only [at3, List.getElem?_eq_getElem h1, Option.getD_some] at h2
  omega
theorem few_no {b N : Nat} {xs : List (Option Addr × Nat × Nat)} {w : World} (h : Nats w b 0 xs) (hn : xs.length ≤ 1000) (hs : ∃ x ∈ xs, N < x.2.1) :
    Calls Try.prog 19 #[.int .i64 (N : Int), .slice (some ⟨b, 0, none⟩) xs.length xs.length] w fun e w' => e = .returned (.bool false) ∧ Gr w w' := by
  refine few_any N b 0 xs.length xs.length xs rfl hn w h true ⟨fun _ => ?_, fun _ => rfl⟩
  obtain ⟨x, hx, h2⟩ := hs
  obtain ⟨j, h1, rfl⟩ := List.getElem_of_mem hx
  exact ⟨j, h1, by simp only [at3, List.getElem?_eq_getElem h1, Option.getD_some]; exact h2⟩
/-- What first answers for these numbers, at every world from w on. -/
def Fst (w : World) (m : Value) (xs : List (Option Addr × Nat × Nat)) (k : Nat) : Prop :=
  ∀ W b, Gr w W → Nats W b 0 xs → Calls Try.prog 22 #[m, .slice (some ⟨b, 0, none⟩) xs.length xs.length] W fun e w' => e = .returned (.int .i64 (k : Int)) ∧ Gr W w'
/-- The words of the numbers of a list. -/
def Wds (w : World) : List (Option Addr × Nat × Nat) → List (List Nat) → Prop
  | [], [] => True
  | x :: xs, l :: ls => Nw w x.1 x.2.1 x.2.2 l ∧ Wds w xs ls
  | _, _ => False
theorem Wds.len {w : World} : ∀ {xs : List (Option Addr × Nat × Nat)} {ls : List (List Nat)}, Wds w xs ls → xs.length = ls.length
  | [], [], _ => rfl
  | _ :: _, _ :: _, h => by simp [Wds.len h.2]
  | [], _ :: _, h => h.elim
  | _ :: _, [], h => h.elim
theorem Wds.at {w : World} : ∀ {xs : List (Option Addr × Nat × Nat)} {ls : List (List Nat)} (j : Nat), Wds w xs ls → j < xs.length → Nw w (at3 xs j).1 (at3 xs j).2.1 (at3 xs j).2.2 (ls[j]?.getD [])
  | x :: _, l :: _, 0, h, _ => h.1
  | _ :: _, _ :: _, j + 1, h, hj => by
    have := Wds.at j h.2 (by simpa using hj)
    simpa [at3] using this
  | [], _, _, _, hj => by simp at hj
  | _ :: _, [], _, h, _ => h.elim
theorem fst_arg {w : World} {p : Option Addr} {n c : Nat} {lm : List Nat} {xs : List (Option Addr × Nat × Nat)} {ls : List (List Nat)} (hm : Nw w p n c lm) (hx : Wds w xs ls) (hl : xs.length ≤ 1000) (h : im lm = false ∨ ∃ l ∈ ls, decide (valid l) = false) :
    Fst w (.agg #[.slice p n c]) xs 1 := fun W b g hN => by
  cases hi : im lm with
  | false => exact first_mod _ (hm.grow g) hi
  | true =>
    rcases h with h | ⟨l, hl1, hl2⟩
    · rw [hi] at h; cases h
    · obtain ⟨j, hj, rfl⟩ := List.getElem_of_mem hl1
      exact first_bad b 0 xs.length xs.length xs (fun j => ls[j]?.getD []) rfl hl hN (fun j hj => (hx.at j hj).grow g) (hm.grow g) hi ⟨j, by rw [hx.len]; exact hj, by simp only [List.getElem?_eq_getElem hj, Option.getD_some]; exact hl2⟩
theorem fst_val {w : World} {p : Option Addr} {n c m : Nat} {xs : List (Option Addr × Nat × Nat)} {ys : List Nat} (hm : Nw w p n c (digs m)) (h0 : 0 < m) (vm : m < pw 32) (hx : Wds w xs (ys.map digs)) (hl : xs.length ≤ 1000) (hv : ∀ y ∈ ys, y < pw 64) :
    ((∀ y ∈ ys, y < m) → Fst w (.agg #[.slice p n c]) xs 0) ∧ ((∃ y ∈ ys, ¬ y < m) → Fst w (.agg #[.slice p n c]) xs 2) := by
  have hlen : xs.length = ys.length := by rw [hx.len, List.length_map]
  have hat : ∀ j, j < xs.length → Nw w (at3 xs j).1 (at3 xs j).2.1 (at3 xs j).2.2 (digs (ys[j]?.getD 0)) := fun j hj => by
    have := hx.at j hj
    rw [List.getElem?_map, List.getElem?_eq_getElem (by rw [← hlen]; exact hj)] at this
    rw [List.getElem?_eq_getElem (by rw [← hlen]; exact hj)]
    exact this
  have hb : ∀ j, j < xs.length → ys[j]?.getD 0 < pw 64 := fun j hj => by
    rw [List.getElem?_eq_getElem (by rw [← hlen]; exact hj)]
    exact hv _ (List.getElem_mem _)
  refine ⟨fun h W b g hN => ?_, fun h W b g hN => ?_⟩
  · refine first_v b 0 xs.length xs.length m xs (fun j => ys[j]?.getD 0) rfl hl hN (fun j hj => (hat j hj).grow g) hb (hm.grow g) h0 vm false ⟨fun e => (by cases e), fun ⟨j, h1, h2⟩ => ?_⟩
    rw [List.getElem?_eq_getElem (by rw [← hlen]; exact h1)] at h2
    exact absurd (h _ (List.getElem_mem _)) h2
  · refine first_v b 0 xs.length xs.length m xs (fun j => ys[j]?.getD 0) rfl hl hN (fun j hj => (hat j hj).grow g) hb (hm.grow g) h0 vm true ⟨fun _ => ?_, fun _ => rfl⟩
    obtain ⟨y, hy, h2⟩ := h
    obtain ⟨j, h1, rfl⟩ := List.getElem_of_mem hy
    exact ⟨j, by rw [hlen]; exact h1, by rw [List.getElem?_eq_getElem h1]; exact h2⟩
section
variable {w : World} {pa : Option Addr} {na ca : Nat} {pb : Option Addr} {nb cb : Nat} {pm : Option Addr} {nm cm : Nat} {la lb lm : List Nat}
/-- The codes of one number and a modulus. -/
theorem code1 (ha : Nw w pa na ca la) (hm : Nw w pm nm cm lm) :
    ∃ k, Fst w (.agg #[.slice pm nm cm]) [(pa, na, ca)] k ∧ Chk w (.agg #[.slice pa na ca]) (.agg #[.slice pm nm cm]) (.agg #[.slice none 0 0]) (.agg #[.slice pm nm cm]) (k : Int) ∧
      (k = 1 ∨ k = 2 ∨ k = 0 ∧ ∃ x m, la = digs x ∧ lm = digs m ∧ x < m ∧ m < pw 32) := by
  have v0 : decide (valid (digs 0)) = true := dv (pw_pos 64)
  cases hi : im lm with
  | false => exact ⟨1, fst_arg (ls := [la]) hm ⟨ha, trivial⟩ (by simp) (.inl hi), chk_arg ha hm (nw_none w) hm (by rw [hi]; simp), .inl rfl⟩
  | true =>
    cases va : decide (valid la) with
    | false => exact ⟨1, fst_arg (ls := [la]) hm ⟨ha, trivial⟩ (by simp) (.inr ⟨la, List.mem_cons_self .., va⟩), chk_arg ha hm (nw_none w) hm (by rw [va]; rfl), .inl rfl⟩
    | true =>
      obtain ⟨m, h0, vm, rfl⟩ := im_value hm hi
      obtain ⟨x, hx, rfl⟩ := nw_value ha va
      have hf := fst_val (xs := [(pa, na, ca)]) (ys := [x]) hm h0 vm ⟨ha, trivial⟩ (by simp) (by simpa using hx)
      by_cases h : x < m
      · exact ⟨0, hf.1 (by simpa using h), chk_ok ha hm (nw_none w) hm h h0 vm vm, .inr (.inr ⟨rfl, x, m, rfl, rfl, h, vm⟩)⟩
      · exact ⟨2, hf.2 ⟨x, List.mem_cons_self .., h⟩, chk_range ha hm (nw_none w) hm hx (pw_pos 64) (fun h2 => h h2.1) h0 vm h0 vm, .inr (.inl rfl)⟩
/-- The codes of two numbers and a modulus. -/
theorem code2 (ha : Nw w pa na ca la) (hb : Nw w pb nb cb lb) (hm : Nw w pm nm cm lm) :
    ∃ k, Fst w (.agg #[.slice pm nm cm]) [(pa, na, ca), (pb, nb, cb)] k ∧ Chk w (.agg #[.slice pa na ca]) (.agg #[.slice pm nm cm]) (.agg #[.slice pb nb cb]) (.agg #[.slice pm nm cm]) (k : Int) ∧
      (k = 1 ∨ k = 2 ∨ k = 0 ∧ ∃ x y m, la = digs x ∧ lb = digs y ∧ lm = digs m ∧ x < m ∧ y < m ∧ m < pw 32) := by
  cases hi : im lm with
  | false => exact ⟨1, fst_arg (ls := [la, lb]) hm ⟨ha, hb, trivial⟩ (by simp) (.inl hi), chk_arg ha hm hb hm (by rw [hi]; simp), .inl rfl⟩
  | true =>
    cases va : decide (valid la) with
    | false => exact ⟨1, fst_arg (ls := [la, lb]) hm ⟨ha, hb, trivial⟩ (by simp) (.inr ⟨la, by simp, va⟩), chk_arg ha hm hb hm (by rw [va]; rfl), .inl rfl⟩
    | true =>
      cases vb : decide (valid lb) with
      | false => exact ⟨1, fst_arg (ls := [la, lb]) hm ⟨ha, hb, trivial⟩ (by simp) (.inr ⟨lb, by simp, vb⟩), chk_arg ha hm hb hm (by rw [vb]; simp), .inl rfl⟩
      | true =>
        obtain ⟨m, h0, vm, rfl⟩ := im_value hm hi
        obtain ⟨x, hx, rfl⟩ := nw_value ha va
        obtain ⟨y, hy, rfl⟩ := nw_value hb vb
        have hf := fst_val (xs := [(pa, na, ca), (pb, nb, cb)]) (ys := [x, y]) hm h0 vm ⟨ha, hb, trivial⟩ (by simp) (by simpa using ⟨hx, hy⟩)
        by_cases h : x < m ∧ y < m
        · exact ⟨0, hf.1 (by simpa using h), chk_ok ha hm hb hm h.1 h.2 vm vm, .inr (.inr ⟨rfl, x, y, m, rfl, rfl, rfl, h.1, h.2, vm⟩)⟩
        · refine ⟨2, hf.2 ?_, chk_range ha hm hb hm hx hy h h0 vm h0 vm, .inr (.inl rfl)⟩
          by_cases h1 : x < m
          · exact ⟨y, by simp, fun h2 => h ⟨h1, h2⟩⟩
          · exact ⟨x, by simp, h1⟩
end
end Go.Proofs.Ytlciocebbckdcaa.Mr


/- The contract of the reference's sum. -/
namespace Go.Proofs.Ytlciocebbckdcaa.Nr2
open Go.RowKit Go.Shelf Go.Proofs.Ytlciocebbckdcaa.Nm Go.Proofs.Ytlciocebbckdcaa.Ne Go.Proofs.Ytlciocebbckdcaa.Nf Go.Proofs.Ytlciocebbckdcaa.Nk Go.Proofs.Ytlciocebbckdcaa.Nv

/-- k words of the sum. -/
def SumAt (x y k c : Nat) (r : List Nat) : Prop := r.length = k ∧ ok r ∧ val r + pw k * c = x % pw k + y % pw k ∧ c ≤ 1
theorem SumAt.start (x y : Nat) : SumAt x y 0 0 [] := ⟨rfl, ok_nil, by have : pw 0 = 1 := rfl; rw [this, Nat.mod_one, Nat.mod_one]; rfl, by decide⟩
theorem SumAt.step {x y k c : Nat} {r : List Nat} (h : SumAt x y k c r) : SumAt x y (k + 1) ((dg x k + dg y k + c) / 4294967296) (r ++ [(dg x k + dg y k + c) % 4294967296]) := by
  obtain ⟨h1, h2, h3, h4⟩ := h
  have d1 := dg_lt x k
  have d2 := dg_lt y k
  refine ⟨by simp [h1], ok_append.2 ⟨h2, ok_cons.2 ⟨Nat.mod_lt _ (by decide), ok_nil⟩⟩, ?_, by omega⟩
  rw [val_snoc, h1, mod_step, mod_step]
  have e : pw (k + 1) = pw k * 4294967296 := by rw [pw_add]; rfl
  rw [e, Nat.mul_assoc, Nat.add_assoc, ← Nat.mul_add, Nat.mod_add_div, Nat.mul_add, Nat.mul_add]
  omega
theorem SumAt.done {x y k c : Nat} {r : List Nat} (h : SumAt x y k c r) (hx : x < pw k) (hy : y < pw k) : val (r ++ [c]) = x + y ∧ ok (r ++ [c]) := by
  obtain ⟨h1, h2, h3, h4⟩ := h
  rw [Nat.mod_eq_of_lt hx, Nat.mod_eq_of_lt hy] at h3
  exact ⟨by rw [val_snoc, h1]; exact h3, ok_append.2 ⟨h2, ok_cons.2 ⟨by omega, ok_nil⟩⟩⟩

end Go.Proofs.Ytlciocebbckdcaa.Nr2


/- The contract of the reference's Sub. -/
namespace Go.Proofs.Ytlciocebbckdcaa.Nr2
open Go.RowKit Go.Shelf Go.Proofs.Ytlciocebbckdcaa.Nm Go.Proofs.Ytlciocebbckdcaa.Ne Go.Proofs.Ytlciocebbckdcaa.Nf Go.Proofs.Ytlciocebbckdcaa.Nk Go.Proofs.Ytlciocebbckdcaa.Nv

/-- k words of the difference. -/
def DifAt (x y k c : Nat) (r : List Nat) : Prop := r.length = k ∧ ok r ∧ val r + y % pw k = x % pw k + pw k * c ∧ c ≤ 1
theorem DifAt.start (x y : Nat) : DifAt x y 0 0 [] := ⟨rfl, ok_nil, by have : pw 0 = 1 := rfl; rw [this, Nat.mod_one, Nat.mod_one]; rfl, by decide⟩
theorem DifAt.step {x y k c v c' : Nat} {r : List Nat} (h : DifAt x y k c r) (hv : v < 4294967296) (hc : c' ≤ 1) (e : v + dg y k + c = dg x k + 4294967296 * c') : DifAt x y (k + 1) c' (r ++ [v]) := by
  obtain ⟨h1, h2, h3, h4⟩ := h
  refine ⟨by simp [h1], ok_append.2 ⟨h2, ok_cons.2 ⟨hv, ok_nil⟩⟩, ?_, hc⟩
  rw [val_snoc, h1, mod_step, mod_step]
  have e2 : pw (k + 1) = pw k * 4294967296 := by rw [pw_add]; rfl
  have e3 : pw k * v + pw k * dg y k + pw k * c = pw k * dg x k + pw k * 4294967296 * c' := by
    rw [← Nat.mul_add, ← Nat.mul_add, e, Nat.mul_add, Nat.mul_assoc]
  rw [e2]
  omega
theorem DifAt.done {x y k c : Nat} {r : List Nat} (h : DifAt x y k c r) (hx : x < pw k) (hyx : y ≤ x) : val r = x - y := by
  obtain ⟨h1, h2, h3, h4⟩ := h
  rw [Nat.mod_eq_of_lt hx, Nat.mod_eq_of_lt (Nat.lt_of_le_of_lt hyx hx)] at h3
  have h5 := val_lt h2
  rw [h1] at h5
  rcases Nat.eq_zero_or_pos c with h0 | h0
  · subst h0; omega
  · have : c = 1 := by omega
    subst this
    omega

end Go.Proofs.Ytlciocebbckdcaa.Nr2


/- The contracts of the third reference's Plus and Minus. -/
namespace Go.Proofs.Ytlciocebbckdcaa.Mr
open Go.RowKit Go.Shelf Go.Proofs.Ytlciocebbckdcaa.Nm Go.Proofs.Ytlciocebbckdcaa.Ne Go.Proofs.Ytlciocebbckdcaa.Nf Go.Proofs.Ytlciocebbckdcaa.Nk Go.Proofs.Ytlciocebbckdcaa.Nv Go.Proofs.Ytlciocebbckdcaa.Nr2 Go.Proofs.Ytlciocebbckdcaa.Mo Go.Proofs.Ytlciocebbckdcaa.Mr Go.Proofs.Ytlciocebbckdcaa.Kr
theorem word3_v (p : Option Addr) (n c i x : Nat) (w : World) (h : Nw w p n c (digs x)) :
    Calls Try.prog 92 #[.agg #[.slice p n c], .int .i64 (i : Int)] w fun e w' => e = .returned (.int .u64 (dg x i : Int)) ∧ Gr w w' := by
  have := word3_any p n c i _ w h
  rwa [digs_get] at this
theorem trim3_w (p : Option Addr) (n c : Nat) (l : List Nat) (w : World) (h : Nw w p n c l) :
    Calls Try.prog 91 #[.slice p n c] w fun e w' => ∃ (q : Option Addr) (k d : Nat), e = .returned (.agg #[.slice q k d]) ∧ Nw w' q k d (digs (val l)) ∧ Gr w w' := by
  refine (trim3_any p n c l w h).mono ?_
  rintro e w' ⟨k, rfl, hk, ht, hg⟩
  have h2 := h.grow hg
  refine ⟨p, k, c, rfl, ⟨?_, Nat.le_trans hk h2.le, fun e => ⟨by have := (h2.nil e).1; omega, (h2.nil e).2⟩, ?_, ok_digs _, Nat.le_trans hk h2.small⟩, hg⟩
  · rw [← ht, List.length_take, h2.len]; omega
  · rw [← ht]; exact h2.rd.take k
theorem sum_end {x y k c N : Nat} {r : List Nat} (h : SumAt x y k c r) (hx : x < pw N) (hy : y < pw N) (hk : N + 1 ≤ k) : c = 0 := by
  obtain ⟨h1, h2, h3, h4⟩ := h
  have hxk : x < pw k := Nat.lt_of_lt_of_le hx (pw_mono (by omega))
  have hyk : y < pw k := Nat.lt_of_lt_of_le hy (pw_mono (by omega))
  rw [Nat.mod_eq_of_lt hxk, Nat.mod_eq_of_lt hyk] at h3
  have h5 : pw (N + 1) ≤ pw k := pw_mono hk
  have h6 : pw (N + 1) = pw N * 4294967296 := by rw [pw_add]; rfl
  rcases Nat.eq_zero_or_pos c with h0 | h0
  · exact h0
  · have : c = 1 := by omega
    subst this
    omega
theorem sum_val {x y k N : Nat} {r : List Nat} (h : SumAt x y k 0 r) (hx : x < pw N) (hy : y < pw N) (hk : N ≤ k) : val r = x + y := by
  obtain ⟨h1, h2, h3, h4⟩ := h
  rw [Nat.mod_eq_of_lt (Nat.lt_of_lt_of_le hx (pw_mono hk)), Nat.mod_eq_of_lt (Nat.lt_of_lt_of_le hy (pw_mono hk))] at h3
  omega

set_option linter.unusedSimpArgs false in
set_option maxRecDepth 100000 in
set_option maxHeartbeats 16000000 in
theorem rplus3_v {pa : Option Addr} {na ca : Nat} {pb : Option Addr} {nb cb : Nat} {x y : Nat} {w : World} (ha : Nw w pa na ca (digs x)) (hb : Nw w pb nb cb (digs y)) (hn : na ≤ 1000) (hm : nb ≤ 1000) :
    Calls Try.prog 43 #[.agg #[.slice pa na ca], .agg #[.slice pb nb cb]] w (Has (x + y) w) := by
  have HXn : Hid (x < pw na) := Lib.hid ((digs_length_le x na).1 (by rw [ha.len]; exact Nat.le_refl _))
  have HYn : Hid (y < pw nb) := Lib.hid ((digs_length_le y nb).1 (by rw [hb.len]; exact Nat.le_refl _))
  obtain ⟨i0, hi, hz0, hz1, hz2⟩ := info_parts infoW
  have H := Sta.start w
  replace H := H.num ha
  replace H := H.num hb
  go_enter Try.func43, Try.ntmps43
  go_upto_region 0 with fail
  refine Kr.seqStart ?_
  refine Kr.seqS (fun K hK => ?_)
  go_simp
  obtain ⟨y1, hy⟩ : ∃ y, w.alloc (.cells #[.slice pa na ca] 24) = y := ⟨_, rfl⟩
  obtain ⟨ba, hb⟩ : ∃ b, w.heap.size = b := ⟨_, rfl⟩
  rw [hy, hb]
  replace H := H.alloc hy hb rfl
  clear hy hb
  refine hK.out _ _ ?_; clear hK K
  (try simp only [Act.put, List.getElem_toArray, List.getElem_cons_zero, List.getElem_cons_succ, List.setIfInBounds_toArray, List.set_cons_zero, List.set_cons_succ])
  refine Kr.seqS (fun K hK => ?_)
  go_simp
  obtain ⟨y2, hy⟩ : ∃ y, y1.alloc (.cells #[.slice pb nb cb] 24) = y := ⟨_, rfl⟩
  obtain ⟨bb, hb⟩ : ∃ b, y1.heap.size = b := ⟨_, rfl⟩
  rw [hy, hb]
  replace H := H.alloc hy hb rfl
  clear hy hb
  refine hK.out _ _ ?_; clear hK K
  (try simp only [Act.put, List.getElem_toArray, List.getElem_cons_zero, List.getElem_cons_succ, List.setIfInBounds_toArray, List.set_cons_zero, List.set_cons_succ])
  refine Kr.seqS (fun K hK => ?_)
  go_simp
  obtain ⟨y3, hy⟩ : ∃ y, y2.alloc (.cells #[.slice none 0 0] 24) = y := ⟨_, rfl⟩
  obtain ⟨br, hb⟩ : ∃ b, y2.heap.size = b := ⟨_, rfl⟩
  rw [hy, hb]
  replace H := H.alloc hy hb rfl
  clear hy hb
  refine hK.out _ _ ?_; clear hK K
  (try simp only [Act.put, List.getElem_toArray, List.getElem_cons_zero, List.getElem_cons_succ, List.setIfInBounds_toArray, List.set_cons_zero, List.set_cons_succ])
  refine Kr.seqDone ?_
  obtain ⟨W0, hW0⟩ : ∃ W0, W0 = y3 := ⟨_, rfl⟩
  rw [← hW0] at H ⊢
  clear hW0
  have H0 := Lib.hid H
  clear H
  go_wp2
  obtain ⟨M, hM⟩ : ∃ M, max na nb = M := ⟨_, rfl⟩
  have hMa : na ≤ M := by omega
  have hMb : nb ≤ M := by omega
  have hM2 : M ≤ 1000 := by omega
  clear hM
  go_loopw [5, 6, 7] (fun o cr i wr => ∃ (k cc : Nat) (r : List Nat), k ≤ M + 1 ∧ i = .int .i64 k ∧ cr = .int .u64 cc ∧ Hid (SumAt x y k cc r) ∧ cc ≤ 1 ∧ Hid (Bld W0 o r wr) ∧ ∃ po co, o = .slice po k co) (fun _ _ i _ => M + 1 - (intOf i).toNat)
  case atStart => exact ⟨0, 0, [], Nat.zero_le _, rfl, rfl, SumAt.start x y, by decide, Bld.start W0, none, 0, rfl⟩
  case round =>
    obtain ⟨k, cc, r, hk, rfl, rfl, HS, hcc, HBl, po, co, rfl⟩ := hrel
    have H := H0.out.grow HBl.out.2.2
    have HL : Hid (r.length = k) := Lib.hid HS.out.1
    have hd : (k < na ∨ ¬ k < na ∧ k < nb) ∨ (¬ k < na ∧ ¬ k < nb ∧ 0 < cc) ∨ (¬ k < na ∧ ¬ k < nb ∧ cc = 0) := by omega
    rcases hd with (h1 | ⟨h1, h2⟩) | ⟨h1, h2, h3⟩ | ⟨h1, h2, rfl⟩
    · skip
      have hk := H.c
      simp only [Kr.Cells] at hk
      have HK1 : Hid (k ≤ M) := Lib.hid (by first | omega | exact Nat.le_of_not_lt fun h => by have := sum_end HS.out (Nat.lt_of_lt_of_le HXn.out (pw_mono hMa)) (Nat.lt_of_lt_of_le HYn.out (pw_mono hMb)) h; omega)
      go_upto_region 6 with fail
      obtain ⟨a, hda⟩ : ∃ a, dg x k = a := ⟨_, rfl⟩
      obtain ⟨b, hdb⟩ : ∃ b, dg y k = b := ⟨_, rfl⟩
      have HDA := Lib.hid hda
      have HDB := Lib.hid hdb
      have hda1 : a < 4294967296 := by rw [← hda]; exact dg_lt x k
      have hdb1 : b < 4294967296 := by rw [← hdb]; exact dg_lt y k
      have HST := Lib.hid HS.out.step
      rw [hda, hdb] at HST
      obtain ⟨lo, hlo⟩ : ∃ lo, (a + b + cc) % 4294967296 = lo := ⟨_, rfl⟩
      obtain ⟨hh, hhi⟩ : ∃ hh, (a + b + cc) / 4294967296 = hh := ⟨_, rfl⟩
      rw [hlo, hhi] at HST
      have w1 : IntKind.u64.wrap ((a : Int) + (b : Int)) = (a : Int) + (b : Int) := by rw [IntKind.wrap_u64]; omega
      have w2 : IntKind.u64.wrap ((a : Int) + (b : Int) + (cc : Int)) = (a : Int) + (b : Int) + (cc : Int) := by rw [IntKind.wrap_u64]; omega
      have hh1 : hh ≤ 1 := by omega
      have t2 : ((a : Int) + (b : Int) + (cc : Int)) / 4294967296 = (hh : Int) := by omega
      have t1 : ((a : Int) + (b : Int) + (cc : Int)).tmod 4294967296 = (lo : Int) := by rw [Int.tmod_eq_emod_of_nonneg (by omega)]; omega
      have t3 : ((a : Int) + (b : Int) + (cc : Int)) % 4294967296 = (lo : Int) := by omega
      have u1 : IntKind.u32.wrap (lo : Int) = (lo : Int) := by rw [IntKind.wrap_u32]; omega
      have u2 : (lo : Int) % 4294967296 = (lo : Int) := by omega
      have i1 : IntKind.i64.wrap ((k : Int) + 1) = (k : Int) + 1 := IntWalk.i64_in _ (by omega)
      clear hda hdb hlo hhi
      go_upto_region 6 with fail
      clear hk
      refine Kr.startL (fun W' => Kr.Cells W' [(ba, 0, .slice pa na ca), (bb, 0, .slice pb nb cb)]) [] (by kernel_rfl) ?_
      have gd : Gr wr wr.drew := (Gr.refl _).drew
      generalize wr.drew = d4 at gd ⊢
      replace H := H.grow gd
      replace HBl := Lib.hid (HBl.out.grow gd)
      clear gd
      (refine Kr.tS 0 [] (v := ?_) rfl (by kernel_rfl) (fun _ _ _ h => h) (by rfl) (H.sub [2, 1] rfl) (fun wx hSx => ?_) ?_; rotate_left; (focus (simp only [Kr.Cells] at hSx; go_simp; first | done | rfl)); (try simp only [Act.put, List.getElem_toArray, List.getElem_cons_zero, List.getElem_cons_succ, List.setIfInBounds_toArray, List.set_cons_zero, List.set_cons_succ]))
      (refine Kr.tP 1 (v := ?_) rfl (by kernel_rfl) (fun _ _ _ h => h) (by rfl) (fun _ => (H.sub [2, 1] rfl)) (fun wx => ?_) ?_; rotate_left; (focus (go_simp; first | done | rfl)); (try simp only [Act.put, List.getElem_toArray, List.getElem_cons_zero, List.getElem_cons_succ, List.setIfInBounds_toArray, List.set_cons_zero, List.set_cons_succ]))
      (refine Kr.tS 3 [] (v := ?_) rfl (by kernel_rfl) (fun _ _ _ h => h) (by rfl) (H.sub [2, 1] rfl) (fun wx hSx => ?_) ?_; rotate_left; (focus (simp only [Kr.Cells] at hSx; go_simp; first | done | rfl)); (try simp only [Act.put, List.getElem_toArray, List.getElem_cons_zero, List.getElem_cons_succ, List.setIfInBounds_toArray, List.set_cons_zero, List.set_cons_succ]))
      (refine Kr.tP 4 (v := ?_) rfl (by kernel_rfl) (fun _ _ _ h => h) (by rfl) (fun _ => (H.sub [2, 1] rfl)) (fun wx => ?_) ?_; rotate_left; (focus (go_simp; first | done | rfl)); (try simp only [Act.put, List.getElem_toArray, List.getElem_cons_zero, List.getElem_cons_succ, List.setIfInBounds_toArray, List.set_cons_zero, List.set_cons_succ]))
      (refine Kr.tP 7 (v := ?_) rfl (by kernel_rfl) (fun _ _ _ h => h) (by rfl) (fun _ => (H.sub [2, 1] rfl)) (fun wx => ?_) ?_; rotate_left; (focus (go_simp; first | done | rfl)); (try simp only [Act.put, List.getElem_toArray, List.getElem_cons_zero, List.getElem_cons_succ, List.setIfInBounds_toArray, List.set_cons_zero, List.set_cons_succ]))
      refine Kr.readyL (rs := [2]) (by kernel_rfl) (by simp) ?_
      refine Kr.AllL.cons rfl (fun K hK => ?_) Kr.AllL.nil
      go_simp
      go_at_call 92
      refine (word3_v _ _ _ k _ _ (H.nw 1 rfl)).mono ?_
      rintro e y5 ⟨rfl, hg⟩
      rw [HDA.out]
      replace H := H.grow hg
      replace HBl := Lib.hid (HBl.out.grow hg)
      clear hg
      refine hK.out _ _ (fun _ => (H.sub [2, 1] rfl)) ?_; clear hK K
      (try simp only [Act.put, List.getElem_toArray, List.getElem_cons_zero, List.getElem_cons_succ, List.setIfInBounds_toArray, List.set_cons_zero, List.set_cons_succ])
      refine Kr.readyL (rs := [5]) (by kernel_rfl) (by simp) ?_
      refine Kr.AllL.cons rfl (fun K hK => ?_) Kr.AllL.nil
      go_simp
      go_at_call 92
      refine (word3_v _ _ _ k _ _ (H.nw 0 rfl)).mono ?_
      rintro e y6 ⟨rfl, hg⟩
      rw [HDB.out]
      replace H := H.grow hg
      replace HBl := Lib.hid (HBl.out.grow hg)
      clear hg
      refine hK.out _ _ (fun _ => (H.sub [2, 1] rfl)) ?_; clear hK K
      (try simp only [Act.put, List.getElem_toArray, List.getElem_cons_zero, List.getElem_cons_succ, List.setIfInBounds_toArray, List.set_cons_zero, List.set_cons_succ])
      (refine Kr.tP 6 (v := ?_) rfl (by kernel_rfl) (fun _ _ _ h => h) (by rfl) (fun _ => (H.sub [2, 1] rfl)) (fun wx => ?_) ?_; rotate_left; (focus (go_simp; first | done | rfl)); (try simp only [Act.put, List.getElem_toArray, List.getElem_cons_zero, List.getElem_cons_succ, List.setIfInBounds_toArray, List.set_cons_zero, List.set_cons_succ]))
      (refine Kr.tP 8 (v := ?_) rfl (by kernel_rfl) (fun _ _ _ h => h) (by rfl) (fun _ => (H.sub [2, 1] rfl)) (fun wx => ?_) ?_; rotate_left; (focus (go_simp; first | done | rfl)); (try simp only [Act.put, List.getElem_toArray, List.getElem_cons_zero, List.getElem_cons_succ, List.setIfInBounds_toArray, List.set_cons_zero, List.set_cons_succ]))
      (refine Kr.tP 9 (v := ?_) rfl (by kernel_rfl) (fun _ _ _ h => h) (by rfl) (fun _ => (H.sub [2, 1] rfl)) (fun wx => ?_) ?_; rotate_left; (focus (go_simp; first | done | rfl)); (try simp only [Act.put, List.getElem_toArray, List.getElem_cons_zero, List.getElem_cons_succ, List.setIfInBounds_toArray, List.set_cons_zero, List.set_cons_succ]))
      refine Kr.doneL (by kernel_rfl) ?_ _
      go_upto_region 7 with fail
      refine Kr.seqStart ?_
      iterate 4 (refine Kr.seqP (v := ?_) (by rfl) ?_ ?_; rotate_left; (focus (go_simp; first | done | rfl)); (try simp only [Act.put, List.getElem_toArray, List.getElem_cons_zero, List.getElem_cons_succ, List.setIfInBounds_toArray, List.set_cons_zero, List.set_cons_succ]))
      refine Kr.seqS (fun K hK => ?_)
      go_simp
      obtain ⟨y7, hy⟩ : ∃ y, y6.alloc (.cells #[.int .u32 (lo : Int)] 50) = y := ⟨_, rfl⟩
      obtain ⟨bn, hbn⟩ : ∃ b, y6.heap.size = b := ⟨_, rfl⟩
      rw [hy, hbn]
      have hg : Gr y6 y7 := hy ▸ (Gr.refl _).alloc _
      have HONE := Lib.hid (hbn ▸ hy ▸ one_new y6 lo)
      clear H
      replace HBl := Lib.hid (HBl.out.grow hg)
      clear hg hy hbn
      refine hK.out _ _ ?_; clear hK K
      (try simp only [Act.put, List.getElem_toArray, List.getElem_cons_zero, List.getElem_cons_succ, List.setIfInBounds_toArray, List.set_cons_zero, List.set_cons_succ])
      refine wpList_append_own _ rfl _ _ 22 rfl W0.heap.size 50 i0 (.int .u32 0) 1 4 Try.underlying22 hi hz0 hz1 hz2 rfl (by decide) (.slice po k co) k (cw r) rfl (ownsRow_at HL.out HBl.out) ⟨bn, 0, none⟩ 1 1 [.int .u32 (lo : Int)] rfl rfl HONE.out (by simp [Value.oneCell']) (by unfold maxLen; omega) (by omega) HBl.out.2.2.size ?_
      intro v1 w3 hown hgrow _
      have hb3 := Bld.step HL.out HBl.out hown hgrow
      have HB3 := Lib.hid hb3.1
      obtain ⟨p3, cap3, rfl⟩ := hb3.2
      clear hown hgrow hb3 HONE
      (try simp only [Act.put, List.getElem_toArray, List.getElem_cons_zero, List.getElem_cons_succ, List.setIfInBounds_toArray, List.set_cons_zero, List.set_cons_succ])
      have H := H0.out.grow HB3.out.2.2
      (refine Kr.seqP (v := ?_) (by rfl) ?_ ?_; rotate_left; (focus (go_simp; first | done | rfl)); (try simp only [Act.put, List.getElem_toArray, List.getElem_cons_zero, List.getElem_cons_succ, List.setIfInBounds_toArray, List.set_cons_zero, List.set_cons_succ]))
      refine Kr.seqDone ?_
      clear H
      go_wp2
      go_roundw
      case rel => exact ⟨k + 1, hh, r ++ [lo], by have := HK1.out; omega, by go_num, rfl, HST, hh1, HB3, p3, cap3, rfl⟩
      case measure => (have := HK1.out; simp [intOf] <;> omega)
    · skip
      have hk := H.c
      simp only [Kr.Cells] at hk
      have HK1 : Hid (k ≤ M) := Lib.hid (by first | omega | exact Nat.le_of_not_lt fun h => by have := sum_end HS.out (Nat.lt_of_lt_of_le HXn.out (pw_mono hMa)) (Nat.lt_of_lt_of_le HYn.out (pw_mono hMb)) h; omega)
      go_upto_region 6 with fail
      obtain ⟨a, hda⟩ : ∃ a, dg x k = a := ⟨_, rfl⟩
      obtain ⟨b, hdb⟩ : ∃ b, dg y k = b := ⟨_, rfl⟩
      have HDA := Lib.hid hda
      have HDB := Lib.hid hdb
      have hda1 : a < 4294967296 := by rw [← hda]; exact dg_lt x k
      have hdb1 : b < 4294967296 := by rw [← hdb]; exact dg_lt y k
      have HST := Lib.hid HS.out.step
      rw [hda, hdb] at HST
      obtain ⟨lo, hlo⟩ : ∃ lo, (a + b + cc) % 4294967296 = lo := ⟨_, rfl⟩
      obtain ⟨hh, hhi⟩ : ∃ hh, (a + b + cc) / 4294967296 = hh := ⟨_, rfl⟩
      rw [hlo, hhi] at HST
      have w1 : IntKind.u64.wrap ((a : Int) + (b : Int)) = (a : Int) + (b : Int) := by rw [IntKind.wrap_u64]; omega
      have w2 : IntKind.u64.wrap ((a : Int) + (b : Int) + (cc : Int)) = (a : Int) + (b : Int) + (cc : Int) := by rw [IntKind.wrap_u64]; omega
      have hh1 : hh ≤ 1 := by omega
      have t2 : ((a : Int) + (b : Int) + (cc : Int)) / 4294967296 = (hh : Int) := by omega
      have t1 : ((a : Int) + (b : Int) + (cc : Int)).tmod 4294967296 = (lo : Int) := by rw [Int.tmod_eq_emod_of_nonneg (by omega)]; omega
      have t3 : ((a : Int) + (b : Int) + (cc : Int)) % 4294967296 = (lo : Int) := by omega
      have u1 : IntKind.u32.wrap (lo : Int) = (lo : Int) := by rw [IntKind.wrap_u32]; omega
      have u2 : (lo : Int) % 4294967296 = (lo : Int) := by omega
      have i1 : IntKind.i64.wrap ((k : Int) + 1) = (k : Int) + 1 := IntWalk.i64_in _ (by omega)
      clear hda hdb hlo hhi
      go_upto_region 6 with fail
      clear hk
      refine Kr.startL (fun W' => Kr.Cells W' [(ba, 0, .slice pa na ca), (bb, 0, .slice pb nb cb)]) [] (by kernel_rfl) ?_
      have gd : Gr wr wr.drew := (Gr.refl _).drew
      generalize wr.drew = d8 at gd ⊢
      replace H := H.grow gd
      replace HBl := Lib.hid (HBl.out.grow gd)
      clear gd
      (refine Kr.tS 0 [] (v := ?_) rfl (by kernel_rfl) (fun _ _ _ h => h) (by rfl) (H.sub [2, 1] rfl) (fun wx hSx => ?_) ?_; rotate_left; (focus (simp only [Kr.Cells] at hSx; go_simp; first | done | rfl)); (try simp only [Act.put, List.getElem_toArray, List.getElem_cons_zero, List.getElem_cons_succ, List.setIfInBounds_toArray, List.set_cons_zero, List.set_cons_succ]))
      (refine Kr.tP 1 (v := ?_) rfl (by kernel_rfl) (fun _ _ _ h => h) (by rfl) (fun _ => (H.sub [2, 1] rfl)) (fun wx => ?_) ?_; rotate_left; (focus (go_simp; first | done | rfl)); (try simp only [Act.put, List.getElem_toArray, List.getElem_cons_zero, List.getElem_cons_succ, List.setIfInBounds_toArray, List.set_cons_zero, List.set_cons_succ]))
      (refine Kr.tS 3 [] (v := ?_) rfl (by kernel_rfl) (fun _ _ _ h => h) (by rfl) (H.sub [2, 1] rfl) (fun wx hSx => ?_) ?_; rotate_left; (focus (simp only [Kr.Cells] at hSx; go_simp; first | done | rfl)); (try simp only [Act.put, List.getElem_toArray, List.getElem_cons_zero, List.getElem_cons_succ, List.setIfInBounds_toArray, List.set_cons_zero, List.set_cons_succ]))
      (refine Kr.tP 4 (v := ?_) rfl (by kernel_rfl) (fun _ _ _ h => h) (by rfl) (fun _ => (H.sub [2, 1] rfl)) (fun wx => ?_) ?_; rotate_left; (focus (go_simp; first | done | rfl)); (try simp only [Act.put, List.getElem_toArray, List.getElem_cons_zero, List.getElem_cons_succ, List.setIfInBounds_toArray, List.set_cons_zero, List.set_cons_succ]))
      (refine Kr.tP 7 (v := ?_) rfl (by kernel_rfl) (fun _ _ _ h => h) (by rfl) (fun _ => (H.sub [2, 1] rfl)) (fun wx => ?_) ?_; rotate_left; (focus (go_simp; first | done | rfl)); (try simp only [Act.put, List.getElem_toArray, List.getElem_cons_zero, List.getElem_cons_succ, List.setIfInBounds_toArray, List.set_cons_zero, List.set_cons_succ]))
      refine Kr.readyL (rs := [2]) (by kernel_rfl) (by simp) ?_
      refine Kr.AllL.cons rfl (fun K hK => ?_) Kr.AllL.nil
      go_simp
      go_at_call 92
      refine (word3_v _ _ _ k _ _ (H.nw 1 rfl)).mono ?_
      rintro e y9 ⟨rfl, hg⟩
      rw [HDA.out]
      replace H := H.grow hg
      replace HBl := Lib.hid (HBl.out.grow hg)
      clear hg
      refine hK.out _ _ (fun _ => (H.sub [2, 1] rfl)) ?_; clear hK K
      (try simp only [Act.put, List.getElem_toArray, List.getElem_cons_zero, List.getElem_cons_succ, List.setIfInBounds_toArray, List.set_cons_zero, List.set_cons_succ])
      refine Kr.readyL (rs := [5]) (by kernel_rfl) (by simp) ?_
      refine Kr.AllL.cons rfl (fun K hK => ?_) Kr.AllL.nil
      go_simp
      go_at_call 92
      refine (word3_v _ _ _ k _ _ (H.nw 0 rfl)).mono ?_
      rintro e y10 ⟨rfl, hg⟩
      rw [HDB.out]
      replace H := H.grow hg
      replace HBl := Lib.hid (HBl.out.grow hg)
      clear hg
      refine hK.out _ _ (fun _ => (H.sub [2, 1] rfl)) ?_; clear hK K
      (try simp only [Act.put, List.getElem_toArray, List.getElem_cons_zero, List.getElem_cons_succ, List.setIfInBounds_toArray, List.set_cons_zero, List.set_cons_succ])
      (refine Kr.tP 6 (v := ?_) rfl (by kernel_rfl) (fun _ _ _ h => h) (by rfl) (fun _ => (H.sub [2, 1] rfl)) (fun wx => ?_) ?_; rotate_left; (focus (go_simp; first | done | rfl)); (try simp only [Act.put, List.getElem_toArray, List.getElem_cons_zero, List.getElem_cons_succ, List.setIfInBounds_toArray, List.set_cons_zero, List.set_cons_succ]))
      (refine Kr.tP 8 (v := ?_) rfl (by kernel_rfl) (fun _ _ _ h => h) (by rfl) (fun _ => (H.sub [2, 1] rfl)) (fun wx => ?_) ?_; rotate_left; (focus (go_simp; first | done | rfl)); (try simp only [Act.put, List.getElem_toArray, List.getElem_cons_zero, List.getElem_cons_succ, List.setIfInBounds_toArray, List.set_cons_zero, List.set_cons_succ]))
      (refine Kr.tP 9 (v := ?_) rfl (by kernel_rfl) (fun _ _ _ h => h) (by rfl) (fun _ => (H.sub [2, 1] rfl)) (fun wx => ?_) ?_; rotate_left; (focus (go_simp; first | done | rfl)); (try simp only [Act.put, List.getElem_toArray, List.getElem_cons_zero, List.getElem_cons_succ, List.setIfInBounds_toArray, List.set_cons_zero, List.set_cons_succ]))
      refine Kr.doneL (by kernel_rfl) ?_ _
      go_upto_region 7 with fail
      refine Kr.seqStart ?_
      iterate 4 (refine Kr.seqP (v := ?_) (by rfl) ?_ ?_; rotate_left; (focus (go_simp; first | done | rfl)); (try simp only [Act.put, List.getElem_toArray, List.getElem_cons_zero, List.getElem_cons_succ, List.setIfInBounds_toArray, List.set_cons_zero, List.set_cons_succ]))
      refine Kr.seqS (fun K hK => ?_)
      go_simp
      obtain ⟨y11, hy⟩ : ∃ y, y10.alloc (.cells #[.int .u32 (lo : Int)] 50) = y := ⟨_, rfl⟩
      obtain ⟨bn, hbn⟩ : ∃ b, y10.heap.size = b := ⟨_, rfl⟩
      rw [hy, hbn]
      have hg : Gr y10 y11 := hy ▸ (Gr.refl _).alloc _
      have HONE := Lib.hid (hbn ▸ hy ▸ one_new y10 lo)
      clear H
      replace HBl := Lib.hid (HBl.out.grow hg)
      clear hg hy hbn
      refine hK.out _ _ ?_; clear hK K
      (try simp only [Act.put, List.getElem_toArray, List.getElem_cons_zero, List.getElem_cons_succ, List.setIfInBounds_toArray, List.set_cons_zero, List.set_cons_succ])
      refine wpList_append_own _ rfl _ _ 22 rfl W0.heap.size 50 i0 (.int .u32 0) 1 4 Try.underlying22 hi hz0 hz1 hz2 rfl (by decide) (.slice po k co) k (cw r) rfl (ownsRow_at HL.out HBl.out) ⟨bn, 0, none⟩ 1 1 [.int .u32 (lo : Int)] rfl rfl HONE.out (by simp [Value.oneCell']) (by unfold maxLen; omega) (by omega) HBl.out.2.2.size ?_
      intro v1 w3 hown hgrow _
      have hb3 := Bld.step HL.out HBl.out hown hgrow
      have HB3 := Lib.hid hb3.1
      obtain ⟨p3, cap3, rfl⟩ := hb3.2
      clear hown hgrow hb3 HONE
      (try simp only [Act.put, List.getElem_toArray, List.getElem_cons_zero, List.getElem_cons_succ, List.setIfInBounds_toArray, List.set_cons_zero, List.set_cons_succ])
      have H := H0.out.grow HB3.out.2.2
      (refine Kr.seqP (v := ?_) (by rfl) ?_ ?_; rotate_left; (focus (go_simp; first | done | rfl)); (try simp only [Act.put, List.getElem_toArray, List.getElem_cons_zero, List.getElem_cons_succ, List.setIfInBounds_toArray, List.set_cons_zero, List.set_cons_succ]))
      refine Kr.seqDone ?_
      clear H
      go_wp2
      go_roundw
      case rel => exact ⟨k + 1, hh, r ++ [lo], by have := HK1.out; omega, by go_num, rfl, HST, hh1, HB3, p3, cap3, rfl⟩
      case measure => (have := HK1.out; simp [intOf] <;> omega)
    · skip
      have hk := H.c
      simp only [Kr.Cells] at hk
      have HK1 : Hid (k ≤ M) := Lib.hid (by first | omega | exact Nat.le_of_not_lt fun h => by have := sum_end HS.out (Nat.lt_of_lt_of_le HXn.out (pw_mono hMa)) (Nat.lt_of_lt_of_le HYn.out (pw_mono hMb)) h; omega)
      go_upto_region 6 with fail
      obtain ⟨a, hda⟩ : ∃ a, dg x k = a := ⟨_, rfl⟩
      obtain ⟨b, hdb⟩ : ∃ b, dg y k = b := ⟨_, rfl⟩
      have HDA := Lib.hid hda
      have HDB := Lib.hid hdb
      have hda1 : a < 4294967296 := by rw [← hda]; exact dg_lt x k
      have hdb1 : b < 4294967296 := by rw [← hdb]; exact dg_lt y k
      have HST := Lib.hid HS.out.step
      rw [hda, hdb] at HST
      obtain ⟨lo, hlo⟩ : ∃ lo, (a + b + cc) % 4294967296 = lo := ⟨_, rfl⟩
      obtain ⟨hh, hhi⟩ : ∃ hh, (a + b + cc) / 4294967296 = hh := ⟨_, rfl⟩
      rw [hlo, hhi] at HST
      have w1 : IntKind.u64.wrap ((a : Int) + (b : Int)) = (a : Int) + (b : Int) := by rw [IntKind.wrap_u64]; omega
      have w2 : IntKind.u64.wrap ((a : Int) + (b : Int) + (cc : Int)) = (a : Int) + (b : Int) + (cc : Int) := by rw [IntKind.wrap_u64]; omega
      have hh1 : hh ≤ 1 := by omega
      have t2 : ((a : Int) + (b : Int) + (cc : Int)) / 4294967296 = (hh : Int) := by omega
      have t1 : ((a : Int) + (b : Int) + (cc : Int)).tmod 4294967296 = (lo : Int) := by rw [Int.tmod_eq_emod_of_nonneg (by omega)]; omega
      have t3 : ((a : Int) + (b : Int) + (cc : Int)) % 4294967296 = (lo : Int) := by omega
      have u1 : IntKind.u32.wrap (lo : Int) = (lo : Int) := by rw [IntKind.wrap_u32]; omega
      have u2 : (lo : Int) % 4294967296 = (lo : Int) := by omega
      have i1 : IntKind.i64.wrap ((k : Int) + 1) = (k : Int) + 1 := IntWalk.i64_in _ (by omega)
      clear hda hdb hlo hhi
      go_upto_region 6 with fail
      clear hk
      refine Kr.startL (fun W' => Kr.Cells W' [(ba, 0, .slice pa na ca), (bb, 0, .slice pb nb cb)]) [] (by kernel_rfl) ?_
      have gd : Gr wr wr.drew := (Gr.refl _).drew
      generalize wr.drew = d12 at gd ⊢
      replace H := H.grow gd
      replace HBl := Lib.hid (HBl.out.grow gd)
      clear gd
      (refine Kr.tS 0 [] (v := ?_) rfl (by kernel_rfl) (fun _ _ _ h => h) (by rfl) (H.sub [2, 1] rfl) (fun wx hSx => ?_) ?_; rotate_left; (focus (simp only [Kr.Cells] at hSx; go_simp; first | done | rfl)); (try simp only [Act.put, List.getElem_toArray, List.getElem_cons_zero, List.getElem_cons_succ, List.setIfInBounds_toArray, List.set_cons_zero, List.set_cons_succ]))
      (refine Kr.tP 1 (v := ?_) rfl (by kernel_rfl) (fun _ _ _ h => h) (by rfl) (fun _ => (H.sub [2, 1] rfl)) (fun wx => ?_) ?_; rotate_left; (focus (go_simp; first | done | rfl)); (try simp only [Act.put, List.getElem_toArray, List.getElem_cons_zero, List.getElem_cons_succ, List.setIfInBounds_toArray, List.set_cons_zero, List.set_cons_succ]))
      (refine Kr.tS 3 [] (v := ?_) rfl (by kernel_rfl) (fun _ _ _ h => h) (by rfl) (H.sub [2, 1] rfl) (fun wx hSx => ?_) ?_; rotate_left; (focus (simp only [Kr.Cells] at hSx; go_simp; first | done | rfl)); (try simp only [Act.put, List.getElem_toArray, List.getElem_cons_zero, List.getElem_cons_succ, List.setIfInBounds_toArray, List.set_cons_zero, List.set_cons_succ]))
      (refine Kr.tP 4 (v := ?_) rfl (by kernel_rfl) (fun _ _ _ h => h) (by rfl) (fun _ => (H.sub [2, 1] rfl)) (fun wx => ?_) ?_; rotate_left; (focus (go_simp; first | done | rfl)); (try simp only [Act.put, List.getElem_toArray, List.getElem_cons_zero, List.getElem_cons_succ, List.setIfInBounds_toArray, List.set_cons_zero, List.set_cons_succ]))
      (refine Kr.tP 7 (v := ?_) rfl (by kernel_rfl) (fun _ _ _ h => h) (by rfl) (fun _ => (H.sub [2, 1] rfl)) (fun wx => ?_) ?_; rotate_left; (focus (go_simp; first | done | rfl)); (try simp only [Act.put, List.getElem_toArray, List.getElem_cons_zero, List.getElem_cons_succ, List.setIfInBounds_toArray, List.set_cons_zero, List.set_cons_succ]))
      refine Kr.readyL (rs := [2]) (by kernel_rfl) (by simp) ?_
      refine Kr.AllL.cons rfl (fun K hK => ?_) Kr.AllL.nil
      go_simp
      go_at_call 92
      refine (word3_v _ _ _ k _ _ (H.nw 1 rfl)).mono ?_
      rintro e y13 ⟨rfl, hg⟩
      rw [HDA.out]
      replace H := H.grow hg
      replace HBl := Lib.hid (HBl.out.grow hg)
      clear hg
      refine hK.out _ _ (fun _ => (H.sub [2, 1] rfl)) ?_; clear hK K
      (try simp only [Act.put, List.getElem_toArray, List.getElem_cons_zero, List.getElem_cons_succ, List.setIfInBounds_toArray, List.set_cons_zero, List.set_cons_succ])
      refine Kr.readyL (rs := [5]) (by kernel_rfl) (by simp) ?_
      refine Kr.AllL.cons rfl (fun K hK => ?_) Kr.AllL.nil
      go_simp
      go_at_call 92
      refine (word3_v _ _ _ k _ _ (H.nw 0 rfl)).mono ?_
      rintro e y14 ⟨rfl, hg⟩
      rw [HDB.out]
      replace H := H.grow hg
      replace HBl := Lib.hid (HBl.out.grow hg)
      clear hg
      refine hK.out _ _ (fun _ => (H.sub [2, 1] rfl)) ?_; clear hK K
      (try simp only [Act.put, List.getElem_toArray, List.getElem_cons_zero, List.getElem_cons_succ, List.setIfInBounds_toArray, List.set_cons_zero, List.set_cons_succ])
      (refine Kr.tP 6 (v := ?_) rfl (by kernel_rfl) (fun _ _ _ h => h) (by rfl) (fun _ => (H.sub [2, 1] rfl)) (fun wx => ?_) ?_; rotate_left; (focus (go_simp; first | done | rfl)); (try simp only [Act.put, List.getElem_toArray, List.getElem_cons_zero, List.getElem_cons_succ, List.setIfInBounds_toArray, List.set_cons_zero, List.set_cons_succ]))
      (refine Kr.tP 8 (v := ?_) rfl (by kernel_rfl) (fun _ _ _ h => h) (by rfl) (fun _ => (H.sub [2, 1] rfl)) (fun wx => ?_) ?_; rotate_left; (focus (go_simp; first | done | rfl)); (try simp only [Act.put, List.getElem_toArray, List.getElem_cons_zero, List.getElem_cons_succ, List.setIfInBounds_toArray, List.set_cons_zero, List.set_cons_succ]))
      (refine Kr.tP 9 (v := ?_) rfl (by kernel_rfl) (fun _ _ _ h => h) (by rfl) (fun _ => (H.sub [2, 1] rfl)) (fun wx => ?_) ?_; rotate_left; (focus (go_simp; first | done | rfl)); (try simp only [Act.put, List.getElem_toArray, List.getElem_cons_zero, List.getElem_cons_succ, List.setIfInBounds_toArray, List.set_cons_zero, List.set_cons_succ]))
      refine Kr.doneL (by kernel_rfl) ?_ _
      go_upto_region 7 with fail
      refine Kr.seqStart ?_
      iterate 4 (refine Kr.seqP (v := ?_) (by rfl) ?_ ?_; rotate_left; (focus (go_simp; first | done | rfl)); (try simp only [Act.put, List.getElem_toArray, List.getElem_cons_zero, List.getElem_cons_succ, List.setIfInBounds_toArray, List.set_cons_zero, List.set_cons_succ]))
      refine Kr.seqS (fun K hK => ?_)
      go_simp
      obtain ⟨y15, hy⟩ : ∃ y, y14.alloc (.cells #[.int .u32 (lo : Int)] 50) = y := ⟨_, rfl⟩
      obtain ⟨bn, hbn⟩ : ∃ b, y14.heap.size = b := ⟨_, rfl⟩
      rw [hy, hbn]
      have hg : Gr y14 y15 := hy ▸ (Gr.refl _).alloc _
      have HONE := Lib.hid (hbn ▸ hy ▸ one_new y14 lo)
      clear H
      replace HBl := Lib.hid (HBl.out.grow hg)
      clear hg hy hbn
      refine hK.out _ _ ?_; clear hK K
      (try simp only [Act.put, List.getElem_toArray, List.getElem_cons_zero, List.getElem_cons_succ, List.setIfInBounds_toArray, List.set_cons_zero, List.set_cons_succ])
      refine wpList_append_own _ rfl _ _ 22 rfl W0.heap.size 50 i0 (.int .u32 0) 1 4 Try.underlying22 hi hz0 hz1 hz2 rfl (by decide) (.slice po k co) k (cw r) rfl (ownsRow_at HL.out HBl.out) ⟨bn, 0, none⟩ 1 1 [.int .u32 (lo : Int)] rfl rfl HONE.out (by simp [Value.oneCell']) (by unfold maxLen; omega) (by omega) HBl.out.2.2.size ?_
      intro v1 w3 hown hgrow _
      have hb3 := Bld.step HL.out HBl.out hown hgrow
      have HB3 := Lib.hid hb3.1
      obtain ⟨p3, cap3, rfl⟩ := hb3.2
      clear hown hgrow hb3 HONE
      (try simp only [Act.put, List.getElem_toArray, List.getElem_cons_zero, List.getElem_cons_succ, List.setIfInBounds_toArray, List.set_cons_zero, List.set_cons_succ])
      have H := H0.out.grow HB3.out.2.2
      (refine Kr.seqP (v := ?_) (by rfl) ?_ ?_; rotate_left; (focus (go_simp; first | done | rfl)); (try simp only [Act.put, List.getElem_toArray, List.getElem_cons_zero, List.getElem_cons_succ, List.setIfInBounds_toArray, List.set_cons_zero, List.set_cons_succ]))
      refine Kr.seqDone ?_
      clear H
      go_wp2
      go_roundw
      case rel => exact ⟨k + 1, hh, r ++ [lo], by have := HK1.out; omega, by go_num, rfl, HST, hh1, HB3, p3, cap3, rfl⟩
      case measure => (have := HK1.out; simp [intOf] <;> omega)
    · skip
      have hk := H.c
      simp only [Kr.Cells] at hk
      have HV : Hid (val r = x + y) := Lib.hid (sum_val (N := k) HS.out (Nat.lt_of_lt_of_le HXn.out (pw_mono (by omega))) (Nat.lt_of_lt_of_le HYn.out (pw_mono (by omega))) (Nat.le_refl _))
      have HOK := Lib.hid HS.out.2.1
      go_upto_region 9 with fail
      refine Kr.seqStart ?_
      (refine Kr.seqP (v := ?_) (by rfl) ?_ ?_; rotate_left; (focus (go_simp; first | done | rfl)); (try simp only [Act.put, List.getElem_toArray, List.getElem_cons_zero, List.getElem_cons_succ, List.setIfInBounds_toArray, List.set_cons_zero, List.set_cons_succ]))
      refine Kr.seqS (fun K hK => ?_)
      go_simp
      go_at_call 91
      refine (trim3_w po k co r _ (HBl.out.nw' HOK.out (by rw [HL.out]; omega))).mono ?_
      rintro e y16 ⟨p5, n5, c5, rfl, hr, hg⟩
      clear hk
      replace H := H.grow hg
      rw [HV.out] at hr
      replace H := H.num hr
      clear hr hg
      refine hK.out _ _ ?_; clear hK K
      (try simp only [Act.put, List.getElem_toArray, List.getElem_cons_zero, List.getElem_cons_succ, List.setIfInBounds_toArray, List.set_cons_zero, List.set_cons_succ])
      have hk := H.c
      simp only [Kr.Cells] at hk
      refine Kr.seqS (fun K hK => ?_)
      go_simp
      clear hk
      obtain ⟨y17, hy⟩ : ∃ y, y16.setCell ⟨br, 0, none⟩ (.slice p5 n5 c5) = y := ⟨_, rfl⟩
      rw [hy]
      replace H := H.store 0 hy rfl rfl
      dsimp only [List.set] at H
      clear hy
      refine hK.out _ _ ?_; clear hK K
      (try simp only [Act.put, List.getElem_toArray, List.getElem_cons_zero, List.getElem_cons_succ, List.setIfInBounds_toArray, List.set_cons_zero, List.set_cons_succ])
      refine Kr.seqDone ?_
      have hk := H.c
      simp only [Kr.Cells] at hk
      go_wp2
      refine bodyPost_ret (v := .agg #[.slice p5 n5 c5]) (by simp [results, Try.results43, go_sem, hk]) rfl ⟨p5, n5, c5, rfl, H.nw 0 rfl, H.g⟩
set_option linter.unusedSimpArgs false in
set_option maxRecDepth 100000 in
set_option maxHeartbeats 16000000 in
theorem rminus3_v {pa : Option Addr} {na ca : Nat} {pb : Option Addr} {nb cb : Nat} {x y : Nat} {w : World} (ha : Nw w pa na ca (digs x)) (hb : Nw w pb nb cb (digs y)) (hn : na ≤ 1000) (hyx : y ≤ x) :
    Calls Try.prog 78 #[.agg #[.slice pa na ca], .agg #[.slice pb nb cb]] w (Has (x - y) w) := by
  have HXn : Hid (x < pw na) := Lib.hid ((digs_length_le x na).1 (by rw [ha.len]; exact Nat.le_refl _))
  have HYX := Lib.hid hyx
  clear hyx
  obtain ⟨i0, hi, hz0, hz1, hz2⟩ := info_parts infoW
  have H := Sta.start w
  replace H := H.num ha
  replace H := H.num hb
  go_enter Try.func78, Try.ntmps78
  go_upto_region 0 with fail
  refine Kr.seqStart ?_
  refine Kr.seqS (fun K hK => ?_)
  go_simp
  obtain ⟨y1, hy⟩ : ∃ y, w.alloc (.cells #[.slice pa na ca] 24) = y := ⟨_, rfl⟩
  obtain ⟨ba, hb⟩ : ∃ b, w.heap.size = b := ⟨_, rfl⟩
  rw [hy, hb]
  replace H := H.alloc hy hb rfl
  clear hy hb
  refine hK.out _ _ ?_; clear hK K
  (try simp only [Act.put, List.getElem_toArray, List.getElem_cons_zero, List.getElem_cons_succ, List.setIfInBounds_toArray, List.set_cons_zero, List.set_cons_succ])
  refine Kr.seqS (fun K hK => ?_)
  go_simp
  obtain ⟨y2, hy⟩ : ∃ y, y1.alloc (.cells #[.slice pb nb cb] 24) = y := ⟨_, rfl⟩
  obtain ⟨bb, hb⟩ : ∃ b, y1.heap.size = b := ⟨_, rfl⟩
  rw [hy, hb]
  replace H := H.alloc hy hb rfl
  clear hy hb
  refine hK.out _ _ ?_; clear hK K
  (try simp only [Act.put, List.getElem_toArray, List.getElem_cons_zero, List.getElem_cons_succ, List.setIfInBounds_toArray, List.set_cons_zero, List.set_cons_succ])
  refine Kr.seqS (fun K hK => ?_)
  go_simp
  obtain ⟨y3, hy⟩ : ∃ y, y2.alloc (.cells #[.slice none 0 0] 24) = y := ⟨_, rfl⟩
  obtain ⟨br, hb⟩ : ∃ b, y2.heap.size = b := ⟨_, rfl⟩
  rw [hy, hb]
  replace H := H.alloc hy hb rfl
  clear hy hb
  refine hK.out _ _ ?_; clear hK K
  (try simp only [Act.put, List.getElem_toArray, List.getElem_cons_zero, List.getElem_cons_succ, List.setIfInBounds_toArray, List.set_cons_zero, List.set_cons_succ])
  refine Kr.seqDone ?_
  obtain ⟨W0, hW0⟩ : ∃ W0, W0 = y3 := ⟨_, rfl⟩
  rw [← hW0] at H ⊢
  clear hW0
  have H0 := Lib.hid H
  clear H
  go_wp2
  go_loopw [5, 6, 7] (fun o cr i wr => ∃ (k cc : Nat) (r : List Nat), k ≤ na ∧ i = .int .i64 k ∧ cr = .int .u64 cc ∧ Hid (DifAt x y k cc r) ∧ cc ≤ 1 ∧ Hid (Bld W0 o r wr) ∧ ∃ po co, o = .slice po k co) (fun _ _ i _ => na - (intOf i).toNat)
  case atStart => exact ⟨0, 0, [], Nat.zero_le _, rfl, rfl, DifAt.start x y, by decide, Bld.start W0, none, 0, rfl⟩
  case round =>
    obtain ⟨k, cc, r, hk, rfl, rfl, HS, hcc, HBl, po, co, rfl⟩ := hrel
    have H := H0.out.grow HBl.out.2.2
    have HL : Hid (r.length = k) := Lib.hid HS.out.1
    by_cases h1 : k < na
    · skip
      have hk := H.c
      simp only [Kr.Cells] at hk
      go_upto_region 6 with fail
      obtain ⟨a, hda⟩ : ∃ a, dg x k = a := ⟨_, rfl⟩
      obtain ⟨b, hdb⟩ : ∃ b, dg y k = b := ⟨_, rfl⟩
      have HDA := Lib.hid hda
      have HDB := Lib.hid hdb
      have hda1 : a < 4294967296 := by rw [← hda]; exact dg_lt x k
      have hdb1 : b < 4294967296 := by rw [← hdb]; exact dg_lt y k
      have hS0 := HS.out.2.2.1
      obtain ⟨hh, hhi⟩ : ∃ hh : Nat, (if a < b + cc then 1 else 0) = hh := ⟨_, rfl⟩
      obtain ⟨lo, hlo⟩ : ∃ lo, a + 4294967296 * hh - b - cc = lo := ⟨_, rfl⟩
      have hh1 : hh ≤ 1 := by rw [← hhi]; split <;> omega
      have hlo1 : lo < 4294967296 := by rw [← hlo, ← hhi]; split <;> omega
      have hlo2 : lo + b + cc = a + 4294967296 * hh := by rw [← hlo, ← hhi]; split <;> omega
      have HST : Hid (DifAt x y (k + 1) hh (r ++ [lo])) := Lib.hid (HS.out.step hlo1 hh1 (by rw [hda, hdb]; exact hlo2))
      clear hS0 hhi hlo
      have w1 : IntKind.u64.wrap ((a : Int) + 4294967296) = (a : Int) + 4294967296 := by rw [IntKind.wrap_u64]; omega
      have w2 : IntKind.u64.wrap ((a : Int) + 4294967296 - (b : Int)) = (a : Int) + 4294967296 - (b : Int) := by rw [IntKind.wrap_u64]; omega
      have w3 : IntKind.u64.wrap ((a : Int) + 4294967296 - (b : Int) - (cc : Int)) = (a : Int) + 4294967296 - (b : Int) - (cc : Int) := by rw [IntKind.wrap_u64]; omega
      have t2 : ((a : Int) + 4294967296 - (b : Int) - (cc : Int)) / 4294967296 = 1 - (hh : Int) := by omega
      have t1 : ((a : Int) + 4294967296 - (b : Int) - (cc : Int)).tmod 4294967296 = (lo : Int) := by rw [Int.tmod_eq_emod_of_nonneg (by omega)]; omega
      have t3 : ((a : Int) + 4294967296 - (b : Int) - (cc : Int)) % 4294967296 = (lo : Int) := by omega
      have u1 : IntKind.u32.wrap (lo : Int) = (lo : Int) := by rw [IntKind.wrap_u32]; omega
      have u2 : (lo : Int) % 4294967296 = (lo : Int) := by omega
      have i1 : IntKind.i64.wrap ((k : Int) + 1) = (k : Int) + 1 := IntWalk.i64_in _ (by omega)
      clear hda hdb
      go_upto_region 6 with fail
      clear hk
      refine Kr.startL (fun W' => Kr.Cells W' [(ba, 0, .slice pa na ca), (bb, 0, .slice pb nb cb)]) [] (by kernel_rfl) ?_
      have gd : Gr wr wr.drew := (Gr.refl _).drew
      generalize wr.drew = d4 at gd ⊢
      replace H := H.grow gd
      replace HBl := Lib.hid (HBl.out.grow gd)
      clear gd
      (refine Kr.tS 0 [] (v := ?_) rfl (by kernel_rfl) (fun _ _ _ h => h) (by rfl) (H.sub [2, 1] rfl) (fun wx hSx => ?_) ?_; rotate_left; (focus (simp only [Kr.Cells] at hSx; go_simp; first | done | rfl)); (try simp only [Act.put, List.getElem_toArray, List.getElem_cons_zero, List.getElem_cons_succ, List.setIfInBounds_toArray, List.set_cons_zero, List.set_cons_succ]))
      (refine Kr.tP 1 (v := ?_) rfl (by kernel_rfl) (fun _ _ _ h => h) (by rfl) (fun _ => (H.sub [2, 1] rfl)) (fun wx => ?_) ?_; rotate_left; (focus (go_simp; first | done | rfl)); (try simp only [Act.put, List.getElem_toArray, List.getElem_cons_zero, List.getElem_cons_succ, List.setIfInBounds_toArray, List.set_cons_zero, List.set_cons_succ]))
      (refine Kr.tS 4 [] (v := ?_) rfl (by kernel_rfl) (fun _ _ _ h => h) (by rfl) (H.sub [2, 1] rfl) (fun wx hSx => ?_) ?_; rotate_left; (focus (simp only [Kr.Cells] at hSx; go_simp; first | done | rfl)); (try simp only [Act.put, List.getElem_toArray, List.getElem_cons_zero, List.getElem_cons_succ, List.setIfInBounds_toArray, List.set_cons_zero, List.set_cons_succ]))
      (refine Kr.tP 5 (v := ?_) rfl (by kernel_rfl) (fun _ _ _ h => h) (by rfl) (fun _ => (H.sub [2, 1] rfl)) (fun wx => ?_) ?_; rotate_left; (focus (go_simp; first | done | rfl)); (try simp only [Act.put, List.getElem_toArray, List.getElem_cons_zero, List.getElem_cons_succ, List.setIfInBounds_toArray, List.set_cons_zero, List.set_cons_succ]))
      (refine Kr.tP 8 (v := ?_) rfl (by kernel_rfl) (fun _ _ _ h => h) (by rfl) (fun _ => (H.sub [2, 1] rfl)) (fun wx => ?_) ?_; rotate_left; (focus (go_simp; first | done | rfl)); (try simp only [Act.put, List.getElem_toArray, List.getElem_cons_zero, List.getElem_cons_succ, List.setIfInBounds_toArray, List.set_cons_zero, List.set_cons_succ]))
      refine Kr.readyL (rs := [2]) (by kernel_rfl) (by simp) ?_
      refine Kr.AllL.cons rfl (fun K hK => ?_) Kr.AllL.nil
      go_simp
      go_at_call 92
      refine (word3_v _ _ _ k _ _ (H.nw 1 rfl)).mono ?_
      rintro e y5 ⟨rfl, hg⟩
      rw [HDA.out]
      replace H := H.grow hg
      replace HBl := Lib.hid (HBl.out.grow hg)
      clear hg
      refine hK.out _ _ (fun _ => (H.sub [2, 1] rfl)) ?_; clear hK K
      (try simp only [Act.put, List.getElem_toArray, List.getElem_cons_zero, List.getElem_cons_succ, List.setIfInBounds_toArray, List.set_cons_zero, List.set_cons_succ])
      (refine Kr.tP 3 (v := ?_) rfl (by kernel_rfl) (fun _ _ _ h => h) (by rfl) (fun _ => (H.sub [2, 1] rfl)) (fun wx => ?_) ?_; rotate_left; (focus (go_simp; first | done | rfl)); (try simp only [Act.put, List.getElem_toArray, List.getElem_cons_zero, List.getElem_cons_succ, List.setIfInBounds_toArray, List.set_cons_zero, List.set_cons_succ]))
      refine Kr.readyL (rs := [6]) (by kernel_rfl) (by simp) ?_
      refine Kr.AllL.cons rfl (fun K hK => ?_) Kr.AllL.nil
      go_simp
      go_at_call 92
      refine (word3_v _ _ _ k _ _ (H.nw 0 rfl)).mono ?_
      rintro e y6 ⟨rfl, hg⟩
      rw [HDB.out]
      replace H := H.grow hg
      replace HBl := Lib.hid (HBl.out.grow hg)
      clear hg
      refine hK.out _ _ (fun _ => (H.sub [2, 1] rfl)) ?_; clear hK K
      (try simp only [Act.put, List.getElem_toArray, List.getElem_cons_zero, List.getElem_cons_succ, List.setIfInBounds_toArray, List.set_cons_zero, List.set_cons_succ])
      (refine Kr.tP 7 (v := ?_) rfl (by kernel_rfl) (fun _ _ _ h => h) (by rfl) (fun _ => (H.sub [2, 1] rfl)) (fun wx => ?_) ?_; rotate_left; (focus (go_simp; first | done | rfl)); (try simp only [Act.put, List.getElem_toArray, List.getElem_cons_zero, List.getElem_cons_succ, List.setIfInBounds_toArray, List.set_cons_zero, List.set_cons_succ]))
      (refine Kr.tP 9 (v := ?_) rfl (by kernel_rfl) (fun _ _ _ h => h) (by rfl) (fun _ => (H.sub [2, 1] rfl)) (fun wx => ?_) ?_; rotate_left; (focus (go_simp; first | done | rfl)); (try simp only [Act.put, List.getElem_toArray, List.getElem_cons_zero, List.getElem_cons_succ, List.setIfInBounds_toArray, List.set_cons_zero, List.set_cons_succ]))
      (refine Kr.tP 10 (v := ?_) rfl (by kernel_rfl) (fun _ _ _ h => h) (by rfl) (fun _ => (H.sub [2, 1] rfl)) (fun wx => ?_) ?_; rotate_left; (focus (go_simp; first | done | rfl)); (try simp only [Act.put, List.getElem_toArray, List.getElem_cons_zero, List.getElem_cons_succ, List.setIfInBounds_toArray, List.set_cons_zero, List.set_cons_succ]))
      refine Kr.doneL (by kernel_rfl) ?_ _
      go_upto_region 7 with fail
      refine Kr.seqStart ?_
      iterate 4 (refine Kr.seqP (v := ?_) (by rfl) ?_ ?_; rotate_left; (focus (go_simp; first | done | rfl)); (try simp only [Act.put, List.getElem_toArray, List.getElem_cons_zero, List.getElem_cons_succ, List.setIfInBounds_toArray, List.set_cons_zero, List.set_cons_succ]))
      refine Kr.seqS (fun K hK => ?_)
      go_simp
      obtain ⟨y7, hy⟩ : ∃ y, y6.alloc (.cells #[.int .u32 (lo : Int)] 50) = y := ⟨_, rfl⟩
      obtain ⟨bn, hbn⟩ : ∃ b, y6.heap.size = b := ⟨_, rfl⟩
      rw [hy, hbn]
      have hg : Gr y6 y7 := hy ▸ (Gr.refl _).alloc _
      have HONE := Lib.hid (hbn ▸ hy ▸ one_new y6 lo)
      clear H
      replace HBl := Lib.hid (HBl.out.grow hg)
      clear hg hy hbn
      refine hK.out _ _ ?_; clear hK K
      (try simp only [Act.put, List.getElem_toArray, List.getElem_cons_zero, List.getElem_cons_succ, List.setIfInBounds_toArray, List.set_cons_zero, List.set_cons_succ])
      refine wpList_append_own _ rfl _ _ 22 rfl W0.heap.size 50 i0 (.int .u32 0) 1 4 Try.underlying22 hi hz0 hz1 hz2 rfl (by decide) (.slice po k co) k (cw r) rfl (ownsRow_at HL.out HBl.out) ⟨bn, 0, none⟩ 1 1 [.int .u32 (lo : Int)] rfl rfl HONE.out (by simp [Value.oneCell']) (by unfold maxLen; omega) (by omega) HBl.out.2.2.size ?_
      intro v1 w3 hown hgrow _
      have hb3 := Bld.step HL.out HBl.out hown hgrow
      have HB3 := Lib.hid hb3.1
      obtain ⟨p3, cap3, rfl⟩ := hb3.2
      clear hown hgrow hb3 HONE
      (try simp only [Act.put, List.getElem_toArray, List.getElem_cons_zero, List.getElem_cons_succ, List.setIfInBounds_toArray, List.set_cons_zero, List.set_cons_succ])
      have H := H0.out.grow HB3.out.2.2
      (refine Kr.seqP (v := ?_) (by rfl) ?_ ?_; rotate_left; (focus (go_simp; first | done | rfl)); (try simp only [Act.put, List.getElem_toArray, List.getElem_cons_zero, List.getElem_cons_succ, List.setIfInBounds_toArray, List.set_cons_zero, List.set_cons_succ]))
      refine Kr.seqDone ?_
      clear H
      go_wp2
      go_roundw
      case rel => exact ⟨k + 1, hh, r ++ [lo], by omega, by go_num, by rw [show (1 : Int) - (1 - (hh : Int)) = (hh : Int) by omega], HST, hh1, HB3, p3, cap3, rfl⟩
      case measure => (simp [intOf] <;> omega)
    · skip
      have hk := H.c
      simp only [Kr.Cells] at hk
      obtain rfl : k = na := by omega
      have HV : Hid (val r = x - y) := Lib.hid (HS.out.done HXn.out HYX.out)
      have HOK := Lib.hid HS.out.2.1
      go_upto_region 9 with fail
      refine Kr.seqStart ?_
      (refine Kr.seqP (v := ?_) (by rfl) ?_ ?_; rotate_left; (focus (go_simp; first | done | rfl)); (try simp only [Act.put, List.getElem_toArray, List.getElem_cons_zero, List.getElem_cons_succ, List.setIfInBounds_toArray, List.set_cons_zero, List.set_cons_succ]))
      refine Kr.seqS (fun K hK => ?_)
      go_simp
      go_at_call 91
      refine (trim3_w po k co r _ (HBl.out.nw' HOK.out (by rw [HL.out]; omega))).mono ?_
      rintro e y8 ⟨p5, n5, c5, rfl, hr, hg⟩
      clear hk
      replace H := H.grow hg
      rw [HV.out] at hr
      replace H := H.num hr
      clear hr hg
      refine hK.out _ _ ?_; clear hK K
      (try simp only [Act.put, List.getElem_toArray, List.getElem_cons_zero, List.getElem_cons_succ, List.setIfInBounds_toArray, List.set_cons_zero, List.set_cons_succ])
      have hk := H.c
      simp only [Kr.Cells] at hk
      refine Kr.seqS (fun K hK => ?_)
      go_simp
      clear hk
      obtain ⟨y9, hy⟩ : ∃ y, y8.setCell ⟨br, 0, none⟩ (.slice p5 n5 c5) = y := ⟨_, rfl⟩
      rw [hy]
      replace H := H.store 0 hy rfl rfl
      dsimp only [List.set] at H
      clear hy
      refine hK.out _ _ ?_; clear hK K
      (try simp only [Act.put, List.getElem_toArray, List.getElem_cons_zero, List.getElem_cons_succ, List.setIfInBounds_toArray, List.set_cons_zero, List.set_cons_succ])
      refine Kr.seqDone ?_
      have hk := H.c
      simp only [Kr.Cells] at hk
      go_wp2
      refine bodyPost_ret (v := .agg #[.slice p5 n5 c5]) (by simp [results, Try.results78, go_sem, hk]) rfl ⟨p5, n5, c5, rfl, H.nw 0 rfl, H.g⟩
end Go.Proofs.Ytlciocebbckdcaa.Mr


/- Plain numbers for the third reference. -/
namespace Go.Proofs.Ytlciocebbckdcaa.Mr
open Go.RowKit Go.Shelf Go.Proofs.Ytlciocebbckdcaa.Nm Go.Proofs.Ytlciocebbckdcaa.Ne Go.Proofs.Ytlciocebbckdcaa.Nf Go.Proofs.Ytlciocebbckdcaa.Nk Go.Proofs.Ytlciocebbckdcaa.Nv Go.Proofs.Ytlciocebbckdcaa.Nr2 Go.Proofs.Ytlciocebbckdcaa.Mo Go.Proofs.Ytlciocebbckdcaa.Kr

theorem nw_small {w : World} {p : Option Addr} {n c x K : Nat} (h : Nw w p n c (digs x)) (hx : x < pw K) : n ≤ K := by
  have := (digs_length_le x K).2 hx
  rwa [h.len] at this
theorem nb_small {x K : Nat} (h : x < pw K) : nb x ≤ 32 * K := (nb_le x _).2 (by rw [← pw_eq]; exact h)
theorem mulm_0 {x y j m : Nat} (h : y.testBit j = false) : (x * (y / 2 ^ (j + 1)) % m + x * (y / 2 ^ (j + 1)) % m) % m = x * (y / 2 ^ j) % m := by
  rw [half_0 h]
  generalize y / 2 ^ (j + 1) = E
  rw [Nat.mul_add, ← Nat.add_mod]
theorem mulm_1 {x y j m : Nat} (h : y.testBit j = true) : ((x * (y / 2 ^ (j + 1)) % m + x * (y / 2 ^ (j + 1)) % m) % m + x) % m = x * (y / 2 ^ j) % m := by
  rw [half_1 h]
  generalize y / 2 ^ (j + 1) = E
  rw [Nat.mul_add, Nat.mul_add, Nat.mul_one, ← Nat.add_mod, Nat.mod_add_mod]
theorem modm_0 {x j m : Nat} (h : x.testBit j = false) : (x / 2 ^ (j + 1) % m + x / 2 ^ (j + 1) % m) % m = x / 2 ^ j % m := by
  rw [half_0 h]
  generalize x / 2 ^ (j + 1) = E
  rw [← Nat.add_mod]
theorem modm_1 {x j m : Nat} (h : x.testBit j = true) : ((x / 2 ^ (j + 1) % m + x / 2 ^ (j + 1) % m) % m + 1) % m = x / 2 ^ j % m := by
  rw [half_1 h]
  generalize x / 2 ^ (j + 1) = E
  rw [← Nat.add_mod, Nat.mod_add_mod]
theorem tim_0 {x y j : Nat} (h : y.testBit j = false) : x * (y / 2 ^ (j + 1)) + x * (y / 2 ^ (j + 1)) = x * (y / 2 ^ j) := by
  rw [half_0 h, Nat.mul_add]
theorem tim_1 {x y j : Nat} (h : y.testBit j = true) : x * (y / 2 ^ (j + 1)) + x * (y / 2 ^ (j + 1)) + x = x * (y / 2 ^ j) := by
  rw [half_1 h]
  generalize y / 2 ^ (j + 1) = E
  rw [Nat.mul_add, Nat.mul_add, Nat.mul_one]
theorem over_lo {E y q r b : Nat} (hq : q = E / y) (hr : r = E % y) (h : r + r + b < y) : (E + E + b) / y = q + q ∧ (E + E + b) % y = r + r + b := by
  have h1 := Nat.div_add_mod E y
  rw [← hq, ← hr] at h1
  have e : E + E + b = r + r + b + y * (q + q) := by rw [Nat.mul_add]; omega
  rw [e, Nat.add_mul_div_left _ _ (by omega), Nat.add_mul_mod_self_left, Nat.div_eq_of_lt h, Nat.mod_eq_of_lt h]
  omega
theorem over_hi {E y q r b : Nat} (hq : q = E / y) (hr : r = E % y) (hb : b ≤ 1) (hy : 0 < y) (h : y ≤ r + r + b) : (E + E + b) / y = q + q + 1 ∧ (E + E + b) % y = r + r + b - y := by
  have h1 := Nat.div_add_mod E y
  have h2 : r < y := by rw [hr]; exact Nat.mod_lt _ hy
  rw [← hq, ← hr] at h1
  have e : E + E + b = (r + r + b - y) + y * (q + q + 1) := by rw [Nat.mul_add, Nat.mul_add, Nat.mul_one]; omega
  have h3 : r + r + b - y < y := by omega
  rw [e, Nat.add_mul_div_left _ _ hy, Nat.add_mul_mod_self_left, Nat.div_eq_of_lt h3, Nat.mod_eq_of_lt h3]
  omega
theorem pw_dbl {x K : Nat} (h : x < pw K) : x + x < pw (K + 1) := by
  have : pw (K + 1) = pw K * 4294967296 := by rw [pw_add]; rfl
  omega
theorem pw_pos' (K : Nat) : 1 < pw (K + 1) := by
  have : pw (K + 1) = pw K * 4294967296 := by rw [pw_add]; rfl
  have := pw_pos K
  omega
end Go.Proofs.Ytlciocebbckdcaa.Mr


/- The contracts of the third reference's Add and Sub. -/
namespace Go.Proofs.Ytlciocebbckdcaa.Mr
open Go.RowKit Go.Shelf Go.Proofs.Ytlciocebbckdcaa.Nm Go.Proofs.Ytlciocebbckdcaa.Ne Go.Proofs.Ytlciocebbckdcaa.Nf Go.Proofs.Ytlciocebbckdcaa.Nk Go.Proofs.Ytlciocebbckdcaa.Nv Go.Proofs.Ytlciocebbckdcaa.Nr2 Go.Proofs.Ytlciocebbckdcaa.Mo Go.Proofs.Ytlciocebbckdcaa.Mr Go.Proofs.Ytlciocebbckdcaa.Kr

set_option linter.unusedSimpArgs false in
set_option maxRecDepth 100000 in
set_option maxHeartbeats 16000000 in
theorem radd3_lo {pa : Option Addr} {na ca : Nat} {pb : Option Addr} {nb cb : Nat} {pm : Option Addr} {nm cm : Nat} {x y m : Nat} {w : World} (ha : Nw w pa na ca (digs x)) (hb : Nw w pb nb cb (digs y)) (hm : Nw w pm nm cm (digs m)) (hx : x < m) (hy : y < m) (vm : m < pw 900) (hs : x + y < m) :
    Calls Try.prog 24 #[.agg #[.slice pa na ca], .agg #[.slice pb nb cb], .agg #[.slice pm nm cm]] w (Has ((x + y) % m) w) := by
  have HX := Lib.hid hx
  have HY := Lib.hid hy
  have VM := Lib.hid vm
  have HS := Lib.hid hs
  have hna : na ≤ 1000 := Nat.le_trans (nw_small ha (Nat.lt_trans hx vm)) (by decide)
  have hnb : nb ≤ 1000 := Nat.le_trans (nw_small hb (Nat.lt_trans hy vm)) (by decide)
  have HNS : ∀ (W : World) (p : Option Addr) (n c : Nat), Nw W p n c (digs (x + y)) → n ≤ 1000 := fun W p n c h => Nat.le_trans (nw_small (K := 901) h (by have h2 : m + m < pw 901 := pw_dbl vm; omega)) (by decide)
  replace HNS := Lib.hid HNS
  clear hx hy vm hs
  have H := Sta.start w
  replace H := H.num ha
  replace H := H.num hb
  replace H := H.num hm
  go_enter Try.func24, Try.ntmps24
  go_upto_region 0 with fail
  refine Kr.seqStart ?_
  refine Kr.seqS (fun K hK => ?_)
  go_simp
  obtain ⟨y1, hy⟩ : ∃ y, w.alloc (.cells #[.slice pa na ca] 24) = y := ⟨_, rfl⟩
  obtain ⟨ba, hb⟩ : ∃ b, w.heap.size = b := ⟨_, rfl⟩
  rw [hy, hb]
  replace H := H.alloc hy hb rfl
  clear hy hb
  refine hK.out _ _ ?_; clear hK K
  (try simp only [Act.put, List.getElem_toArray, List.getElem_cons_zero, List.getElem_cons_succ, List.setIfInBounds_toArray, List.set_cons_zero, List.set_cons_succ])
  refine Kr.seqS (fun K hK => ?_)
  go_simp
  obtain ⟨y2, hy⟩ : ∃ y, y1.alloc (.cells #[.slice pb nb cb] 24) = y := ⟨_, rfl⟩
  obtain ⟨bb, hb⟩ : ∃ b, y1.heap.size = b := ⟨_, rfl⟩
  rw [hy, hb]
  replace H := H.alloc hy hb rfl
  clear hy hb
  refine hK.out _ _ ?_; clear hK K
  (try simp only [Act.put, List.getElem_toArray, List.getElem_cons_zero, List.getElem_cons_succ, List.setIfInBounds_toArray, List.set_cons_zero, List.set_cons_succ])
  refine Kr.seqS (fun K hK => ?_)
  go_simp
  obtain ⟨y3, hy⟩ : ∃ y, y2.alloc (.cells #[.slice pm nm cm] 24) = y := ⟨_, rfl⟩
  obtain ⟨bm, hb⟩ : ∃ b, y2.heap.size = b := ⟨_, rfl⟩
  rw [hy, hb]
  replace H := H.alloc hy hb rfl
  clear hy hb
  refine hK.out _ _ ?_; clear hK K
  (try simp only [Act.put, List.getElem_toArray, List.getElem_cons_zero, List.getElem_cons_succ, List.setIfInBounds_toArray, List.set_cons_zero, List.set_cons_succ])
  refine Kr.seqS (fun K hK => ?_)
  go_simp
  obtain ⟨y4, hy⟩ : ∃ y, y3.alloc (.cells #[.slice none 0 0] 24) = y := ⟨_, rfl⟩
  obtain ⟨br, hb⟩ : ∃ b, y3.heap.size = b := ⟨_, rfl⟩
  rw [hy, hb]
  replace H := H.alloc hy hb rfl
  clear hy hb
  refine hK.out _ _ ?_; clear hK K
  (try simp only [Act.put, List.getElem_toArray, List.getElem_cons_zero, List.getElem_cons_succ, List.setIfInBounds_toArray, List.set_cons_zero, List.set_cons_succ])
  refine Kr.seqDone ?_
  go_upto_region 1 with fail
  refine Kr.seqStart ?_
  have hk := H.c
  simp only [Kr.Cells] at hk
  iterate 2 (refine Kr.seqP (v := ?_) (by rfl) ?_ ?_; rotate_left; (focus (go_simp; first | done | rfl)); (try simp only [Act.put, List.getElem_toArray, List.getElem_cons_zero, List.getElem_cons_succ, List.setIfInBounds_toArray, List.set_cons_zero, List.set_cons_succ]))
  refine Kr.seqS (fun K hK => ?_)
  go_simp
  go_at_call 43
  refine (rplus3_v (H.nw 2 rfl) (H.nw 1 rfl) hna hnb).mono ?_
  rintro e y5 ⟨p5, n5, c5, rfl, hr, hg⟩
  clear hk
  replace H := H.grow hg
  replace H := H.num hr
  clear hr hg
  refine hK.out _ _ ?_; clear hK K
  (try simp only [Act.put, List.getElem_toArray, List.getElem_cons_zero, List.getElem_cons_succ, List.setIfInBounds_toArray, List.set_cons_zero, List.set_cons_succ])
  refine Kr.seqS (fun K hK => ?_)
  go_simp
  obtain ⟨y6, hy⟩ : ∃ y, y5.alloc (.cells #[.slice none 0 0] 24) = y := ⟨_, rfl⟩
  obtain ⟨bs, hb⟩ : ∃ b, y5.heap.size = b := ⟨_, rfl⟩
  rw [hy, hb]
  replace H := H.alloc hy hb rfl
  clear hy hb
  refine hK.out _ _ ?_; clear hK K
  (try simp only [Act.put, List.getElem_toArray, List.getElem_cons_zero, List.getElem_cons_succ, List.setIfInBounds_toArray, List.set_cons_zero, List.set_cons_succ])
  have hk := H.c
  simp only [Kr.Cells] at hk
  refine Kr.seqS (fun K hK => ?_)
  go_simp
  clear hk
  obtain ⟨y7, hy⟩ : ∃ y, y6.setCell ⟨bs, 0, none⟩ (.slice p5 n5 c5) = y := ⟨_, rfl⟩
  rw [hy]
  replace H := H.store 0 hy rfl rfl
  dsimp only [List.set] at H
  clear hy
  refine hK.out _ _ ?_; clear hK K
  (try simp only [Act.put, List.getElem_toArray, List.getElem_cons_zero, List.getElem_cons_succ, List.setIfInBounds_toArray, List.set_cons_zero, List.set_cons_succ])
  refine Kr.seqDone ?_
  go_upto_region 2 with fail
  refine Kr.seqStart ?_
  have hk := H.c
  simp only [Kr.Cells] at hk
  iterate 2 (refine Kr.seqP (v := ?_) (by rfl) ?_ ?_; rotate_left; (focus (go_simp; first | done | rfl)); (try simp only [Act.put, List.getElem_toArray, List.getElem_cons_zero, List.getElem_cons_succ, List.setIfInBounds_toArray, List.set_cons_zero, List.set_cons_succ]))
  refine Kr.seqS (fun K hK => ?_)
  go_simp
  go_at_call 36
  refine (less3_v (H.nw 0 rfl) (H.nw 1 rfl)).mono ?_
  rintro e y8 ⟨rfl, hg⟩
  rw [decide_eq_true HS.out]
  clear hk
  replace H := H.grow hg
  clear hg
  refine hK.out _ _ ?_; clear hK K
  (try simp only [Act.put, List.getElem_toArray, List.getElem_cons_zero, List.getElem_cons_succ, List.setIfInBounds_toArray, List.set_cons_zero, List.set_cons_succ])
  refine Kr.seqDone ?_
  go_upto_region 3 with fail
  refine Kr.seqStart ?_
  have hk := H.c
  simp only [Kr.Cells] at hk
  (refine Kr.seqP (v := ?_) (by rfl) ?_ ?_; rotate_left; (focus (go_simp; first | done | rfl)); (try simp only [Act.put, List.getElem_toArray, List.getElem_cons_zero, List.getElem_cons_succ, List.setIfInBounds_toArray, List.set_cons_zero, List.set_cons_succ]))
  refine Kr.seqS (fun K hK => ?_)
  go_simp
  clear hk
  obtain ⟨y9, hy⟩ : ∃ y, y8.setCell ⟨br, 0, none⟩ (.slice p5 n5 c5) = y := ⟨_, rfl⟩
  rw [hy]
  replace H := H.store 1 hy rfl rfl
  dsimp only [List.set] at H
  clear hy
  refine hK.out _ _ ?_; clear hK K
  (try simp only [Act.put, List.getElem_toArray, List.getElem_cons_zero, List.getElem_cons_succ, List.setIfInBounds_toArray, List.set_cons_zero, List.set_cons_succ])
  refine Kr.seqDone ?_
  have hk := H.c
  simp only [Kr.Cells] at hk
  go_wp2
  refine bodyPost_ret (v := .agg #[.slice p5 n5 c5]) (by simp [results, Try.results24, go_sem, hk]) rfl ⟨p5, n5, c5, rfl, by rw [Nat.mod_eq_of_lt HS.out]; exact (H.nw 0 rfl), H.g⟩
set_option linter.unusedSimpArgs false in
set_option maxRecDepth 100000 in
set_option maxHeartbeats 16000000 in
theorem radd3_hi {pa : Option Addr} {na ca : Nat} {pb : Option Addr} {nb cb : Nat} {pm : Option Addr} {nm cm : Nat} {x y m : Nat} {w : World} (ha : Nw w pa na ca (digs x)) (hb : Nw w pb nb cb (digs y)) (hm : Nw w pm nm cm (digs m)) (hx : x < m) (hy : y < m) (vm : m < pw 900) (hs : ¬ x + y < m) :
    Calls Try.prog 24 #[.agg #[.slice pa na ca], .agg #[.slice pb nb cb], .agg #[.slice pm nm cm]] w (Has ((x + y) % m) w) := by
  have HX := Lib.hid hx
  have HY := Lib.hid hy
  have VM := Lib.hid vm
  have HS := Lib.hid hs
  have hna : na ≤ 1000 := Nat.le_trans (nw_small ha (Nat.lt_trans hx vm)) (by decide)
  have hnb : nb ≤ 1000 := Nat.le_trans (nw_small hb (Nat.lt_trans hy vm)) (by decide)
  have HNS : ∀ (W : World) (p : Option Addr) (n c : Nat), Nw W p n c (digs (x + y)) → n ≤ 1000 := fun W p n c h => Nat.le_trans (nw_small (K := 901) h (by have h2 : m + m < pw 901 := pw_dbl vm; omega)) (by decide)
  replace HNS := Lib.hid HNS
  clear hx hy vm hs
  have H := Sta.start w
  replace H := H.num ha
  replace H := H.num hb
  replace H := H.num hm
  go_enter Try.func24, Try.ntmps24
  go_upto_region 0 with fail
  refine Kr.seqStart ?_
  refine Kr.seqS (fun K hK => ?_)
  go_simp
  obtain ⟨y1, hy⟩ : ∃ y, w.alloc (.cells #[.slice pa na ca] 24) = y := ⟨_, rfl⟩
  obtain ⟨ba, hb⟩ : ∃ b, w.heap.size = b := ⟨_, rfl⟩
  rw [hy, hb]
  replace H := H.alloc hy hb rfl
  clear hy hb
  refine hK.out _ _ ?_; clear hK K
  (try simp only [Act.put, List.getElem_toArray, List.getElem_cons_zero, List.getElem_cons_succ, List.setIfInBounds_toArray, List.set_cons_zero, List.set_cons_succ])
  refine Kr.seqS (fun K hK => ?_)
  go_simp
  obtain ⟨y2, hy⟩ : ∃ y, y1.alloc (.cells #[.slice pb nb cb] 24) = y := ⟨_, rfl⟩
  obtain ⟨bb, hb⟩ : ∃ b, y1.heap.size = b := ⟨_, rfl⟩
  rw [hy, hb]
  replace H := H.alloc hy hb rfl
  clear hy hb
  refine hK.out _ _ ?_; clear hK K
  (try simp only [Act.put, List.getElem_toArray, List.getElem_cons_zero, List.getElem_cons_succ, List.setIfInBounds_toArray, List.set_cons_zero, List.set_cons_succ])
  refine Kr.seqS (fun K hK => ?_)
  go_simp
  obtain ⟨y3, hy⟩ : ∃ y, y2.alloc (.cells #[.slice pm nm cm] 24) = y := ⟨_, rfl⟩
  obtain ⟨bm, hb⟩ : ∃ b, y2.heap.size = b := ⟨_, rfl⟩
  rw [hy, hb]
  replace H := H.alloc hy hb rfl
  clear hy hb
  refine hK.out _ _ ?_; clear hK K
  (try simp only [Act.put, List.getElem_toArray, List.getElem_cons_zero, List.getElem_cons_succ, List.setIfInBounds_toArray, List.set_cons_zero, List.set_cons_succ])
  refine Kr.seqS (fun K hK => ?_)
  go_simp
  obtain ⟨y4, hy⟩ : ∃ y, y3.alloc (.cells #[.slice none 0 0] 24) = y := ⟨_, rfl⟩
  obtain ⟨br, hb⟩ : ∃ b, y3.heap.size = b := ⟨_, rfl⟩
  rw [hy, hb]
  replace H := H.alloc hy hb rfl
  clear hy hb
  refine hK.out _ _ ?_; clear hK K
  (try simp only [Act.put, List.getElem_toArray, List.getElem_cons_zero, List.getElem_cons_succ, List.setIfInBounds_toArray, List.set_cons_zero, List.set_cons_succ])
  refine Kr.seqDone ?_
  go_upto_region 1 with fail
  refine Kr.seqStart ?_
  have hk := H.c
  simp only [Kr.Cells] at hk
  iterate 2 (refine Kr.seqP (v := ?_) (by rfl) ?_ ?_; rotate_left; (focus (go_simp; first | done | rfl)); (try simp only [Act.put, List.getElem_toArray, List.getElem_cons_zero, List.getElem_cons_succ, List.setIfInBounds_toArray, List.set_cons_zero, List.set_cons_succ]))
  refine Kr.seqS (fun K hK => ?_)
  go_simp
  go_at_call 43
  refine (rplus3_v (H.nw 2 rfl) (H.nw 1 rfl) hna hnb).mono ?_
  rintro e y5 ⟨p5, n5, c5, rfl, hr, hg⟩
  clear hk
  replace H := H.grow hg
  replace H := H.num hr
  clear hr hg
  refine hK.out _ _ ?_; clear hK K
  (try simp only [Act.put, List.getElem_toArray, List.getElem_cons_zero, List.getElem_cons_succ, List.setIfInBounds_toArray, List.set_cons_zero, List.set_cons_succ])
  refine Kr.seqS (fun K hK => ?_)
  go_simp
  obtain ⟨y6, hy⟩ : ∃ y, y5.alloc (.cells #[.slice none 0 0] 24) = y := ⟨_, rfl⟩
  obtain ⟨bs, hb⟩ : ∃ b, y5.heap.size = b := ⟨_, rfl⟩
  rw [hy, hb]
  replace H := H.alloc hy hb rfl
  clear hy hb
  refine hK.out _ _ ?_; clear hK K
  (try simp only [Act.put, List.getElem_toArray, List.getElem_cons_zero, List.getElem_cons_succ, List.setIfInBounds_toArray, List.set_cons_zero, List.set_cons_succ])
  have hk := H.c
  simp only [Kr.Cells] at hk
  refine Kr.seqS (fun K hK => ?_)
  go_simp
  clear hk
  obtain ⟨y7, hy⟩ : ∃ y, y6.setCell ⟨bs, 0, none⟩ (.slice p5 n5 c5) = y := ⟨_, rfl⟩
  rw [hy]
  replace H := H.store 0 hy rfl rfl
  dsimp only [List.set] at H
  clear hy
  refine hK.out _ _ ?_; clear hK K
  (try simp only [Act.put, List.getElem_toArray, List.getElem_cons_zero, List.getElem_cons_succ, List.setIfInBounds_toArray, List.set_cons_zero, List.set_cons_succ])
  refine Kr.seqDone ?_
  go_upto_region 2 with fail
  refine Kr.seqStart ?_
  have hk := H.c
  simp only [Kr.Cells] at hk
  iterate 2 (refine Kr.seqP (v := ?_) (by rfl) ?_ ?_; rotate_left; (focus (go_simp; first | done | rfl)); (try simp only [Act.put, List.getElem_toArray, List.getElem_cons_zero, List.getElem_cons_succ, List.setIfInBounds_toArray, List.set_cons_zero, List.set_cons_succ]))
  refine Kr.seqS (fun K hK => ?_)
  go_simp
  go_at_call 36
  refine (less3_v (H.nw 0 rfl) (H.nw 1 rfl)).mono ?_
  rintro e y8 ⟨rfl, hg⟩
  rw [decide_eq_false HS.out]
  clear hk
  replace H := H.grow hg
  clear hg
  refine hK.out _ _ ?_; clear hK K
  (try simp only [Act.put, List.getElem_toArray, List.getElem_cons_zero, List.getElem_cons_succ, List.setIfInBounds_toArray, List.set_cons_zero, List.set_cons_succ])
  refine Kr.seqDone ?_
  go_upto_region 4 with fail
  refine Kr.seqStart ?_
  have hk := H.c
  simp only [Kr.Cells] at hk
  iterate 2 (refine Kr.seqP (v := ?_) (by rfl) ?_ ?_; rotate_left; (focus (go_simp; first | done | rfl)); (try simp only [Act.put, List.getElem_toArray, List.getElem_cons_zero, List.getElem_cons_succ, List.setIfInBounds_toArray, List.set_cons_zero, List.set_cons_succ]))
  refine Kr.seqS (fun K hK => ?_)
  go_simp
  go_at_call 78
  refine (rminus3_v (H.nw 0 rfl) (H.nw 1 rfl) (HNS.out _ _ _ _ (H.nw 0 rfl)) (Nat.le_of_not_lt HS.out)).mono ?_
  rintro e y9 ⟨p9, n9, c9, rfl, hr, hg⟩
  clear hk
  replace H := H.grow hg
  replace H := H.num hr
  clear hr hg
  refine hK.out _ _ ?_; clear hK K
  (try simp only [Act.put, List.getElem_toArray, List.getElem_cons_zero, List.getElem_cons_succ, List.setIfInBounds_toArray, List.set_cons_zero, List.set_cons_succ])
  have hk := H.c
  simp only [Kr.Cells] at hk
  refine Kr.seqS (fun K hK => ?_)
  go_simp
  clear hk
  obtain ⟨y10, hy⟩ : ∃ y, y9.setCell ⟨br, 0, none⟩ (.slice p9 n9 c9) = y := ⟨_, rfl⟩
  rw [hy]
  replace H := H.store 1 hy rfl rfl
  dsimp only [List.set] at H
  clear hy
  refine hK.out _ _ ?_; clear hK K
  (try simp only [Act.put, List.getElem_toArray, List.getElem_cons_zero, List.getElem_cons_succ, List.setIfInBounds_toArray, List.set_cons_zero, List.set_cons_succ])
  refine Kr.seqDone ?_
  have hk := H.c
  simp only [Kr.Cells] at hk
  go_wp2
  refine bodyPost_ret (v := .agg #[.slice p9 n9 c9]) (by simp [results, Try.results24, go_sem, hk]) rfl ⟨p9, n9, c9, rfl, by rw [show (x + y) % m = x + y - m by have h1 := HX.out; have h2 := HY.out; have h3 := HS.out; rw [Nat.mod_eq_sub_mod (by omega), Nat.mod_eq_of_lt (by omega)]]; exact (H.nw 0 rfl), H.g⟩
theorem radd3_v {pa : Option Addr} {na ca : Nat} {pb : Option Addr} {nb cb : Nat} {pm : Option Addr} {nm cm : Nat} {x y m : Nat} {w : World} (ha : Nw w pa na ca (digs x)) (hb : Nw w pb nb cb (digs y)) (hm : Nw w pm nm cm (digs m)) (hx : x < m) (hy : y < m) (vm : m < pw 900) :
    Calls Try.prog 24 #[.agg #[.slice pa na ca], .agg #[.slice pb nb cb], .agg #[.slice pm nm cm]] w (Has ((x + y) % m) w) :=
  if hs : x + y < m then radd3_lo ha hb hm hx hy vm hs else radd3_hi ha hb hm hx hy vm hs
set_option linter.unusedSimpArgs false in
set_option maxRecDepth 100000 in
set_option maxHeartbeats 16000000 in
theorem rsub3_neg {pa : Option Addr} {na ca : Nat} {pb : Option Addr} {nb cb : Nat} {pm : Option Addr} {nm cm : Nat} {x y m : Nat} {w : World} (ha : Nw w pa na ca (digs x)) (hb : Nw w pb nb cb (digs y)) (hm : Nw w pm nm cm (digs m)) (hx : x < m) (hy : y < m) (vm : m < pw 900) (hs : x < y) :
    Calls Try.prog 25 #[.agg #[.slice pa na ca], .agg #[.slice pb nb cb], .agg #[.slice pm nm cm]] w (Has ((x + m - y) % m) w) := by
  have HX := Lib.hid hx
  have HY := Lib.hid hy
  have VM := Lib.hid vm
  have HS := Lib.hid hs
  have hna : na ≤ 1000 := Nat.le_trans (nw_small ha (Nat.lt_trans hx vm)) (by decide)
  have hnm : nm ≤ 1000 := Nat.le_trans (nw_small hm vm) (by decide)
  have HNS : ∀ (W : World) (p : Option Addr) (n c : Nat), Nw W p n c (digs (x + m)) → n ≤ 1000 := fun W p n c h => Nat.le_trans (nw_small (K := 901) h (by have h2 : m + m < pw 901 := pw_dbl vm; omega)) (by decide)
  replace HNS := Lib.hid HNS
  clear hx hy vm hs
  have H := Sta.start w
  replace H := H.num ha
  replace H := H.num hb
  replace H := H.num hm
  go_enter Try.func25, Try.ntmps25
  go_upto_region 0 with fail
  refine Kr.seqStart ?_
  refine Kr.seqS (fun K hK => ?_)
  go_simp
  obtain ⟨y1, hy⟩ : ∃ y, w.alloc (.cells #[.slice pa na ca] 24) = y := ⟨_, rfl⟩
  obtain ⟨ba, hb⟩ : ∃ b, w.heap.size = b := ⟨_, rfl⟩
  rw [hy, hb]
  replace H := H.alloc hy hb rfl
  clear hy hb
  refine hK.out _ _ ?_; clear hK K
  (try simp only [Act.put, List.getElem_toArray, List.getElem_cons_zero, List.getElem_cons_succ, List.setIfInBounds_toArray, List.set_cons_zero, List.set_cons_succ])
  refine Kr.seqS (fun K hK => ?_)
  go_simp
  obtain ⟨y2, hy⟩ : ∃ y, y1.alloc (.cells #[.slice pb nb cb] 24) = y := ⟨_, rfl⟩
  obtain ⟨bb, hb⟩ : ∃ b, y1.heap.size = b := ⟨_, rfl⟩
  rw [hy, hb]
  replace H := H.alloc hy hb rfl
  clear hy hb
  refine hK.out _ _ ?_; clear hK K
  (try simp only [Act.put, List.getElem_toArray, List.getElem_cons_zero, List.getElem_cons_succ, List.setIfInBounds_toArray, List.set_cons_zero, List.set_cons_succ])
  refine Kr.seqS (fun K hK => ?_)
  go_simp
  obtain ⟨y3, hy⟩ : ∃ y, y2.alloc (.cells #[.slice pm nm cm] 24) = y := ⟨_, rfl⟩
  obtain ⟨bm, hb⟩ : ∃ b, y2.heap.size = b := ⟨_, rfl⟩
  rw [hy, hb]
  replace H := H.alloc hy hb rfl
  clear hy hb
  refine hK.out _ _ ?_; clear hK K
  (try simp only [Act.put, List.getElem_toArray, List.getElem_cons_zero, List.getElem_cons_succ, List.setIfInBounds_toArray, List.set_cons_zero, List.set_cons_succ])
  refine Kr.seqS (fun K hK => ?_)
  go_simp
  obtain ⟨y4, hy⟩ : ∃ y, y3.alloc (.cells #[.slice none 0 0] 24) = y := ⟨_, rfl⟩
  obtain ⟨br, hb⟩ : ∃ b, y3.heap.size = b := ⟨_, rfl⟩
  rw [hy, hb]
  replace H := H.alloc hy hb rfl
  clear hy hb
  refine hK.out _ _ ?_; clear hK K
  (try simp only [Act.put, List.getElem_toArray, List.getElem_cons_zero, List.getElem_cons_succ, List.setIfInBounds_toArray, List.set_cons_zero, List.set_cons_succ])
  refine Kr.seqDone ?_
  go_upto_region 1 with fail
  refine Kr.seqStart ?_
  have hk := H.c
  simp only [Kr.Cells] at hk
  iterate 2 (refine Kr.seqP (v := ?_) (by rfl) ?_ ?_; rotate_left; (focus (go_simp; first | done | rfl)); (try simp only [Act.put, List.getElem_toArray, List.getElem_cons_zero, List.getElem_cons_succ, List.setIfInBounds_toArray, List.set_cons_zero, List.set_cons_succ]))
  refine Kr.seqS (fun K hK => ?_)
  go_simp
  go_at_call 36
  refine (less3_v (H.nw 2 rfl) (H.nw 1 rfl)).mono ?_
  rintro e y5 ⟨rfl, hg⟩
  rw [decide_eq_true HS.out]
  clear hk
  replace H := H.grow hg
  clear hg
  refine hK.out _ _ ?_; clear hK K
  (try simp only [Act.put, List.getElem_toArray, List.getElem_cons_zero, List.getElem_cons_succ, List.setIfInBounds_toArray, List.set_cons_zero, List.set_cons_succ])
  refine Kr.seqDone ?_
  go_upto_region 2 with fail
  refine Kr.startL (fun W' => Kr.Cells W' [(ba, 0, .slice pa na ca), (bm, 0, .slice pm nm cm), (bb, 0, .slice pb nb cb)]) [] (by kernel_rfl) ?_
  have gd : Gr y5 y5.drew := (Gr.refl _).drew
  generalize y5.drew = d6 at gd ⊢
  replace H := H.grow gd
  clear gd
  (refine Kr.tS 0 [] (v := ?_) rfl (by kernel_rfl) (fun _ _ _ h => h) (by rfl) (H.sub [3, 1, 2] rfl) (fun wx hSx => ?_) ?_; rotate_left; (focus (simp only [Kr.Cells] at hSx; go_simp; first | done | rfl)); (try simp only [Act.put, List.getElem_toArray, List.getElem_cons_zero, List.getElem_cons_succ, List.setIfInBounds_toArray, List.set_cons_zero, List.set_cons_succ]))
  (refine Kr.tS 1 [] (v := ?_) rfl (by kernel_rfl) (fun _ _ _ h => h) (by rfl) (H.sub [3, 1, 2] rfl) (fun wx hSx => ?_) ?_; rotate_left; (focus (simp only [Kr.Cells] at hSx; go_simp; first | done | rfl)); (try simp only [Act.put, List.getElem_toArray, List.getElem_cons_zero, List.getElem_cons_succ, List.setIfInBounds_toArray, List.set_cons_zero, List.set_cons_succ]))
  (refine Kr.tS 3 [] (v := ?_) rfl (by kernel_rfl) (fun _ _ _ h => h) (by rfl) (H.sub [3, 1, 2] rfl) (fun wx hSx => ?_) ?_; rotate_left; (focus (simp only [Kr.Cells] at hSx; go_simp; first | done | rfl)); (try simp only [Act.put, List.getElem_toArray, List.getElem_cons_zero, List.getElem_cons_succ, List.setIfInBounds_toArray, List.set_cons_zero, List.set_cons_succ]))
  refine Kr.readyL (rs := [2]) (by kernel_rfl) (by simp) ?_
  refine Kr.AllL.cons rfl (fun K hK => ?_) Kr.AllL.nil
  go_simp
  go_at_call 43
  refine (rplus3_v (H.nw 2 rfl) (H.nw 0 rfl) hna hnm).mono ?_
  rintro e y7 ⟨p7, n7, c7, rfl, hr, hg⟩
  replace H := H.grow hg
  replace H := H.num hr
  clear hr hg
  refine hK.out _ _ (fun _ => (H.sub [3, 1, 2] rfl)) ?_; clear hK K
  (try simp only [Act.put, List.getElem_toArray, List.getElem_cons_zero, List.getElem_cons_succ, List.setIfInBounds_toArray, List.set_cons_zero, List.set_cons_succ])
  refine Kr.readyL (rs := [4]) (by kernel_rfl) (by simp) ?_
  refine Kr.AllL.cons rfl (fun K hK => ?_) Kr.AllL.nil
  go_simp
  go_at_call 78
  refine (rminus3_v (H.nw 0 rfl) (H.nw 2 rfl) (HNS.out _ _ _ _ (H.nw 0 rfl)) (by have := HS.out; have := HY.out; omega)).mono ?_
  rintro e y8 ⟨p8, n8, c8, rfl, hr, hg⟩
  replace H := H.grow hg
  replace H := H.num hr
  clear hr hg
  refine hK.out _ _ (fun _ => (H.sub [3, 1, 2] rfl)) ?_; clear hK K
  (try simp only [Act.put, List.getElem_toArray, List.getElem_cons_zero, List.getElem_cons_succ, List.setIfInBounds_toArray, List.set_cons_zero, List.set_cons_succ])
  refine Kr.readyL (rs := [5]) (by kernel_rfl) (by simp) ?_
  refine Kr.AllL.cons rfl (fun K hK => ?_) Kr.AllL.nil
  have hk := H.c
  simp only [Kr.Cells] at hk
  go_simp
  clear hk
  obtain ⟨y9, hy⟩ : ∃ y, y8.setCell ⟨br, 0, none⟩ (.slice p8 n8 c8) = y := ⟨_, rfl⟩
  rw [hy]
  replace H := H.store 0 hy rfl rfl
  dsimp only [List.set] at H
  clear hy
  refine hK.out _ _ (fun _ => (H.sub [3, 1, 2] rfl)) ?_; clear hK K
  (try simp only [Act.put, List.getElem_toArray, List.getElem_cons_zero, List.getElem_cons_succ, List.setIfInBounds_toArray, List.set_cons_zero, List.set_cons_succ])
  refine Kr.doneL (by kernel_rfl) ?_ _
  have hk := H.c
  simp only [Kr.Cells] at hk
  go_wp2
  refine bodyPost_ret (v := .agg #[.slice p8 n8 c8]) (by simp [results, Try.results25, go_sem, hk]) rfl ⟨p8, n8, c8, rfl, by rw [Nat.mod_eq_of_lt (show x + m - y < m by have := HS.out; have := HY.out; omega)]; exact (H.nw 0 rfl), H.g⟩
set_option linter.unusedSimpArgs false in
set_option maxRecDepth 100000 in
set_option maxHeartbeats 16000000 in
theorem rsub3_pos {pa : Option Addr} {na ca : Nat} {pb : Option Addr} {nb cb : Nat} {pm : Option Addr} {nm cm : Nat} {x y m : Nat} {w : World} (ha : Nw w pa na ca (digs x)) (hb : Nw w pb nb cb (digs y)) (hm : Nw w pm nm cm (digs m)) (hx : x < m) (hy : y < m) (vm : m < pw 900) (hs : ¬ x < y) :
    Calls Try.prog 25 #[.agg #[.slice pa na ca], .agg #[.slice pb nb cb], .agg #[.slice pm nm cm]] w (Has ((x + m - y) % m) w) := by
  have HX := Lib.hid hx
  have HY := Lib.hid hy
  have VM := Lib.hid vm
  have HS := Lib.hid hs
  have hna : na ≤ 1000 := Nat.le_trans (nw_small ha (Nat.lt_trans hx vm)) (by decide)
  have hnm : nm ≤ 1000 := Nat.le_trans (nw_small hm vm) (by decide)
  have HNS : ∀ (W : World) (p : Option Addr) (n c : Nat), Nw W p n c (digs (x + m)) → n ≤ 1000 := fun W p n c h => Nat.le_trans (nw_small (K := 901) h (by have h2 : m + m < pw 901 := pw_dbl vm; omega)) (by decide)
  replace HNS := Lib.hid HNS
  clear hx hy vm hs
  have H := Sta.start w
  replace H := H.num ha
  replace H := H.num hb
  replace H := H.num hm
  go_enter Try.func25, Try.ntmps25
  go_upto_region 0 with fail
  refine Kr.seqStart ?_
  refine Kr.seqS (fun K hK => ?_)
  go_simp
  obtain ⟨y1, hy⟩ : ∃ y, w.alloc (.cells #[.slice pa na ca] 24) = y := ⟨_, rfl⟩
  obtain ⟨ba, hb⟩ : ∃ b, w.heap.size = b := ⟨_, rfl⟩
  rw [hy, hb]
  replace H := H.alloc hy hb rfl
  clear hy hb
  refine hK.out _ _ ?_; clear hK K
  (try simp only [Act.put, List.getElem_toArray, List.getElem_cons_zero, List.getElem_cons_succ, List.setIfInBounds_toArray, List.set_cons_zero, List.set_cons_succ])
  refine Kr.seqS (fun K hK => ?_)
  go_simp
  obtain ⟨y2, hy⟩ : ∃ y, y1.alloc (.cells #[.slice pb nb cb] 24) = y := ⟨_, rfl⟩
  obtain ⟨bb, hb⟩ : ∃ b, y1.heap.size = b := ⟨_, rfl⟩
  rw [hy, hb]
  replace H := H.alloc hy hb rfl
  clear hy hb
  refine hK.out _ _ ?_; clear hK K
  (try simp only [Act.put, List.getElem_toArray, List.getElem_cons_zero, List.getElem_cons_succ, List.setIfInBounds_toArray, List.set_cons_zero, List.set_cons_succ])
  refine Kr.seqS (fun K hK => ?_)
  go_simp
  obtain ⟨y3, hy⟩ : ∃ y, y2.alloc (.cells #[.slice pm nm cm] 24) = y := ⟨_, rfl⟩
  obtain ⟨bm, hb⟩ : ∃ b, y2.heap.size = b := ⟨_, rfl⟩
  rw [hy, hb]
  replace H := H.alloc hy hb rfl
  clear hy hb
  refine hK.out _ _ ?_; clear hK K
  (try simp only [Act.put, List.getElem_toArray, List.getElem_cons_zero, List.getElem_cons_succ, List.setIfInBounds_toArray, List.set_cons_zero, List.set_cons_succ])
  refine Kr.seqS (fun K hK => ?_)
  go_simp
  obtain ⟨y4, hy⟩ : ∃ y, y3.alloc (.cells #[.slice none 0 0] 24) = y := ⟨_, rfl⟩
  obtain ⟨br, hb⟩ : ∃ b, y3.heap.size = b := ⟨_, rfl⟩
  rw [hy, hb]
  replace H := H.alloc hy hb rfl
  clear hy hb
  refine hK.out _ _ ?_; clear hK K
  (try simp only [Act.put, List.getElem_toArray, List.getElem_cons_zero, List.getElem_cons_succ, List.setIfInBounds_toArray, List.set_cons_zero, List.set_cons_succ])
  refine Kr.seqDone ?_
  go_upto_region 1 with fail
  refine Kr.seqStart ?_
  have hk := H.c
  simp only [Kr.Cells] at hk
  iterate 2 (refine Kr.seqP (v := ?_) (by rfl) ?_ ?_; rotate_left; (focus (go_simp; first | done | rfl)); (try simp only [Act.put, List.getElem_toArray, List.getElem_cons_zero, List.getElem_cons_succ, List.setIfInBounds_toArray, List.set_cons_zero, List.set_cons_succ]))
  refine Kr.seqS (fun K hK => ?_)
  go_simp
  go_at_call 36
  refine (less3_v (H.nw 2 rfl) (H.nw 1 rfl)).mono ?_
  rintro e y5 ⟨rfl, hg⟩
  rw [decide_eq_false HS.out]
  clear hk
  replace H := H.grow hg
  clear hg
  refine hK.out _ _ ?_; clear hK K
  (try simp only [Act.put, List.getElem_toArray, List.getElem_cons_zero, List.getElem_cons_succ, List.setIfInBounds_toArray, List.set_cons_zero, List.set_cons_succ])
  refine Kr.seqDone ?_
  go_upto_region 3 with fail
  refine Kr.seqStart ?_
  have hk := H.c
  simp only [Kr.Cells] at hk
  iterate 2 (refine Kr.seqP (v := ?_) (by rfl) ?_ ?_; rotate_left; (focus (go_simp; first | done | rfl)); (try simp only [Act.put, List.getElem_toArray, List.getElem_cons_zero, List.getElem_cons_succ, List.setIfInBounds_toArray, List.set_cons_zero, List.set_cons_succ]))
  refine Kr.seqS (fun K hK => ?_)
  go_simp
  go_at_call 78
  refine (rminus3_v (H.nw 2 rfl) (H.nw 1 rfl) hna (Nat.le_of_not_lt HS.out)).mono ?_
  rintro e y6 ⟨p6, n6, c6, rfl, hr, hg⟩
  clear hk
  replace H := H.grow hg
  replace H := H.num hr
  clear hr hg
  refine hK.out _ _ ?_; clear hK K
  (try simp only [Act.put, List.getElem_toArray, List.getElem_cons_zero, List.getElem_cons_succ, List.setIfInBounds_toArray, List.set_cons_zero, List.set_cons_succ])
  have hk := H.c
  simp only [Kr.Cells] at hk
  refine Kr.seqS (fun K hK => ?_)
  go_simp
  clear hk
  obtain ⟨y7, hy⟩ : ∃ y, y6.setCell ⟨br, 0, none⟩ (.slice p6 n6 c6) = y := ⟨_, rfl⟩
  rw [hy]
  replace H := H.store 0 hy rfl rfl
  dsimp only [List.set] at H
  clear hy
  refine hK.out _ _ ?_; clear hK K
  (try simp only [Act.put, List.getElem_toArray, List.getElem_cons_zero, List.getElem_cons_succ, List.setIfInBounds_toArray, List.set_cons_zero, List.set_cons_succ])
  refine Kr.seqDone ?_
  have hk := H.c
  simp only [Kr.Cells] at hk
  go_wp2
  refine bodyPost_ret (v := .agg #[.slice p6 n6 c6]) (by simp [results, Try.results25, go_sem, hk]) rfl ⟨p6, n6, c6, rfl, by rw [show (x + m - y) % m = x - y by have h1 := HX.out; have h3 := HS.out; rw [Nat.mod_eq_sub_mod (by omega), Nat.mod_eq_of_lt (by omega)]; omega]; exact (H.nw 0 rfl), H.g⟩
theorem rsub3_v {pa : Option Addr} {na ca : Nat} {pb : Option Addr} {nb cb : Nat} {pm : Option Addr} {nm cm : Nat} {x y m : Nat} {w : World} (ha : Nw w pa na ca (digs x)) (hb : Nw w pb nb cb (digs y)) (hm : Nw w pm nm cm (digs m)) (hx : x < m) (hy : y < m) (vm : m < pw 900) :
    Calls Try.prog 25 #[.agg #[.slice pa na ca], .agg #[.slice pb nb cb], .agg #[.slice pm nm cm]] w (Has ((x + m - y) % m) w) :=
  if hs : x < y then rsub3_neg ha hb hm hx hy vm hs else rsub3_pos ha hb hm hx hy vm hs
end Go.Proofs.Ytlciocebbckdcaa.Mr
