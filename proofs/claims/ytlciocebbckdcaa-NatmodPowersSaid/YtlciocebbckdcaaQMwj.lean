/- The walk of NatmodPowers. -/
import Derived.Test.YtlciocebbckdcaaQMwi
import Derived.Test.YtlciocebbckdcaaPk5
import Derived.Deep.Cut
namespace Go.Proofs.Ytlciocebbckdcaa.Ml
open Go.RowKit Go.Shelf Go.Proofs.Ytlciocebbckdcaa.Nm Go.Proofs.Ytlciocebbckdcaa.Ne Go.Proofs.Ytlciocebbckdcaa.Nf Go.Proofs.Ytlciocebbckdcaa.Nk Go.Proofs.Ytlciocebbckdcaa.Nv Go.Proofs.Ytlciocebbckdcaa.Nr2 Go.Proofs.Ytlciocebbckdcaa.Mo Go.Proofs.Ytlciocebbckdcaa.Mr Go.Proofs.Ytlciocebbckdcaa.Kr Go.Proofs.Ytlciocebbckdcaa.Nl

theorem pq_add (x u v m : Nat) : x ^ (u + v) % m = x ^ u % m * (x ^ v % m) % m := by rw [← Nat.mul_mod, Nat.pow_add]
theorem pq_mul (x u v m : Nat) : (x ^ u % m) ^ v % m = x ^ (u * v) % m := by rw [← Nat.pow_mod, Nat.pow_mul]
theorem pq_base (x y u m : Nat) : (x * y % m) ^ u % m = x ^ u % m * (y ^ u % m) % m := by rw [← Nat.pow_mod, Nat.mul_pow, Nat.mul_mod]
theorem pq_one {x m : Nat} (h : x < m) : x ^ 1 % m = x := by rw [Nat.pow_one, Nat.mod_eq_of_lt h]
set_option linter.unusedSimpArgs false in
set_option maxRecDepth 100000 in
set_option maxHeartbeats 16000000 in
theorem pows_g8 {pa : Option Addr} {na ca : Nat} {pb : Option Addr} {nb cb : Nat} {pm : Option Addr} {nm cm : Nat} {pe : Option Addr} {ne ce : Nat} {pf : Option Addr} {nf cf : Nat} {w : World} (hg : ∃ x ∈ [(pa, na, ca), (pb, nb, cb), (pm, nm, cm)], 8 < x.2.1) :
    Calls Try.prog 8 #[.agg #[.slice pa na ca], .agg #[.slice pb nb cb], .agg #[.slice pm nm cm], .agg #[.slice pe ne ce], .agg #[.slice pf nf cf]] w fun e w' => e = .returned (.bool true) ∧ Gr w w' := by
  have HG := Lib.hid hg
  clear hg
  have H := Sta.start w
  go_enter Try.func8, Try.ntmps8
  go_upto_region 0 with fail
  refine Kr.seqStartW ?_
  refine Kr.seqR (by rfl) (fun K hK => ?_)
  go_simp
  obtain ⟨y1, hy⟩ : ∃ y, w.alloc (.cells #[.slice pa na ca] 24) = y := ⟨_, rfl⟩
  obtain ⟨ba, hb⟩ : ∃ b, w.heap.size = b := ⟨_, rfl⟩
  rw [hy, hb]
  replace H := H.alloc hy hb rfl
  clear hy hb
  (refine Kr.outS hK (a' := ?_) ?_ ?_; rotate_left; (focus ((try simp only [Kr.PT]); first | done | rfl))); clear hK K
  refine Kr.seqR (by rfl) (fun K hK => ?_)
  go_simp
  obtain ⟨y2, hy⟩ : ∃ y, y1.alloc (.cells #[.slice pb nb cb] 24) = y := ⟨_, rfl⟩
  obtain ⟨bb, hb⟩ : ∃ b, y1.heap.size = b := ⟨_, rfl⟩
  rw [hy, hb]
  replace H := H.alloc hy hb rfl
  clear hy hb
  (refine Kr.outS hK (a' := ?_) ?_ ?_; rotate_left; (focus ((try simp only [Kr.PT]); first | done | rfl))); clear hK K
  refine Kr.seqR (by rfl) (fun K hK => ?_)
  go_simp
  obtain ⟨y3, hy⟩ : ∃ y, y2.alloc (.cells #[.slice pm nm cm] 24) = y := ⟨_, rfl⟩
  obtain ⟨bm, hb⟩ : ∃ b, y2.heap.size = b := ⟨_, rfl⟩
  rw [hy, hb]
  replace H := H.alloc hy hb rfl
  clear hy hb
  (refine Kr.outS hK (a' := ?_) ?_ ?_; rotate_left; (focus ((try simp only [Kr.PT]); first | done | rfl))); clear hK K
  refine Kr.seqR (by rfl) (fun K hK => ?_)
  go_simp
  obtain ⟨y4, hy⟩ : ∃ y, y3.alloc (.cells #[.slice pe ne ce] 24) = y := ⟨_, rfl⟩
  obtain ⟨be, hb⟩ : ∃ b, y3.heap.size = b := ⟨_, rfl⟩
  rw [hy, hb]
  replace H := H.alloc hy hb rfl
  clear hy hb
  (refine Kr.outS hK (a' := ?_) ?_ ?_; rotate_left; (focus ((try simp only [Kr.PT]); first | done | rfl))); clear hK K
  refine Kr.seqR (by rfl) (fun K hK => ?_)
  go_simp
  obtain ⟨y5, hy⟩ : ∃ y, y4.alloc (.cells #[.slice pf nf cf] 24) = y := ⟨_, rfl⟩
  obtain ⟨bf, hb⟩ : ∃ b, y4.heap.size = b := ⟨_, rfl⟩
  rw [hy, hb]
  replace H := H.alloc hy hb rfl
  clear hy hb
  (refine Kr.outS hK (a' := ?_) ?_ ?_; rotate_left; (focus ((try simp only [Kr.PT]); first | done | rfl))); clear hK K
  (refine Kr.seqQ (v := ?_) (a' := ?_) (by rfl) ?_ ?_ ?_; rotate_left 2; (focus (go_simp; first | done | rfl)); (focus ((try simp only [Kr.PT]); first | done | rfl)))
  refine Kr.seqDoneW ?_
  go_upto_region 1 with fail
  refine Kr.seqStartW ?_
  refine Kr.seqR (by rfl) (fun K hK => ?_)
  go_simp
  go_at_call 18
  refine (awake3 _).mono ?_
  rintro e y6 ⟨rfl, hg⟩
  replace H := H.grow hg
  clear hg
  (refine Kr.outS hK (a' := ?_) ?_ ?_; rotate_left; (focus ((try simp only [Kr.PT]); first | done | rfl))); clear hK K
  iterate 2 (refine Kr.seqQ (v := ?_) (a' := ?_) (by rfl) ?_ ?_ ?_; rotate_left 2; (focus (go_simp; first | done | rfl)); (focus ((try simp only [Kr.PT]); first | done | rfl)))
  have hk := H.c
  simp only [Kr.Cells] at hk
  iterate 3 (refine Kr.seqQ (v := ?_) (a' := ?_) (by rfl) ?_ ?_ ?_; rotate_left 2; (focus (go_simp; first | done | rfl)); (focus ((try simp only [Kr.PT]); first | done | rfl)))
  refine Kr.seqR (by rfl) (fun K hK => ?_)
  go_simp
  clear hk
  obtain ⟨y7, hy⟩ : ∃ y, y6.alloc (.cells #[.slice pa na ca, .slice pb nb cb, .slice pm nm cm] 24) = y := ⟨_, rfl⟩
  obtain ⟨by7, hb⟩ : ∃ b, y6.heap.size = b := ⟨_, rfl⟩
  rw [hy, hb]
  have HN : Nats y7 by7 0 [(pa, na, ca), (pb, nb, cb), (pm, nm, cm)] := nats_mk hy hb
  have hg : Gr y6 y7 := hy ▸ (Gr.refl _).alloc _
  replace H := H.grow hg
  clear hg hy hb
  (refine Kr.outS hK (a' := ?_) ?_ ?_; rotate_left; (focus ((try simp only [Kr.PT]); first | done | rfl))); clear hK K
  refine Kr.seqR (by rfl) (fun K hK => ?_)
  go_simp
  go_at_call 19
  refine (few_no HN (by simp) HG.out).mono ?_
  rintro e y8 ⟨rfl, hg⟩
  replace H := H.grow hg
  clear hg
  clear HN
  (refine Kr.outS hK (a' := ?_) ?_ ?_; rotate_left; (focus ((try simp only [Kr.PT]); first | done | rfl))); clear hK K
  iterate 3 (refine Kr.seqQ (v := ?_) (a' := ?_) (by rfl) ?_ ?_ ?_; rotate_left 2; (focus (go_simp; first | done | rfl)); (focus ((try simp only [Kr.PT]); first | done | rfl)))
  (refine Kr.seqSkipQ (a' := ?_) (by rfl) ?_ ?_; rotate_left; (focus ((try simp only [Kr.PT]); first | done | rfl)))
  (refine Kr.seqSkipQ (a' := ?_) (by rfl) ?_ ?_; rotate_left; (focus ((try simp only [Kr.PT]); first | done | rfl)))
  (refine Kr.seqSkipQ (a' := ?_) (by rfl) ?_ ?_; rotate_left; (focus ((try simp only [Kr.PT]); first | done | rfl)))
  (refine Kr.seqSkipQ (a' := ?_) (by rfl) ?_ ?_; rotate_left; (focus ((try simp only [Kr.PT]); first | done | rfl)))
  (refine Kr.seqSkipQ (a' := ?_) (by rfl) ?_ ?_; rotate_left; (focus ((try simp only [Kr.PT]); first | done | rfl)))
  iterate 2 (refine Kr.seqQ (v := ?_) (a' := ?_) (by rfl) ?_ ?_ ?_; rotate_left 2; (focus (go_simp; first | done | rfl)); (focus ((try simp only [Kr.PT]); first | done | rfl)))
  (refine Kr.seqSkipQ (a' := ?_) (by rfl) ?_ ?_; rotate_left; (focus ((try simp only [Kr.PT]); first | done | rfl)))
  (refine Kr.seqSkipQ (a' := ?_) (by rfl) ?_ ?_; rotate_left; (focus ((try simp only [Kr.PT]); first | done | rfl)))
  (refine Kr.seqSkipQ (a' := ?_) (by rfl) ?_ ?_; rotate_left; (focus ((try simp only [Kr.PT]); first | done | rfl)))
  (refine Kr.seqSkipQ (a' := ?_) (by rfl) ?_ ?_; rotate_left; (focus ((try simp only [Kr.PT]); first | done | rfl)))
  (refine Kr.seqSkipQ (a' := ?_) (by rfl) ?_ ?_; rotate_left; (focus ((try simp only [Kr.PT]); first | done | rfl)))
  (refine Kr.seqSkipQ (a' := ?_) (by rfl) ?_ ?_; rotate_left; (focus ((try simp only [Kr.PT]); first | done | rfl)))
  iterate 2 (refine Kr.seqQ (v := ?_) (a' := ?_) (by rfl) ?_ ?_ ?_; rotate_left 2; (focus (go_simp; first | done | rfl)); (focus ((try simp only [Kr.PT]); first | done | rfl)))
  (refine Kr.seqSkipQ (a' := ?_) (by rfl) ?_ ?_; rotate_left; (focus ((try simp only [Kr.PT]); first | done | rfl)))
  (refine Kr.seqSkipQ (a' := ?_) (by rfl) ?_ ?_; rotate_left; (focus ((try simp only [Kr.PT]); first | done | rfl)))
  (refine Kr.seqSkipQ (a' := ?_) (by rfl) ?_ ?_; rotate_left; (focus ((try simp only [Kr.PT]); first | done | rfl)))
  iterate 2 (refine Kr.seqQ (v := ?_) (a' := ?_) (by rfl) ?_ ?_ ?_; rotate_left 2; (focus (go_simp; first | done | rfl)); (focus ((try simp only [Kr.PT]); first | done | rfl)))
  (refine Kr.seqSkipQ (a' := ?_) (by rfl) ?_ ?_; rotate_left; (focus ((try simp only [Kr.PT]); first | done | rfl)))
  (refine Kr.seqSkipQ (a' := ?_) (by rfl) ?_ ?_; rotate_left; (focus ((try simp only [Kr.PT]); first | done | rfl)))
  (refine Kr.seqSkipQ (a' := ?_) (by rfl) ?_ ?_; rotate_left; (focus ((try simp only [Kr.PT]); first | done | rfl)))
  (refine Kr.seqQ (v := ?_) (a' := ?_) (by rfl) ?_ ?_ ?_; rotate_left 2; (focus (go_simp; first | done | rfl)); (focus ((try simp only [Kr.PT]); first | done | rfl)))
  refine Kr.seqDoneW ?_
  go_upto_region 2 with fail
  refine Kr.seqStartW ?_
  refine Kr.seqR (by rfl) (fun K hK => ?_)
  go_simp
  go_at_call 18
  refine (awake3 _).mono ?_
  rintro e y9 ⟨rfl, hg⟩
  replace H := H.grow hg
  clear hg
  (refine Kr.outS hK (a' := ?_) ?_ ?_; rotate_left; (focus ((try simp only [Kr.PT]); first | done | rfl))); clear hK K
  (refine Kr.seqQ (v := ?_) (a' := ?_) (by rfl) ?_ ?_ ?_; rotate_left 2; (focus (go_simp; first | done | rfl)); (focus ((try simp only [Kr.PT]); first | done | rfl)))
  refine Kr.seqDoneW ?_
  go_wp2
  go_ret
  exact ⟨rfl, H.g⟩
set_option linter.unusedSimpArgs false in
set_option maxRecDepth 100000 in
set_option maxHeartbeats 16000000 in
theorem pows_g2 {pa : Option Addr} {na ca : Nat} {pb : Option Addr} {nb cb : Nat} {pm : Option Addr} {nm cm : Nat} {pe : Option Addr} {ne ce : Nat} {pf : Option Addr} {nf cf : Nat} {w : World} (hs : ∀ x ∈ [(pa, na, ca), (pb, nb, cb), (pm, nm, cm)], x.2.1 ≤ 8) (hg : ∃ x ∈ [(pe, ne, ce), (pf, nf, cf)], 2 < x.2.1) :
    Calls Try.prog 8 #[.agg #[.slice pa na ca], .agg #[.slice pb nb cb], .agg #[.slice pm nm cm], .agg #[.slice pe ne ce], .agg #[.slice pf nf cf]] w fun e w' => e = .returned (.bool true) ∧ Gr w w' := by
  have HS := Lib.hid hs
  have HG := Lib.hid hg
  clear hs hg
  have H := Sta.start w
  go_enter Try.func8, Try.ntmps8
  go_upto_region 0 with fail
  refine Kr.seqStartW ?_
  refine Kr.seqR (by rfl) (fun K hK => ?_)
  go_simp
  obtain ⟨y1, hy⟩ : ∃ y, w.alloc (.cells #[.slice pa na ca] 24) = y := ⟨_, rfl⟩
  obtain ⟨ba, hb⟩ : ∃ b, w.heap.size = b := ⟨_, rfl⟩
  rw [hy, hb]
  replace H := H.alloc hy hb rfl
  clear hy hb
  (refine Kr.outS hK (a' := ?_) ?_ ?_; rotate_left; (focus ((try simp only [Kr.PT]); first | done | rfl))); clear hK K
  refine Kr.seqR (by rfl) (fun K hK => ?_)
  go_simp
  obtain ⟨y2, hy⟩ : ∃ y, y1.alloc (.cells #[.slice pb nb cb] 24) = y := ⟨_, rfl⟩
  obtain ⟨bb, hb⟩ : ∃ b, y1.heap.size = b := ⟨_, rfl⟩
  rw [hy, hb]
  replace H := H.alloc hy hb rfl
  clear hy hb
  (refine Kr.outS hK (a' := ?_) ?_ ?_; rotate_left; (focus ((try simp only [Kr.PT]); first | done | rfl))); clear hK K
  refine Kr.seqR (by rfl) (fun K hK => ?_)
  go_simp
  obtain ⟨y3, hy⟩ : ∃ y, y2.alloc (.cells #[.slice pm nm cm] 24) = y := ⟨_, rfl⟩
  obtain ⟨bm, hb⟩ : ∃ b, y2.heap.size = b := ⟨_, rfl⟩
  rw [hy, hb]
  replace H := H.alloc hy hb rfl
  clear hy hb
  (refine Kr.outS hK (a' := ?_) ?_ ?_; rotate_left; (focus ((try simp only [Kr.PT]); first | done | rfl))); clear hK K
  refine Kr.seqR (by rfl) (fun K hK => ?_)
  go_simp
  obtain ⟨y4, hy⟩ : ∃ y, y3.alloc (.cells #[.slice pe ne ce] 24) = y := ⟨_, rfl⟩
  obtain ⟨be, hb⟩ : ∃ b, y3.heap.size = b := ⟨_, rfl⟩
  rw [hy, hb]
  replace H := H.alloc hy hb rfl
  clear hy hb
  (refine Kr.outS hK (a' := ?_) ?_ ?_; rotate_left; (focus ((try simp only [Kr.PT]); first | done | rfl))); clear hK K
  refine Kr.seqR (by rfl) (fun K hK => ?_)
  go_simp
  obtain ⟨y5, hy⟩ : ∃ y, y4.alloc (.cells #[.slice pf nf cf] 24) = y := ⟨_, rfl⟩
  obtain ⟨bf, hb⟩ : ∃ b, y4.heap.size = b := ⟨_, rfl⟩
  rw [hy, hb]
  replace H := H.alloc hy hb rfl
  clear hy hb
  (refine Kr.outS hK (a' := ?_) ?_ ?_; rotate_left; (focus ((try simp only [Kr.PT]); first | done | rfl))); clear hK K
  (refine Kr.seqQ (v := ?_) (a' := ?_) (by rfl) ?_ ?_ ?_; rotate_left 2; (focus (go_simp; first | done | rfl)); (focus ((try simp only [Kr.PT]); first | done | rfl)))
  refine Kr.seqDoneW ?_
  go_upto_region 1 with fail
  refine Kr.seqStartW ?_
  refine Kr.seqR (by rfl) (fun K hK => ?_)
  go_simp
  go_at_call 18
  refine (awake3 _).mono ?_
  rintro e y6 ⟨rfl, hg⟩
  replace H := H.grow hg
  clear hg
  (refine Kr.outS hK (a' := ?_) ?_ ?_; rotate_left; (focus ((try simp only [Kr.PT]); first | done | rfl))); clear hK K
  iterate 2 (refine Kr.seqQ (v := ?_) (a' := ?_) (by rfl) ?_ ?_ ?_; rotate_left 2; (focus (go_simp; first | done | rfl)); (focus ((try simp only [Kr.PT]); first | done | rfl)))
  have hk := H.c
  simp only [Kr.Cells] at hk
  iterate 3 (refine Kr.seqQ (v := ?_) (a' := ?_) (by rfl) ?_ ?_ ?_; rotate_left 2; (focus (go_simp; first | done | rfl)); (focus ((try simp only [Kr.PT]); first | done | rfl)))
  refine Kr.seqR (by rfl) (fun K hK => ?_)
  go_simp
  clear hk
  obtain ⟨y7, hy⟩ : ∃ y, y6.alloc (.cells #[.slice pa na ca, .slice pb nb cb, .slice pm nm cm] 24) = y := ⟨_, rfl⟩
  obtain ⟨by7, hb⟩ : ∃ b, y6.heap.size = b := ⟨_, rfl⟩
  rw [hy, hb]
  have HN : Nats y7 by7 0 [(pa, na, ca), (pb, nb, cb), (pm, nm, cm)] := nats_mk hy hb
  have hg : Gr y6 y7 := hy ▸ (Gr.refl _).alloc _
  replace H := H.grow hg
  clear hg hy hb
  (refine Kr.outS hK (a' := ?_) ?_ ?_; rotate_left; (focus ((try simp only [Kr.PT]); first | done | rfl))); clear hK K
  refine Kr.seqR (by rfl) (fun K hK => ?_)
  go_simp
  go_at_call 19
  refine (few_ok HN (by simp) HS.out).mono ?_
  rintro e y8 ⟨rfl, hg⟩
  replace H := H.grow hg
  clear hg
  clear HN
  (refine Kr.outS hK (a' := ?_) ?_ ?_; rotate_left; (focus ((try simp only [Kr.PT]); first | done | rfl))); clear hK K
  iterate 3 (refine Kr.seqQ (v := ?_) (a' := ?_) (by rfl) ?_ ?_ ?_; rotate_left 2; (focus (go_simp; first | done | rfl)); (focus ((try simp only [Kr.PT]); first | done | rfl)))
  have hk := H.c
  simp only [Kr.Cells] at hk
  iterate 2 (refine Kr.seqQ (v := ?_) (a' := ?_) (by rfl) ?_ ?_ ?_; rotate_left 2; (focus (go_simp; first | done | rfl)); (focus ((try simp only [Kr.PT]); first | done | rfl)))
  refine Kr.seqR (by rfl) (fun K hK => ?_)
  go_simp
  clear hk
  obtain ⟨y9, hy⟩ : ∃ y, y8.alloc (.cells #[.slice pe ne ce, .slice pf nf cf] 24) = y := ⟨_, rfl⟩
  obtain ⟨by9, hb⟩ : ∃ b, y8.heap.size = b := ⟨_, rfl⟩
  rw [hy, hb]
  have HN : Nats y9 by9 0 [(pe, ne, ce), (pf, nf, cf)] := nats_mk hy hb
  have hg : Gr y8 y9 := hy ▸ (Gr.refl _).alloc _
  replace H := H.grow hg
  clear hg hy hb
  (refine Kr.outS hK (a' := ?_) ?_ ?_; rotate_left; (focus ((try simp only [Kr.PT]); first | done | rfl))); clear hK K
  refine Kr.seqR (by rfl) (fun K hK => ?_)
  go_simp
  go_at_call 19
  refine (few_no HN (by simp) HG.out).mono ?_
  rintro e y10 ⟨rfl, hg⟩
  replace H := H.grow hg
  clear hg
  clear HN
  (refine Kr.outS hK (a' := ?_) ?_ ?_; rotate_left; (focus ((try simp only [Kr.PT]); first | done | rfl))); clear hK K
  iterate 3 (refine Kr.seqQ (v := ?_) (a' := ?_) (by rfl) ?_ ?_ ?_; rotate_left 2; (focus (go_simp; first | done | rfl)); (focus ((try simp only [Kr.PT]); first | done | rfl)))
  (refine Kr.seqSkipQ (a' := ?_) (by rfl) ?_ ?_; rotate_left; (focus ((try simp only [Kr.PT]); first | done | rfl)))
  (refine Kr.seqSkipQ (a' := ?_) (by rfl) ?_ ?_; rotate_left; (focus ((try simp only [Kr.PT]); first | done | rfl)))
  (refine Kr.seqSkipQ (a' := ?_) (by rfl) ?_ ?_; rotate_left; (focus ((try simp only [Kr.PT]); first | done | rfl)))
  (refine Kr.seqSkipQ (a' := ?_) (by rfl) ?_ ?_; rotate_left; (focus ((try simp only [Kr.PT]); first | done | rfl)))
  (refine Kr.seqSkipQ (a' := ?_) (by rfl) ?_ ?_; rotate_left; (focus ((try simp only [Kr.PT]); first | done | rfl)))
  (refine Kr.seqSkipQ (a' := ?_) (by rfl) ?_ ?_; rotate_left; (focus ((try simp only [Kr.PT]); first | done | rfl)))
  iterate 2 (refine Kr.seqQ (v := ?_) (a' := ?_) (by rfl) ?_ ?_ ?_; rotate_left 2; (focus (go_simp; first | done | rfl)); (focus ((try simp only [Kr.PT]); first | done | rfl)))
  (refine Kr.seqSkipQ (a' := ?_) (by rfl) ?_ ?_; rotate_left; (focus ((try simp only [Kr.PT]); first | done | rfl)))
  (refine Kr.seqSkipQ (a' := ?_) (by rfl) ?_ ?_; rotate_left; (focus ((try simp only [Kr.PT]); first | done | rfl)))
  (refine Kr.seqSkipQ (a' := ?_) (by rfl) ?_ ?_; rotate_left; (focus ((try simp only [Kr.PT]); first | done | rfl)))
  iterate 2 (refine Kr.seqQ (v := ?_) (a' := ?_) (by rfl) ?_ ?_ ?_; rotate_left 2; (focus (go_simp; first | done | rfl)); (focus ((try simp only [Kr.PT]); first | done | rfl)))
  (refine Kr.seqSkipQ (a' := ?_) (by rfl) ?_ ?_; rotate_left; (focus ((try simp only [Kr.PT]); first | done | rfl)))
  (refine Kr.seqSkipQ (a' := ?_) (by rfl) ?_ ?_; rotate_left; (focus ((try simp only [Kr.PT]); first | done | rfl)))
  (refine Kr.seqSkipQ (a' := ?_) (by rfl) ?_ ?_; rotate_left; (focus ((try simp only [Kr.PT]); first | done | rfl)))
  (refine Kr.seqQ (v := ?_) (a' := ?_) (by rfl) ?_ ?_ ?_; rotate_left 2; (focus (go_simp; first | done | rfl)); (focus ((try simp only [Kr.PT]); first | done | rfl)))
  refine Kr.seqDoneW ?_
  go_upto_region 2 with fail
  refine Kr.seqStartW ?_
  refine Kr.seqR (by rfl) (fun K hK => ?_)
  go_simp
  go_at_call 18
  refine (awake3 _).mono ?_
  rintro e y11 ⟨rfl, hg⟩
  replace H := H.grow hg
  clear hg
  (refine Kr.outS hK (a' := ?_) ?_ ?_; rotate_left; (focus ((try simp only [Kr.PT]); first | done | rfl))); clear hK K
  (refine Kr.seqQ (v := ?_) (a' := ?_) (by rfl) ?_ ?_ ?_; rotate_left 2; (focus (go_simp; first | done | rfl)); (focus ((try simp only [Kr.PT]); first | done | rfl)))
  refine Kr.seqDoneW ?_
  go_wp2
  go_ret
  exact ⟨rfl, H.g⟩
set_option linter.unusedSimpArgs false in
set_option maxRecDepth 100000 in
set_option maxHeartbeats 16000000 in
theorem pows_err {pa : Option Addr} {na ca : Nat} {pb : Option Addr} {nb cb : Nat} {pm : Option Addr} {nm cm : Nat} {pe : Option Addr} {ne ce : Nat} {pf : Option Addr} {nf cf : Nat} {k : Nat} {w : World} (hs : ∀ x ∈ [(pa, na, ca), (pb, nb, cb), (pm, nm, cm)], x.2.1 ≤ 8) (hs2 : ∀ x ∈ [(pe, ne, ce), (pf, nf, cf)], x.2.1 ≤ 2) (hf : Fst w (.agg #[.slice pm nm cm]) [(pa, na, ca), (pb, nb, cb)] k) (hk : k = 1 ∨ k = 2) :
    Calls Try.prog 8 #[.agg #[.slice pa na ca], .agg #[.slice pb nb cb], .agg #[.slice pm nm cm], .agg #[.slice pe ne ce], .agg #[.slice pf nf cf]] w fun e w' => e = .returned (.bool true) ∧ Gr w w' := by
  have HS := Lib.hid hs
  have HS2 := Lib.hid hs2
  have HF := Lib.hid hf
  clear hs hs2 hf
  have HK := Lib.hid hk
  have nk : ¬ (k : Int) = 0 := by rcases hk with rfl | rfl <;> decide
  have ek : ((k : Int) == 0) = false := by rcases hk with rfl | rfl <;> rfl
  clear hk
  have H := Sta.start w
  go_enter Try.func8, Try.ntmps8
  go_upto_region 0 with fail
  refine Kr.seqStartW ?_
  refine Kr.seqR (by rfl) (fun K hK => ?_)
  go_simp
  obtain ⟨y1, hy⟩ : ∃ y, w.alloc (.cells #[.slice pa na ca] 24) = y := ⟨_, rfl⟩
  obtain ⟨ba, hb⟩ : ∃ b, w.heap.size = b := ⟨_, rfl⟩
  rw [hy, hb]
  replace H := H.alloc hy hb rfl
  clear hy hb
  (refine Kr.outS hK (a' := ?_) ?_ ?_; rotate_left; (focus ((try simp only [Kr.PT]); first | done | rfl))); clear hK K
  refine Kr.seqR (by rfl) (fun K hK => ?_)
  go_simp
  obtain ⟨y2, hy⟩ : ∃ y, y1.alloc (.cells #[.slice pb nb cb] 24) = y := ⟨_, rfl⟩
  obtain ⟨bb, hb⟩ : ∃ b, y1.heap.size = b := ⟨_, rfl⟩
  rw [hy, hb]
  replace H := H.alloc hy hb rfl
  clear hy hb
  (refine Kr.outS hK (a' := ?_) ?_ ?_; rotate_left; (focus ((try simp only [Kr.PT]); first | done | rfl))); clear hK K
  refine Kr.seqR (by rfl) (fun K hK => ?_)
  go_simp
  obtain ⟨y3, hy⟩ : ∃ y, y2.alloc (.cells #[.slice pm nm cm] 24) = y := ⟨_, rfl⟩
  obtain ⟨bm, hb⟩ : ∃ b, y2.heap.size = b := ⟨_, rfl⟩
  rw [hy, hb]
  replace H := H.alloc hy hb rfl
  clear hy hb
  (refine Kr.outS hK (a' := ?_) ?_ ?_; rotate_left; (focus ((try simp only [Kr.PT]); first | done | rfl))); clear hK K
  refine Kr.seqR (by rfl) (fun K hK => ?_)
  go_simp
  obtain ⟨y4, hy⟩ : ∃ y, y3.alloc (.cells #[.slice pe ne ce] 24) = y := ⟨_, rfl⟩
  obtain ⟨be, hb⟩ : ∃ b, y3.heap.size = b := ⟨_, rfl⟩
  rw [hy, hb]
  replace H := H.alloc hy hb rfl
  clear hy hb
  (refine Kr.outS hK (a' := ?_) ?_ ?_; rotate_left; (focus ((try simp only [Kr.PT]); first | done | rfl))); clear hK K
  refine Kr.seqR (by rfl) (fun K hK => ?_)
  go_simp
  obtain ⟨y5, hy⟩ : ∃ y, y4.alloc (.cells #[.slice pf nf cf] 24) = y := ⟨_, rfl⟩
  obtain ⟨bf, hb⟩ : ∃ b, y4.heap.size = b := ⟨_, rfl⟩
  rw [hy, hb]
  replace H := H.alloc hy hb rfl
  clear hy hb
  (refine Kr.outS hK (a' := ?_) ?_ ?_; rotate_left; (focus ((try simp only [Kr.PT]); first | done | rfl))); clear hK K
  (refine Kr.seqQ (v := ?_) (a' := ?_) (by rfl) ?_ ?_ ?_; rotate_left 2; (focus (go_simp; first | done | rfl)); (focus ((try simp only [Kr.PT]); first | done | rfl)))
  refine Kr.seqDoneW ?_
  go_upto_region 1 with fail
  refine Kr.seqStartW ?_
  refine Kr.seqR (by rfl) (fun K hK => ?_)
  go_simp
  go_at_call 18
  refine (awake3 _).mono ?_
  rintro e y6 ⟨rfl, hg⟩
  replace H := H.grow hg
  clear hg
  (refine Kr.outS hK (a' := ?_) ?_ ?_; rotate_left; (focus ((try simp only [Kr.PT]); first | done | rfl))); clear hK K
  iterate 2 (refine Kr.seqQ (v := ?_) (a' := ?_) (by rfl) ?_ ?_ ?_; rotate_left 2; (focus (go_simp; first | done | rfl)); (focus ((try simp only [Kr.PT]); first | done | rfl)))
  have hk := H.c
  simp only [Kr.Cells] at hk
  iterate 3 (refine Kr.seqQ (v := ?_) (a' := ?_) (by rfl) ?_ ?_ ?_; rotate_left 2; (focus (go_simp; first | done | rfl)); (focus ((try simp only [Kr.PT]); first | done | rfl)))
  refine Kr.seqR (by rfl) (fun K hK => ?_)
  go_simp
  clear hk
  obtain ⟨y7, hy⟩ : ∃ y, y6.alloc (.cells #[.slice pa na ca, .slice pb nb cb, .slice pm nm cm] 24) = y := ⟨_, rfl⟩
  obtain ⟨by7, hb⟩ : ∃ b, y6.heap.size = b := ⟨_, rfl⟩
  rw [hy, hb]
  have HN : Nats y7 by7 0 [(pa, na, ca), (pb, nb, cb), (pm, nm, cm)] := nats_mk hy hb
  have hg : Gr y6 y7 := hy ▸ (Gr.refl _).alloc _
  replace H := H.grow hg
  clear hg hy hb
  (refine Kr.outS hK (a' := ?_) ?_ ?_; rotate_left; (focus ((try simp only [Kr.PT]); first | done | rfl))); clear hK K
  refine Kr.seqR (by rfl) (fun K hK => ?_)
  go_simp
  go_at_call 19
  refine (few_ok HN (by simp) HS.out).mono ?_
  rintro e y8 ⟨rfl, hg⟩
  replace H := H.grow hg
  clear hg
  clear HN
  (refine Kr.outS hK (a' := ?_) ?_ ?_; rotate_left; (focus ((try simp only [Kr.PT]); first | done | rfl))); clear hK K
  iterate 3 (refine Kr.seqQ (v := ?_) (a' := ?_) (by rfl) ?_ ?_ ?_; rotate_left 2; (focus (go_simp; first | done | rfl)); (focus ((try simp only [Kr.PT]); first | done | rfl)))
  have hk := H.c
  simp only [Kr.Cells] at hk
  iterate 2 (refine Kr.seqQ (v := ?_) (a' := ?_) (by rfl) ?_ ?_ ?_; rotate_left 2; (focus (go_simp; first | done | rfl)); (focus ((try simp only [Kr.PT]); first | done | rfl)))
  refine Kr.seqR (by rfl) (fun K hK => ?_)
  go_simp
  clear hk
  obtain ⟨y9, hy⟩ : ∃ y, y8.alloc (.cells #[.slice pe ne ce, .slice pf nf cf] 24) = y := ⟨_, rfl⟩
  obtain ⟨by9, hb⟩ : ∃ b, y8.heap.size = b := ⟨_, rfl⟩
  rw [hy, hb]
  have HN : Nats y9 by9 0 [(pe, ne, ce), (pf, nf, cf)] := nats_mk hy hb
  have hg : Gr y8 y9 := hy ▸ (Gr.refl _).alloc _
  replace H := H.grow hg
  clear hg hy hb
  (refine Kr.outS hK (a' := ?_) ?_ ?_; rotate_left; (focus ((try simp only [Kr.PT]); first | done | rfl))); clear hK K
  refine Kr.seqR (by rfl) (fun K hK => ?_)
  go_simp
  go_at_call 19
  refine (few_ok HN (by simp) HS2.out).mono ?_
  rintro e y10 ⟨rfl, hg⟩
  replace H := H.grow hg
  clear hg
  clear HN
  (refine Kr.outS hK (a' := ?_) ?_ ?_; rotate_left; (focus ((try simp only [Kr.PT]); first | done | rfl))); clear hK K
  iterate 3 (refine Kr.seqQ (v := ?_) (a' := ?_) (by rfl) ?_ ?_ ?_; rotate_left 2; (focus (go_simp; first | done | rfl)); (focus ((try simp only [Kr.PT]); first | done | rfl)))
  have hk := H.c
  simp only [Kr.Cells] at hk
  iterate 3 (refine Kr.seqQ (v := ?_) (a' := ?_) (by rfl) ?_ ?_ ?_; rotate_left 2; (focus (go_simp; first | done | rfl)); (focus ((try simp only [Kr.PT]); first | done | rfl)))
  refine Kr.seqR (by rfl) (fun K hK => ?_)
  go_simp
  clear hk
  obtain ⟨y11, hy⟩ : ∃ y, y10.alloc (.cells #[.slice pa na ca, .slice pb nb cb] 24) = y := ⟨_, rfl⟩
  obtain ⟨by11, hb⟩ : ∃ b, y10.heap.size = b := ⟨_, rfl⟩
  rw [hy, hb]
  have HN : Nats y11 by11 0 [(pa, na, ca), (pb, nb, cb)] := nats_mk hy hb
  have hg : Gr y10 y11 := hy ▸ (Gr.refl _).alloc _
  replace H := H.grow hg
  clear hg hy hb
  (refine Kr.outS hK (a' := ?_) ?_ ?_; rotate_left; (focus ((try simp only [Kr.PT]); first | done | rfl))); clear hK K
  refine Kr.seqR (by rfl) (fun K hK => ?_)
  go_simp
  go_at_call 22
  refine (HF.out _ _ H.g HN).mono ?_
  rintro e y12 ⟨rfl, hg⟩
  replace H := H.grow hg
  clear hg
  clear HN
  (refine Kr.outS hK (a' := ?_) ?_ ?_; rotate_left; (focus ((try simp only [Kr.PT]); first | done | rfl))); clear hK K
  (refine Kr.seqQ (v := .bool true) (a' := ?_) (by rfl) ?_ ?_ ?_; rotate_left 1; (focus (exact Kr.valOf rfl (Kr.neqE nk))); (focus ((try simp only [Kr.PT]); first | done | rfl)))
  iterate 2 (refine Kr.seqQ (v := ?_) (a' := ?_) (by rfl) ?_ ?_ ?_; rotate_left 2; (focus (go_simp; first | done | rfl)); (focus ((try simp only [Kr.PT]); first | done | rfl)))
  (refine Kr.seqSkipQ (a' := ?_) (by rfl) ?_ ?_; rotate_left; (focus ((try simp only [Kr.PT]); first | done | rfl)))
  (refine Kr.seqSkipQ (a' := ?_) (by rfl) ?_ ?_; rotate_left; (focus ((try simp only [Kr.PT]); first | done | rfl)))
  (refine Kr.seqSkipQ (a' := ?_) (by rfl) ?_ ?_; rotate_left; (focus ((try simp only [Kr.PT]); first | done | rfl)))
  iterate 2 (refine Kr.seqQ (v := ?_) (a' := ?_) (by rfl) ?_ ?_ ?_; rotate_left 2; (focus (go_simp; first | done | rfl)); (focus ((try simp only [Kr.PT]); first | done | rfl)))
  (refine Kr.seqSkipQ (a' := ?_) (by rfl) ?_ ?_; rotate_left; (focus ((try simp only [Kr.PT]); first | done | rfl)))
  (refine Kr.seqSkipQ (a' := ?_) (by rfl) ?_ ?_; rotate_left; (focus ((try simp only [Kr.PT]); first | done | rfl)))
  (refine Kr.seqSkipQ (a' := ?_) (by rfl) ?_ ?_; rotate_left; (focus ((try simp only [Kr.PT]); first | done | rfl)))
  (refine Kr.seqQ (v := ?_) (a' := ?_) (by rfl) ?_ ?_ ?_; rotate_left 2; (focus (go_simp; first | done | rfl)); (focus ((try simp only [Kr.PT]); first | done | rfl)))
  refine Kr.seqDoneW ?_
  go_upto_region 2 with fail
  refine Kr.seqStartW ?_
  refine Kr.seqR (by rfl) (fun K hK => ?_)
  go_simp
  go_at_call 18
  refine (awake3 _).mono ?_
  rintro e y13 ⟨rfl, hg⟩
  replace H := H.grow hg
  clear hg
  (refine Kr.outS hK (a' := ?_) ?_ ?_; rotate_left; (focus ((try simp only [Kr.PT]); first | done | rfl))); clear hK K
  (refine Kr.seqQ (v := ?_) (a' := ?_) (by rfl) ?_ ?_ ?_; rotate_left 2; (focus (go_simp; first | done | rfl)); (focus ((try simp only [Kr.PT]); first | done | rfl)))
  refine Kr.seqDoneW ?_
  go_wp2
  go_ret
  exact ⟨rfl, H.g⟩
set_option linter.unusedSimpArgs false in
set_option maxRecDepth 100000 in
set_option maxHeartbeats 16000000 in
theorem pows_ve {pa : Option Addr} {na ca : Nat} {pb : Option Addr} {nb cb : Nat} {pm : Option Addr} {nm cm : Nat} {pe : Option Addr} {ne ce : Nat} {pf : Option Addr} {nf cf : Nat} {le lf : List Nat} {w : World} (hs : ∀ x ∈ [(pa, na, ca), (pb, nb, cb), (pm, nm, cm)], x.2.1 ≤ 8) (hs2 : ∀ x ∈ [(pe, ne, ce), (pf, nf, cf)], x.2.1 ≤ 2) (hf : Fst w (.agg #[.slice pm nm cm]) [(pa, na, ca), (pb, nb, cb)] 0) (he : Nw w pe ne ce le) (hff : Nw w pf nf cf lf) (hv : decide (valid le) = false) :
    Calls Try.prog 8 #[.agg #[.slice pa na ca], .agg #[.slice pb nb cb], .agg #[.slice pm nm cm], .agg #[.slice pe ne ce], .agg #[.slice pf nf cf]] w fun e w' => e = .returned (.bool true) ∧ Gr w w' := by
  have HS := Lib.hid hs
  have HS2 := Lib.hid hs2
  have HF := Lib.hid hf
  have HV := Lib.hid hv
  clear hs hs2 hf hv
  have H := Sta.start w
  replace H := H.add (keepWs _ _ _ _) he
  replace H := H.add (keepWs _ _ _ _) hff
  go_enter Try.func8, Try.ntmps8
  go_upto_region 0 with fail
  refine Kr.seqStartW ?_
  refine Kr.seqR (by rfl) (fun K hK => ?_)
  go_simp
  obtain ⟨y1, hy⟩ : ∃ y, w.alloc (.cells #[.slice pa na ca] 24) = y := ⟨_, rfl⟩
  obtain ⟨ba, hb⟩ : ∃ b, w.heap.size = b := ⟨_, rfl⟩
  rw [hy, hb]
  replace H := H.alloc hy hb rfl
  clear hy hb
  (refine Kr.outS hK (a' := ?_) ?_ ?_; rotate_left; (focus ((try simp only [Kr.PT]); first | done | rfl))); clear hK K
  refine Kr.seqR (by rfl) (fun K hK => ?_)
  go_simp
  obtain ⟨y2, hy⟩ : ∃ y, y1.alloc (.cells #[.slice pb nb cb] 24) = y := ⟨_, rfl⟩
  obtain ⟨bb, hb⟩ : ∃ b, y1.heap.size = b := ⟨_, rfl⟩
  rw [hy, hb]
  replace H := H.alloc hy hb rfl
  clear hy hb
  (refine Kr.outS hK (a' := ?_) ?_ ?_; rotate_left; (focus ((try simp only [Kr.PT]); first | done | rfl))); clear hK K
  refine Kr.seqR (by rfl) (fun K hK => ?_)
  go_simp
  obtain ⟨y3, hy⟩ : ∃ y, y2.alloc (.cells #[.slice pm nm cm] 24) = y := ⟨_, rfl⟩
  obtain ⟨bm, hb⟩ : ∃ b, y2.heap.size = b := ⟨_, rfl⟩
  rw [hy, hb]
  replace H := H.alloc hy hb rfl
  clear hy hb
  (refine Kr.outS hK (a' := ?_) ?_ ?_; rotate_left; (focus ((try simp only [Kr.PT]); first | done | rfl))); clear hK K
  refine Kr.seqR (by rfl) (fun K hK => ?_)
  go_simp
  obtain ⟨y4, hy⟩ : ∃ y, y3.alloc (.cells #[.slice pe ne ce] 24) = y := ⟨_, rfl⟩
  obtain ⟨be, hb⟩ : ∃ b, y3.heap.size = b := ⟨_, rfl⟩
  rw [hy, hb]
  replace H := H.alloc hy hb rfl
  clear hy hb
  (refine Kr.outS hK (a' := ?_) ?_ ?_; rotate_left; (focus ((try simp only [Kr.PT]); first | done | rfl))); clear hK K
  refine Kr.seqR (by rfl) (fun K hK => ?_)
  go_simp
  obtain ⟨y5, hy⟩ : ∃ y, y4.alloc (.cells #[.slice pf nf cf] 24) = y := ⟨_, rfl⟩
  obtain ⟨bf, hb⟩ : ∃ b, y4.heap.size = b := ⟨_, rfl⟩
  rw [hy, hb]
  replace H := H.alloc hy hb rfl
  clear hy hb
  (refine Kr.outS hK (a' := ?_) ?_ ?_; rotate_left; (focus ((try simp only [Kr.PT]); first | done | rfl))); clear hK K
  (refine Kr.seqQ (v := ?_) (a' := ?_) (by rfl) ?_ ?_ ?_; rotate_left 2; (focus (go_simp; first | done | rfl)); (focus ((try simp only [Kr.PT]); first | done | rfl)))
  refine Kr.seqDoneW ?_
  go_upto_region 1 with fail
  refine Kr.seqStartW ?_
  refine Kr.seqR (by rfl) (fun K hK => ?_)
  go_simp
  go_at_call 18
  refine (awake3 _).mono ?_
  rintro e y6 ⟨rfl, hg⟩
  replace H := H.grow hg
  clear hg
  (refine Kr.outS hK (a' := ?_) ?_ ?_; rotate_left; (focus ((try simp only [Kr.PT]); first | done | rfl))); clear hK K
  iterate 2 (refine Kr.seqQ (v := ?_) (a' := ?_) (by rfl) ?_ ?_ ?_; rotate_left 2; (focus (go_simp; first | done | rfl)); (focus ((try simp only [Kr.PT]); first | done | rfl)))
  have hk := H.c
  simp only [Kr.Cells] at hk
  iterate 3 (refine Kr.seqQ (v := ?_) (a' := ?_) (by rfl) ?_ ?_ ?_; rotate_left 2; (focus (go_simp; first | done | rfl)); (focus ((try simp only [Kr.PT]); first | done | rfl)))
  refine Kr.seqR (by rfl) (fun K hK => ?_)
  go_simp
  clear hk
  obtain ⟨y7, hy⟩ : ∃ y, y6.alloc (.cells #[.slice pa na ca, .slice pb nb cb, .slice pm nm cm] 24) = y := ⟨_, rfl⟩
  obtain ⟨by7, hb⟩ : ∃ b, y6.heap.size = b := ⟨_, rfl⟩
  rw [hy, hb]
  have HN : Nats y7 by7 0 [(pa, na, ca), (pb, nb, cb), (pm, nm, cm)] := nats_mk hy hb
  have hg : Gr y6 y7 := hy ▸ (Gr.refl _).alloc _
  replace H := H.grow hg
  clear hg hy hb
  (refine Kr.outS hK (a' := ?_) ?_ ?_; rotate_left; (focus ((try simp only [Kr.PT]); first | done | rfl))); clear hK K
  refine Kr.seqR (by rfl) (fun K hK => ?_)
  go_simp
  go_at_call 19
  refine (few_ok HN (by simp) HS.out).mono ?_
  rintro e y8 ⟨rfl, hg⟩
  replace H := H.grow hg
  clear hg
  clear HN
  (refine Kr.outS hK (a' := ?_) ?_ ?_; rotate_left; (focus ((try simp only [Kr.PT]); first | done | rfl))); clear hK K
  iterate 3 (refine Kr.seqQ (v := ?_) (a' := ?_) (by rfl) ?_ ?_ ?_; rotate_left 2; (focus (go_simp; first | done | rfl)); (focus ((try simp only [Kr.PT]); first | done | rfl)))
  have hk := H.c
  simp only [Kr.Cells] at hk
  iterate 2 (refine Kr.seqQ (v := ?_) (a' := ?_) (by rfl) ?_ ?_ ?_; rotate_left 2; (focus (go_simp; first | done | rfl)); (focus ((try simp only [Kr.PT]); first | done | rfl)))
  refine Kr.seqR (by rfl) (fun K hK => ?_)
  go_simp
  clear hk
  obtain ⟨y9, hy⟩ : ∃ y, y8.alloc (.cells #[.slice pe ne ce, .slice pf nf cf] 24) = y := ⟨_, rfl⟩
  obtain ⟨by9, hb⟩ : ∃ b, y8.heap.size = b := ⟨_, rfl⟩
  rw [hy, hb]
  have HN : Nats y9 by9 0 [(pe, ne, ce), (pf, nf, cf)] := nats_mk hy hb
  have hg : Gr y8 y9 := hy ▸ (Gr.refl _).alloc _
  replace H := H.grow hg
  clear hg hy hb
  (refine Kr.outS hK (a' := ?_) ?_ ?_; rotate_left; (focus ((try simp only [Kr.PT]); first | done | rfl))); clear hK K
  refine Kr.seqR (by rfl) (fun K hK => ?_)
  go_simp
  go_at_call 19
  refine (few_ok HN (by simp) HS2.out).mono ?_
  rintro e y10 ⟨rfl, hg⟩
  replace H := H.grow hg
  clear hg
  clear HN
  (refine Kr.outS hK (a' := ?_) ?_ ?_; rotate_left; (focus ((try simp only [Kr.PT]); first | done | rfl))); clear hK K
  iterate 3 (refine Kr.seqQ (v := ?_) (a' := ?_) (by rfl) ?_ ?_ ?_; rotate_left 2; (focus (go_simp; first | done | rfl)); (focus ((try simp only [Kr.PT]); first | done | rfl)))
  have hk := H.c
  simp only [Kr.Cells] at hk
  iterate 3 (refine Kr.seqQ (v := ?_) (a' := ?_) (by rfl) ?_ ?_ ?_; rotate_left 2; (focus (go_simp; first | done | rfl)); (focus ((try simp only [Kr.PT]); first | done | rfl)))
  refine Kr.seqR (by rfl) (fun K hK => ?_)
  go_simp
  clear hk
  obtain ⟨y11, hy⟩ : ∃ y, y10.alloc (.cells #[.slice pa na ca, .slice pb nb cb] 24) = y := ⟨_, rfl⟩
  obtain ⟨by11, hb⟩ : ∃ b, y10.heap.size = b := ⟨_, rfl⟩
  rw [hy, hb]
  have HN : Nats y11 by11 0 [(pa, na, ca), (pb, nb, cb)] := nats_mk hy hb
  have hg : Gr y10 y11 := hy ▸ (Gr.refl _).alloc _
  replace H := H.grow hg
  clear hg hy hb
  (refine Kr.outS hK (a' := ?_) ?_ ?_; rotate_left; (focus ((try simp only [Kr.PT]); first | done | rfl))); clear hK K
  refine Kr.seqR (by rfl) (fun K hK => ?_)
  go_simp
  go_at_call 22
  refine (HF.out _ _ H.g HN).mono ?_
  rintro e y12 ⟨rfl, hg⟩
  replace H := H.grow hg
  clear hg
  clear HN
  (refine Kr.outS hK (a' := ?_) ?_ ?_; rotate_left; (focus ((try simp only [Kr.PT]); first | done | rfl))); clear hK K
  iterate 3 (refine Kr.seqQ (v := ?_) (a' := ?_) (by rfl) ?_ ?_ ?_; rotate_left 2; (focus (go_simp; first | done | rfl)); (focus ((try simp only [Kr.PT]); first | done | rfl)))
  have hk := H.c
  simp only [Kr.Cells] at hk
  (refine Kr.seqQ (v := ?_) (a' := ?_) (by rfl) ?_ ?_ ?_; rotate_left 2; (focus (go_simp; first | done | rfl)); (focus ((try simp only [Kr.PT]); first | done | rfl)))
  refine Kr.seqR (by rfl) (fun K hK => ?_)
  go_simp
  go_at_call 29
  refine (valid3_any _ _ _ _ _ (H.ws 1 rfl)).mono ?_
  rintro e y13 ⟨rfl, hg⟩
  rw [HV.out]
  clear hk
  replace H := H.grow hg
  clear hg
  (refine Kr.outS hK (a' := ?_) ?_ ?_; rotate_left; (focus ((try simp only [Kr.PT]); first | done | rfl))); clear hK K
  iterate 3 (refine Kr.seqQ (v := ?_) (a' := ?_) (by rfl) ?_ ?_ ?_; rotate_left 2; (focus (go_simp; first | done | rfl)); (focus ((try simp only [Kr.PT]); first | done | rfl)))
  (refine Kr.seqSkipQ (a' := ?_) (by rfl) ?_ ?_; rotate_left; (focus ((try simp only [Kr.PT]); first | done | rfl)))
  (refine Kr.seqSkipQ (a' := ?_) (by rfl) ?_ ?_; rotate_left; (focus ((try simp only [Kr.PT]); first | done | rfl)))
  (refine Kr.seqSkipQ (a' := ?_) (by rfl) ?_ ?_; rotate_left; (focus ((try simp only [Kr.PT]); first | done | rfl)))
  (refine Kr.seqQ (v := ?_) (a' := ?_) (by rfl) ?_ ?_ ?_; rotate_left 2; (focus (go_simp; first | done | rfl)); (focus ((try simp only [Kr.PT]); first | done | rfl)))
  refine Kr.seqDoneW ?_
  go_upto_region 2 with fail
  refine Kr.seqStartW ?_
  refine Kr.seqR (by rfl) (fun K hK => ?_)
  go_simp
  go_at_call 18
  refine (awake3 _).mono ?_
  rintro e y14 ⟨rfl, hg⟩
  replace H := H.grow hg
  clear hg
  (refine Kr.outS hK (a' := ?_) ?_ ?_; rotate_left; (focus ((try simp only [Kr.PT]); first | done | rfl))); clear hK K
  (refine Kr.seqQ (v := ?_) (a' := ?_) (by rfl) ?_ ?_ ?_; rotate_left 2; (focus (go_simp; first | done | rfl)); (focus ((try simp only [Kr.PT]); first | done | rfl)))
  refine Kr.seqDoneW ?_
  go_wp2
  go_ret
  exact ⟨rfl, H.g⟩
set_option linter.unusedSimpArgs false in
set_option maxRecDepth 100000 in
set_option maxHeartbeats 16000000 in
theorem pows_vf {pa : Option Addr} {na ca : Nat} {pb : Option Addr} {nb cb : Nat} {pm : Option Addr} {nm cm : Nat} {pe : Option Addr} {ne ce : Nat} {pf : Option Addr} {nf cf : Nat} {le lf : List Nat} {w : World} (hs : ∀ x ∈ [(pa, na, ca), (pb, nb, cb), (pm, nm, cm)], x.2.1 ≤ 8) (hs2 : ∀ x ∈ [(pe, ne, ce), (pf, nf, cf)], x.2.1 ≤ 2) (hf : Fst w (.agg #[.slice pm nm cm]) [(pa, na, ca), (pb, nb, cb)] 0) (he : Nw w pe ne ce le) (hff : Nw w pf nf cf lf) (ve : decide (valid le) = true) (hv : decide (valid lf) = false) :
    Calls Try.prog 8 #[.agg #[.slice pa na ca], .agg #[.slice pb nb cb], .agg #[.slice pm nm cm], .agg #[.slice pe ne ce], .agg #[.slice pf nf cf]] w fun e w' => e = .returned (.bool true) ∧ Gr w w' := by
  have HS := Lib.hid hs
  have HS2 := Lib.hid hs2
  have HF := Lib.hid hf
  have HV := Lib.hid hv
  clear hs hs2 hf hv
  have VE := Lib.hid ve
  clear ve
  have H := Sta.start w
  replace H := H.add (keepWs _ _ _ _) he
  replace H := H.add (keepWs _ _ _ _) hff
  go_enter Try.func8, Try.ntmps8
  go_upto_region 0 with fail
  refine Kr.seqStartW ?_
  refine Kr.seqR (by rfl) (fun K hK => ?_)
  go_simp
  obtain ⟨y1, hy⟩ : ∃ y, w.alloc (.cells #[.slice pa na ca] 24) = y := ⟨_, rfl⟩
  obtain ⟨ba, hb⟩ : ∃ b, w.heap.size = b := ⟨_, rfl⟩
  rw [hy, hb]
  replace H := H.alloc hy hb rfl
  clear hy hb
  (refine Kr.outS hK (a' := ?_) ?_ ?_; rotate_left; (focus ((try simp only [Kr.PT]); first | done | rfl))); clear hK K
  refine Kr.seqR (by rfl) (fun K hK => ?_)
  go_simp
  obtain ⟨y2, hy⟩ : ∃ y, y1.alloc (.cells #[.slice pb nb cb] 24) = y := ⟨_, rfl⟩
  obtain ⟨bb, hb⟩ : ∃ b, y1.heap.size = b := ⟨_, rfl⟩
  rw [hy, hb]
  replace H := H.alloc hy hb rfl
  clear hy hb
  (refine Kr.outS hK (a' := ?_) ?_ ?_; rotate_left; (focus ((try simp only [Kr.PT]); first | done | rfl))); clear hK K
  refine Kr.seqR (by rfl) (fun K hK => ?_)
  go_simp
  obtain ⟨y3, hy⟩ : ∃ y, y2.alloc (.cells #[.slice pm nm cm] 24) = y := ⟨_, rfl⟩
  obtain ⟨bm, hb⟩ : ∃ b, y2.heap.size = b := ⟨_, rfl⟩
  rw [hy, hb]
  replace H := H.alloc hy hb rfl
  clear hy hb
  (refine Kr.outS hK (a' := ?_) ?_ ?_; rotate_left; (focus ((try simp only [Kr.PT]); first | done | rfl))); clear hK K
  refine Kr.seqR (by rfl) (fun K hK => ?_)
  go_simp
  obtain ⟨y4, hy⟩ : ∃ y, y3.alloc (.cells #[.slice pe ne ce] 24) = y := ⟨_, rfl⟩
  obtain ⟨be, hb⟩ : ∃ b, y3.heap.size = b := ⟨_, rfl⟩
  rw [hy, hb]
  replace H := H.alloc hy hb rfl
  clear hy hb
  (refine Kr.outS hK (a' := ?_) ?_ ?_; rotate_left; (focus ((try simp only [Kr.PT]); first | done | rfl))); clear hK K
  refine Kr.seqR (by rfl) (fun K hK => ?_)
  go_simp
  obtain ⟨y5, hy⟩ : ∃ y, y4.alloc (.cells #[.slice pf nf cf] 24) = y := ⟨_, rfl⟩
  obtain ⟨bf, hb⟩ : ∃ b, y4.heap.size = b := ⟨_, rfl⟩
  rw [hy, hb]
  replace H := H.alloc hy hb rfl
  clear hy hb
  (refine Kr.outS hK (a' := ?_) ?_ ?_; rotate_left; (focus ((try simp only [Kr.PT]); first | done | rfl))); clear hK K
  (refine Kr.seqQ (v := ?_) (a' := ?_) (by rfl) ?_ ?_ ?_; rotate_left 2; (focus (go_simp; first | done | rfl)); (focus ((try simp only [Kr.PT]); first | done | rfl)))
  refine Kr.seqDoneW ?_
  go_upto_region 1 with fail
  refine Kr.seqStartW ?_
  refine Kr.seqR (by rfl) (fun K hK => ?_)
  go_simp
  go_at_call 18
  refine (awake3 _).mono ?_
  rintro e y6 ⟨rfl, hg⟩
  replace H := H.grow hg
  clear hg
  (refine Kr.outS hK (a' := ?_) ?_ ?_; rotate_left; (focus ((try simp only [Kr.PT]); first | done | rfl))); clear hK K
  iterate 2 (refine Kr.seqQ (v := ?_) (a' := ?_) (by rfl) ?_ ?_ ?_; rotate_left 2; (focus (go_simp; first | done | rfl)); (focus ((try simp only [Kr.PT]); first | done | rfl)))
  have hk := H.c
  simp only [Kr.Cells] at hk
  iterate 3 (refine Kr.seqQ (v := ?_) (a' := ?_) (by rfl) ?_ ?_ ?_; rotate_left 2; (focus (go_simp; first | done | rfl)); (focus ((try simp only [Kr.PT]); first | done | rfl)))
  refine Kr.seqR (by rfl) (fun K hK => ?_)
  go_simp
  clear hk
  obtain ⟨y7, hy⟩ : ∃ y, y6.alloc (.cells #[.slice pa na ca, .slice pb nb cb, .slice pm nm cm] 24) = y := ⟨_, rfl⟩
  obtain ⟨by7, hb⟩ : ∃ b, y6.heap.size = b := ⟨_, rfl⟩
  rw [hy, hb]
  have HN : Nats y7 by7 0 [(pa, na, ca), (pb, nb, cb), (pm, nm, cm)] := nats_mk hy hb
  have hg : Gr y6 y7 := hy ▸ (Gr.refl _).alloc _
  replace H := H.grow hg
  clear hg hy hb
  (refine Kr.outS hK (a' := ?_) ?_ ?_; rotate_left; (focus ((try simp only [Kr.PT]); first | done | rfl))); clear hK K
  refine Kr.seqR (by rfl) (fun K hK => ?_)
  go_simp
  go_at_call 19
  refine (few_ok HN (by simp) HS.out).mono ?_
  rintro e y8 ⟨rfl, hg⟩
  replace H := H.grow hg
  clear hg
  clear HN
  (refine Kr.outS hK (a' := ?_) ?_ ?_; rotate_left; (focus ((try simp only [Kr.PT]); first | done | rfl))); clear hK K
  iterate 3 (refine Kr.seqQ (v := ?_) (a' := ?_) (by rfl) ?_ ?_ ?_; rotate_left 2; (focus (go_simp; first | done | rfl)); (focus ((try simp only [Kr.PT]); first | done | rfl)))
  have hk := H.c
  simp only [Kr.Cells] at hk
  iterate 2 (refine Kr.seqQ (v := ?_) (a' := ?_) (by rfl) ?_ ?_ ?_; rotate_left 2; (focus (go_simp; first | done | rfl)); (focus ((try simp only [Kr.PT]); first | done | rfl)))
  refine Kr.seqR (by rfl) (fun K hK => ?_)
  go_simp
  clear hk
  obtain ⟨y9, hy⟩ : ∃ y, y8.alloc (.cells #[.slice pe ne ce, .slice pf nf cf] 24) = y := ⟨_, rfl⟩
  obtain ⟨by9, hb⟩ : ∃ b, y8.heap.size = b := ⟨_, rfl⟩
  rw [hy, hb]
  have HN : Nats y9 by9 0 [(pe, ne, ce), (pf, nf, cf)] := nats_mk hy hb
  have hg : Gr y8 y9 := hy ▸ (Gr.refl _).alloc _
  replace H := H.grow hg
  clear hg hy hb
  (refine Kr.outS hK (a' := ?_) ?_ ?_; rotate_left; (focus ((try simp only [Kr.PT]); first | done | rfl))); clear hK K
  refine Kr.seqR (by rfl) (fun K hK => ?_)
  go_simp
  go_at_call 19
  refine (few_ok HN (by simp) HS2.out).mono ?_
  rintro e y10 ⟨rfl, hg⟩
  replace H := H.grow hg
  clear hg
  clear HN
  (refine Kr.outS hK (a' := ?_) ?_ ?_; rotate_left; (focus ((try simp only [Kr.PT]); first | done | rfl))); clear hK K
  iterate 3 (refine Kr.seqQ (v := ?_) (a' := ?_) (by rfl) ?_ ?_ ?_; rotate_left 2; (focus (go_simp; first | done | rfl)); (focus ((try simp only [Kr.PT]); first | done | rfl)))
  have hk := H.c
  simp only [Kr.Cells] at hk
  iterate 3 (refine Kr.seqQ (v := ?_) (a' := ?_) (by rfl) ?_ ?_ ?_; rotate_left 2; (focus (go_simp; first | done | rfl)); (focus ((try simp only [Kr.PT]); first | done | rfl)))
  refine Kr.seqR (by rfl) (fun K hK => ?_)
  go_simp
  clear hk
  obtain ⟨y11, hy⟩ : ∃ y, y10.alloc (.cells #[.slice pa na ca, .slice pb nb cb] 24) = y := ⟨_, rfl⟩
  obtain ⟨by11, hb⟩ : ∃ b, y10.heap.size = b := ⟨_, rfl⟩
  rw [hy, hb]
  have HN : Nats y11 by11 0 [(pa, na, ca), (pb, nb, cb)] := nats_mk hy hb
  have hg : Gr y10 y11 := hy ▸ (Gr.refl _).alloc _
  replace H := H.grow hg
  clear hg hy hb
  (refine Kr.outS hK (a' := ?_) ?_ ?_; rotate_left; (focus ((try simp only [Kr.PT]); first | done | rfl))); clear hK K
  refine Kr.seqR (by rfl) (fun K hK => ?_)
  go_simp
  go_at_call 22
  refine (HF.out _ _ H.g HN).mono ?_
  rintro e y12 ⟨rfl, hg⟩
  replace H := H.grow hg
  clear hg
  clear HN
  (refine Kr.outS hK (a' := ?_) ?_ ?_; rotate_left; (focus ((try simp only [Kr.PT]); first | done | rfl))); clear hK K
  iterate 3 (refine Kr.seqQ (v := ?_) (a' := ?_) (by rfl) ?_ ?_ ?_; rotate_left 2; (focus (go_simp; first | done | rfl)); (focus ((try simp only [Kr.PT]); first | done | rfl)))
  have hk := H.c
  simp only [Kr.Cells] at hk
  (refine Kr.seqQ (v := ?_) (a' := ?_) (by rfl) ?_ ?_ ?_; rotate_left 2; (focus (go_simp; first | done | rfl)); (focus ((try simp only [Kr.PT]); first | done | rfl)))
  refine Kr.seqR (by rfl) (fun K hK => ?_)
  go_simp
  go_at_call 29
  refine (valid3_any _ _ _ _ _ (H.ws 1 rfl)).mono ?_
  rintro e y13 ⟨rfl, hg⟩
  rw [VE.out]
  clear hk
  replace H := H.grow hg
  clear hg
  (refine Kr.outS hK (a' := ?_) ?_ ?_; rotate_left; (focus ((try simp only [Kr.PT]); first | done | rfl))); clear hK K
  iterate 3 (refine Kr.seqQ (v := ?_) (a' := ?_) (by rfl) ?_ ?_ ?_; rotate_left 2; (focus (go_simp; first | done | rfl)); (focus ((try simp only [Kr.PT]); first | done | rfl)))
  have hk := H.c
  simp only [Kr.Cells] at hk
  (refine Kr.seqQ (v := ?_) (a' := ?_) (by rfl) ?_ ?_ ?_; rotate_left 2; (focus (go_simp; first | done | rfl)); (focus ((try simp only [Kr.PT]); first | done | rfl)))
  refine Kr.seqR (by rfl) (fun K hK => ?_)
  go_simp
  go_at_call 29
  refine (valid3_any _ _ _ _ _ (H.ws 0 rfl)).mono ?_
  rintro e y14 ⟨rfl, hg⟩
  rw [HV.out]
  clear hk
  replace H := H.grow hg
  clear hg
  (refine Kr.outS hK (a' := ?_) ?_ ?_; rotate_left; (focus ((try simp only [Kr.PT]); first | done | rfl))); clear hK K
  iterate 2 (refine Kr.seqQ (v := ?_) (a' := ?_) (by rfl) ?_ ?_ ?_; rotate_left 2; (focus (go_simp; first | done | rfl)); (focus ((try simp only [Kr.PT]); first | done | rfl)))
  refine Kr.seqDoneW ?_
  go_upto_region 2 with fail
  refine Kr.seqStartW ?_
  refine Kr.seqR (by rfl) (fun K hK => ?_)
  go_simp
  go_at_call 18
  refine (awake3 _).mono ?_
  rintro e y15 ⟨rfl, hg⟩
  replace H := H.grow hg
  clear hg
  (refine Kr.outS hK (a' := ?_) ?_ ?_; rotate_left; (focus ((try simp only [Kr.PT]); first | done | rfl))); clear hK K
  (refine Kr.seqQ (v := ?_) (a' := ?_) (by rfl) ?_ ?_ ?_; rotate_left 2; (focus (go_simp; first | done | rfl)); (focus ((try simp only [Kr.PT]); first | done | rfl)))
  refine Kr.seqDoneW ?_
  go_wp2
  go_ret
  exact ⟨rfl, H.g⟩
set_option linter.unusedSimpArgs false in
set_option maxRecDepth 100000 in
set_option maxHeartbeats 16000000 in
theorem pows_ok {pa : Option Addr} {na ca : Nat} {pb : Option Addr} {nb cb : Nat} {pm : Option Addr} {nm cm : Nat} {pe : Option Addr} {ne ce : Nat} {pf : Option Addr} {nf cf : Nat} {x y m u v : Nat} {w : World} (hs : ∀ x ∈ [(pa, na, ca), (pb, nb, cb), (pm, nm, cm)], x.2.1 ≤ 8) (hs2 : ∀ x ∈ [(pe, ne, ce), (pf, nf, cf)], x.2.1 ≤ 2) (hf : Fst w (.agg #[.slice pm nm cm]) [(pa, na, ca), (pb, nb, cb)] 0) (ha : Nw w pa na ca (digs x)) (hb : Nw w pb nb cb (digs y)) (hm : Nw w pm nm cm (digs m)) (he : Nw w pe ne ce (digs u)) (hff : Nw w pf nf cf (digs v)) (hx : x < m) (hy : y < m) (vm : m < pw 32) :
    Calls Try.prog 8 #[.agg #[.slice pa na ca], .agg #[.slice pb nb cb], .agg #[.slice pm nm cm], .agg #[.slice pe ne ce], .agg #[.slice pf nf cf]] w fun e w' => e = .returned (.bool true) ∧ Gr w w' := by
  have HS := Lib.hid hs
  have HS2 := Lib.hid hs2
  have HF := Lib.hid hf
  have HX := Lib.hid hx
  have HY := Lib.hid hy
  have VM := Lib.hid vm
  clear hs hs2 hf hx hy vm
  have M0 : Hid (0 < m) := Lib.hid (Nat.lt_of_le_of_lt (Nat.zero_le _) HX.out)
  have hu2 : u < pw 2 := (digs_length_le u 2).1 (by rw [he.len]; exact HS2.out (pe, ne, ce) (by simp))
  have hv2 : v < pw 2 := (digs_length_le v 2).1 (by rw [hff.len]; exact HS2.out (pf, nf, cf) (by simp))
  have hne : ne ≤ 1000 := Nat.le_trans (HS2.out (pe, ne, ce) (by simp)) (by decide)
  have hnf : nf ≤ 1000 := Nat.le_trans (HS2.out (pf, nf, cf) (by simp)) (by decide)
  have HU : Hid (u < pw 64) := Lib.hid (Nat.lt_of_lt_of_le hu2 (pw_mono (by decide))); have HV : Hid (v < pw 64) := Lib.hid (Nat.lt_of_lt_of_le hv2 (pw_mono (by decide))); have HUV : Hid (u + v < pw 64) := Lib.hid (by have h1 : pw 2 = 18446744073709551616 := rfl; have h2 : pw 3 ≤ pw 64 := pw_mono (by decide); have h3 : pw 3 = 79228162514264337593543950336 := rfl; omega)
  have HUM : Hid (u * v < pw 64) := Lib.hid (Nat.lt_of_lt_of_le (Nat.lt_of_le_of_lt (Nat.mul_le_mul (Nat.le_of_lt hu2) (Nat.le_refl v)) (show pw 2 * v < pw 4 by rw [show (4 : Nat) = 2 + 2 from rfl, pw_add]; exact Nat.mul_lt_mul_of_pos_left hv2 (pw_pos 2))) (pw_mono (by decide)))
  have HU9 : Hid (u < pw 900) := Lib.hid (Nat.lt_of_lt_of_le hu2 (pw_mono (by decide))); have HV9 : Hid (v < pw 1000) := Lib.hid (Nat.lt_of_lt_of_le hv2 (pw_mono (by decide))); have HM9 : Hid (u * v < pw 900) := Lib.hid (Nat.lt_of_lt_of_le HUM.out (pw_mono (by decide))); have HNE := Lib.hid hne; have HNF := Lib.hid hnf
  clear hu2 hv2 hne hnf
  have H := Sta.start w
  replace H := H.num ha
  replace H := H.num hb
  replace H := H.num hm
  replace H := H.num he
  replace H := H.num hff
  go_enter Try.func8, Try.ntmps8
  go_upto_region 0 with fail
  refine Kr.seqStartW ?_
  refine Kr.seqR (by rfl) (fun K hK => ?_)
  go_simp
  obtain ⟨y1, hy⟩ : ∃ y, w.alloc (.cells #[.slice pa na ca] 24) = y := ⟨_, rfl⟩
  obtain ⟨ba, hb⟩ : ∃ b, w.heap.size = b := ⟨_, rfl⟩
  rw [hy, hb]
  replace H := H.alloc hy hb rfl
  clear hy hb
  (refine Kr.outS hK (a' := ?_) ?_ ?_; rotate_left; (focus ((try simp only [Kr.PT]); first | done | rfl))); clear hK K
  refine Kr.seqR (by rfl) (fun K hK => ?_)
  go_simp
  obtain ⟨y2, hy⟩ : ∃ y, y1.alloc (.cells #[.slice pb nb cb] 24) = y := ⟨_, rfl⟩
  obtain ⟨bb, hb⟩ : ∃ b, y1.heap.size = b := ⟨_, rfl⟩
  rw [hy, hb]
  replace H := H.alloc hy hb rfl
  clear hy hb
  (refine Kr.outS hK (a' := ?_) ?_ ?_; rotate_left; (focus ((try simp only [Kr.PT]); first | done | rfl))); clear hK K
  refine Kr.seqR (by rfl) (fun K hK => ?_)
  go_simp
  obtain ⟨y3, hy⟩ : ∃ y, y2.alloc (.cells #[.slice pm nm cm] 24) = y := ⟨_, rfl⟩
  obtain ⟨bm, hb⟩ : ∃ b, y2.heap.size = b := ⟨_, rfl⟩
  rw [hy, hb]
  replace H := H.alloc hy hb rfl
  clear hy hb
  (refine Kr.outS hK (a' := ?_) ?_ ?_; rotate_left; (focus ((try simp only [Kr.PT]); first | done | rfl))); clear hK K
  refine Kr.seqR (by rfl) (fun K hK => ?_)
  go_simp
  obtain ⟨y4, hy⟩ : ∃ y, y3.alloc (.cells #[.slice pe ne ce] 24) = y := ⟨_, rfl⟩
  obtain ⟨be, hb⟩ : ∃ b, y3.heap.size = b := ⟨_, rfl⟩
  rw [hy, hb]
  replace H := H.alloc hy hb rfl
  clear hy hb
  (refine Kr.outS hK (a' := ?_) ?_ ?_; rotate_left; (focus ((try simp only [Kr.PT]); first | done | rfl))); clear hK K
  refine Kr.seqR (by rfl) (fun K hK => ?_)
  go_simp
  obtain ⟨y5, hy⟩ : ∃ y, y4.alloc (.cells #[.slice pf nf cf] 24) = y := ⟨_, rfl⟩
  obtain ⟨bf, hb⟩ : ∃ b, y4.heap.size = b := ⟨_, rfl⟩
  rw [hy, hb]
  replace H := H.alloc hy hb rfl
  clear hy hb
  (refine Kr.outS hK (a' := ?_) ?_ ?_; rotate_left; (focus ((try simp only [Kr.PT]); first | done | rfl))); clear hK K
  (refine Kr.seqQ (v := ?_) (a' := ?_) (by rfl) ?_ ?_ ?_; rotate_left 2; (focus (go_simp; first | done | rfl)); (focus ((try simp only [Kr.PT]); first | done | rfl)))
  refine Kr.seqDoneW ?_
  go_upto_region 1 with fail
  refine Kr.seqStartW ?_
  refine Kr.seqR (by rfl) (fun K hK => ?_)
  go_simp
  go_at_call 18
  refine (awake3 _).mono ?_
  rintro e y6 ⟨rfl, hg⟩
  replace H := H.grow hg
  clear hg
  (refine Kr.outS hK (a' := ?_) ?_ ?_; rotate_left; (focus ((try simp only [Kr.PT]); first | done | rfl))); clear hK K
  iterate 2 (refine Kr.seqQ (v := ?_) (a' := ?_) (by rfl) ?_ ?_ ?_; rotate_left 2; (focus (go_simp; first | done | rfl)); (focus ((try simp only [Kr.PT]); first | done | rfl)))
  have hk := H.c
  simp only [Kr.Cells] at hk
  iterate 3 (refine Kr.seqQ (v := ?_) (a' := ?_) (by rfl) ?_ ?_ ?_; rotate_left 2; (focus (go_simp; first | done | rfl)); (focus ((try simp only [Kr.PT]); first | done | rfl)))
  refine Kr.seqR (by rfl) (fun K hK => ?_)
  go_simp
  clear hk
  obtain ⟨y7, hy⟩ : ∃ y, y6.alloc (.cells #[.slice pa na ca, .slice pb nb cb, .slice pm nm cm] 24) = y := ⟨_, rfl⟩
  obtain ⟨by7, hb⟩ : ∃ b, y6.heap.size = b := ⟨_, rfl⟩
  rw [hy, hb]
  have HN : Nats y7 by7 0 [(pa, na, ca), (pb, nb, cb), (pm, nm, cm)] := nats_mk hy hb
  have hg : Gr y6 y7 := hy ▸ (Gr.refl _).alloc _
  replace H := H.grow hg
  clear hg hy hb
  (refine Kr.outS hK (a' := ?_) ?_ ?_; rotate_left; (focus ((try simp only [Kr.PT]); first | done | rfl))); clear hK K
  refine Kr.seqR (by rfl) (fun K hK => ?_)
  go_simp
  go_at_call 19
  refine (few_ok HN (by simp) HS.out).mono ?_
  rintro e y8 ⟨rfl, hg⟩
  replace H := H.grow hg
  clear hg
  clear HN
  (refine Kr.outS hK (a' := ?_) ?_ ?_; rotate_left; (focus ((try simp only [Kr.PT]); first | done | rfl))); clear hK K
  iterate 3 (refine Kr.seqQ (v := ?_) (a' := ?_) (by rfl) ?_ ?_ ?_; rotate_left 2; (focus (go_simp; first | done | rfl)); (focus ((try simp only [Kr.PT]); first | done | rfl)))
  have hk := H.c
  simp only [Kr.Cells] at hk
  iterate 2 (refine Kr.seqQ (v := ?_) (a' := ?_) (by rfl) ?_ ?_ ?_; rotate_left 2; (focus (go_simp; first | done | rfl)); (focus ((try simp only [Kr.PT]); first | done | rfl)))
  refine Kr.seqR (by rfl) (fun K hK => ?_)
  go_simp
  clear hk
  obtain ⟨y9, hy⟩ : ∃ y, y8.alloc (.cells #[.slice pe ne ce, .slice pf nf cf] 24) = y := ⟨_, rfl⟩
  obtain ⟨by9, hb⟩ : ∃ b, y8.heap.size = b := ⟨_, rfl⟩
  rw [hy, hb]
  have HN : Nats y9 by9 0 [(pe, ne, ce), (pf, nf, cf)] := nats_mk hy hb
  have hg : Gr y8 y9 := hy ▸ (Gr.refl _).alloc _
  replace H := H.grow hg
  clear hg hy hb
  (refine Kr.outS hK (a' := ?_) ?_ ?_; rotate_left; (focus ((try simp only [Kr.PT]); first | done | rfl))); clear hK K
  refine Kr.seqR (by rfl) (fun K hK => ?_)
  go_simp
  go_at_call 19
  refine (few_ok HN (by simp) HS2.out).mono ?_
  rintro e y10 ⟨rfl, hg⟩
  replace H := H.grow hg
  clear hg
  clear HN
  (refine Kr.outS hK (a' := ?_) ?_ ?_; rotate_left; (focus ((try simp only [Kr.PT]); first | done | rfl))); clear hK K
  iterate 3 (refine Kr.seqQ (v := ?_) (a' := ?_) (by rfl) ?_ ?_ ?_; rotate_left 2; (focus (go_simp; first | done | rfl)); (focus ((try simp only [Kr.PT]); first | done | rfl)))
  have hk := H.c
  simp only [Kr.Cells] at hk
  iterate 3 (refine Kr.seqQ (v := ?_) (a' := ?_) (by rfl) ?_ ?_ ?_; rotate_left 2; (focus (go_simp; first | done | rfl)); (focus ((try simp only [Kr.PT]); first | done | rfl)))
  refine Kr.seqR (by rfl) (fun K hK => ?_)
  go_simp
  clear hk
  obtain ⟨y11, hy⟩ : ∃ y, y10.alloc (.cells #[.slice pa na ca, .slice pb nb cb] 24) = y := ⟨_, rfl⟩
  obtain ⟨by11, hb⟩ : ∃ b, y10.heap.size = b := ⟨_, rfl⟩
  rw [hy, hb]
  have HN : Nats y11 by11 0 [(pa, na, ca), (pb, nb, cb)] := nats_mk hy hb
  have hg : Gr y10 y11 := hy ▸ (Gr.refl _).alloc _
  replace H := H.grow hg
  clear hg hy hb
  (refine Kr.outS hK (a' := ?_) ?_ ?_; rotate_left; (focus ((try simp only [Kr.PT]); first | done | rfl))); clear hK K
  refine Kr.seqR (by rfl) (fun K hK => ?_)
  go_simp
  go_at_call 22
  refine (HF.out _ _ H.g HN).mono ?_
  rintro e y12 ⟨rfl, hg⟩
  replace H := H.grow hg
  clear hg
  clear HN
  (refine Kr.outS hK (a' := ?_) ?_ ?_; rotate_left; (focus ((try simp only [Kr.PT]); first | done | rfl))); clear hK K
  iterate 3 (refine Kr.seqQ (v := ?_) (a' := ?_) (by rfl) ?_ ?_ ?_; rotate_left 2; (focus (go_simp; first | done | rfl)); (focus ((try simp only [Kr.PT]); first | done | rfl)))
  have hk := H.c
  simp only [Kr.Cells] at hk
  (refine Kr.seqQ (v := ?_) (a' := ?_) (by rfl) ?_ ?_ ?_; rotate_left 2; (focus (go_simp; first | done | rfl)); (focus ((try simp only [Kr.PT]); first | done | rfl)))
  refine Kr.seqR (by rfl) (fun K hK => ?_)
  go_simp
  go_at_call 29
  refine (valid3_any _ _ _ _ _ (H.nw 1 rfl)).mono ?_
  rintro e y13 ⟨rfl, hg⟩
  rw [dv HU.out]
  clear hk
  replace H := H.grow hg
  clear hg
  (refine Kr.outS hK (a' := ?_) ?_ ?_; rotate_left; (focus ((try simp only [Kr.PT]); first | done | rfl))); clear hK K
  iterate 3 (refine Kr.seqQ (v := ?_) (a' := ?_) (by rfl) ?_ ?_ ?_; rotate_left 2; (focus (go_simp; first | done | rfl)); (focus ((try simp only [Kr.PT]); first | done | rfl)))
  have hk := H.c
  simp only [Kr.Cells] at hk
  (refine Kr.seqQ (v := ?_) (a' := ?_) (by rfl) ?_ ?_ ?_; rotate_left 2; (focus (go_simp; first | done | rfl)); (focus ((try simp only [Kr.PT]); first | done | rfl)))
  refine Kr.seqR (by rfl) (fun K hK => ?_)
  go_simp
  go_at_call 29
  refine (valid3_any _ _ _ _ _ (H.nw 0 rfl)).mono ?_
  rintro e y14 ⟨rfl, hg⟩
  rw [dv HV.out]
  clear hk
  replace H := H.grow hg
  clear hg
  (refine Kr.outS hK (a' := ?_) ?_ ?_; rotate_left; (focus ((try simp only [Kr.PT]); first | done | rfl))); clear hK K
  iterate 2 (refine Kr.seqQ (v := ?_) (a' := ?_) (by rfl) ?_ ?_ ?_; rotate_left 2; (focus (go_simp; first | done | rfl)); (focus ((try simp only [Kr.PT]); first | done | rfl)))
  refine Kr.seqDoneW ?_
  go_upto_region 3 with fail
  refine Kr.seqStartW ?_
  refine Kr.seqR (by rfl) (fun K hK => ?_)
  go_simp
  obtain ⟨y15, hy⟩ : ∃ y, y14.alloc (.cells #[.bool false] 4) = y := ⟨_, rfl⟩
  obtain ⟨bg, hb⟩ : ∃ b, y14.heap.size = b := ⟨_, rfl⟩
  rw [hy, hb]
  replace H := H.alloc hy hb rfl
  clear hy hb
  (refine Kr.outS hK (a' := ?_) ?_ ?_; rotate_left; (focus ((try simp only [Kr.PT]); first | done | rfl))); clear hK K
  have hk := H.c
  simp only [Kr.Cells] at hk
  refine Kr.seqR (by rfl) (fun K hK => ?_)
  go_simp
  clear hk
  obtain ⟨y16, hy⟩ : ∃ y, y15.setCell ⟨bg, 0, none⟩ (.bool true) = y := ⟨_, rfl⟩
  rw [hy]
  replace H := H.store 0 hy rfl rfl
  dsimp only [List.set] at H
  clear hy
  (refine Kr.outS hK (a' := ?_) ?_ ?_; rotate_left; (focus ((try simp only [Kr.PT]); first | done | rfl))); clear hK K
  refine Kr.seqDoneW ?_
  go_upto_region 4 with fail
  refine Kr.seqStartW ?_
  iterate 2 (refine Kr.seqQ (v := ?_) (a' := ?_) (by rfl) ?_ ?_ ?_; rotate_left 2; (focus (go_simp; first | done | rfl)); (focus ((try simp only [Kr.PT]); first | done | rfl)))
  refine Kr.seqDoneW ?_
  go_upto_region 5 with fail
  refine Kr.seqStartW ?_
  iterate 2 (refine Kr.seqQ (v := ?_) (a' := ?_) (by rfl) ?_ ?_ ?_; rotate_left 2; (focus (go_simp; first | done | rfl)); (focus ((try simp only [Kr.PT]); first | done | rfl)))
  refine Kr.seqDoneW ?_
  go_upto_region 6 with fail
  refine Kr.startL (fun W' => Kr.Cells W' [(ba, 0, .slice pa na ca), (be, 0, .slice pe ne ce), (bf, 0, .slice pf nf cf), (bb, 0, .slice pb nb cb)]) [] (by kernel_rfl) ?_
  have gd : Gr y16 y16.drew := (Gr.refl _).drew
  generalize y16.drew = d17 at gd ⊢
  replace H := H.grow gd
  clear gd
  refine have nd6_34 : ∀ (Wd34 : World) (bz : Nat) (b_y : Nat) (bx : Nat) (p18 : Option Addr) (n18 : Nat) (c18 : Nat) (p22 : Option Addr) (n22 : Nat) (c22 : Nat) (p35 : Option Addr) (n35 : Nat) (c35 : Nat), Sta w Wd34 [(bz, 0, .slice p35 n35 c35), (b_y, 0, .slice p22 n22 c22), (bx, 0, .slice p18 n18 c18), (bg, 0, .bool true), (bf, 0, .slice pf nf cf), (be, 0, .slice pe ne ce), (bm, 0, .slice pm nm cm), (bb, 0, .slice pb nb cb), (ba, 0, .slice pa na ca)] [N p35 n35 c35 (y ^ u % m), N p22 n22 c22 (x ^ v % m), N p18 n18 c18 (x ^ u % m), N pf nf cf (v), N pe ne ce (u), N pm nm cm (m), N pb nb cb (y), N pa na ca (x)] → (?Q6_34 : World → Nat → Nat → Nat → Option Addr → Nat → Nat → Option Addr → Nat → Nat → Option Addr → Nat → Nat → Prop) Wd34 bz b_y bx p18 n18 c18 p22 n22 c22 p35 n35 c35 := ?pf6_34; ?mn6_34
  case' mn6_34 => refine have nd6_33 : ∀ (Wd33 : World) (bz : Nat) (b_y : Nat) (bx : Nat) (p18 : Option Addr) (n18 : Nat) (c18 : Nat) (p22 : Option Addr) (n22 : Nat) (c22 : Nat) (p35 : Option Addr) (n35 : Nat) (c35 : Nat), Sta w Wd33 [(bz, 0, .slice none 0 0), (b_y, 0, .slice p22 n22 c22), (bx, 0, .slice p18 n18 c18), (bg, 0, .bool true), (bf, 0, .slice pf nf cf), (be, 0, .slice pe ne ce), (bm, 0, .slice pm nm cm), (bb, 0, .slice pb nb cb), (ba, 0, .slice pa na ca)] [N p35 n35 c35 (y ^ u % m), N p22 n22 c22 (x ^ v % m), N p18 n18 c18 (x ^ u % m), N pf nf cf (v), N pe ne ce (u), N pm nm cm (m), N pb nb cb (y), N pa na ca (x)] → (?Q6_33 : World → Nat → Nat → Nat → Option Addr → Nat → Nat → Option Addr → Nat → Nat → Option Addr → Nat → Nat → Prop) Wd33 bz b_y bx p18 n18 c18 p22 n22 c22 p35 n35 c35 := ?pf6_33; ?mn6_33
  case' mn6_33 => refine have nd6_32 : ∀ (Wd32 : World) (bz : Nat) (b_y : Nat) (bx : Nat) (p18 : Option Addr) (n18 : Nat) (c18 : Nat) (p22 : Option Addr) (n22 : Nat) (c22 : Nat) (p35 : Option Addr) (n35 : Nat) (c35 : Nat), Sta w Wd32 [(bz, 0, .slice none 0 0), (b_y, 0, .slice none 0 0), (bx, 0, .slice p18 n18 c18), (bg, 0, .bool true), (bf, 0, .slice pf nf cf), (be, 0, .slice pe ne ce), (bm, 0, .slice pm nm cm), (bb, 0, .slice pb nb cb), (ba, 0, .slice pa na ca)] [N p35 n35 c35 (y ^ u % m), N p22 n22 c22 (x ^ v % m), N p18 n18 c18 (x ^ u % m), N pf nf cf (v), N pe ne ce (u), N pm nm cm (m), N pb nb cb (y), N pa na ca (x)] → (?Q6_32 : World → Nat → Nat → Nat → Option Addr → Nat → Nat → Option Addr → Nat → Nat → Option Addr → Nat → Nat → Prop) Wd32 bz b_y bx p18 n18 c18 p22 n22 c22 p35 n35 c35 := ?pf6_32; ?mn6_32
  case' mn6_32 => refine have nd6_31 : ∀ (Wd31 : World) (bz : Nat) (b_y : Nat) (bx : Nat) (p18 : Option Addr) (n18 : Nat) (c18 : Nat) (p22 : Option Addr) (n22 : Nat) (c22 : Nat) (p35 : Option Addr) (n35 : Nat) (c35 : Nat), Sta w Wd31 [(bz, 0, .slice none 0 0), (b_y, 0, .slice none 0 0), (bx, 0, .slice none 0 0), (bg, 0, .bool true), (bf, 0, .slice pf nf cf), (be, 0, .slice pe ne ce), (bm, 0, .slice pm nm cm), (bb, 0, .slice pb nb cb), (ba, 0, .slice pa na ca)] [N p35 n35 c35 (y ^ u % m), N p22 n22 c22 (x ^ v % m), N p18 n18 c18 (x ^ u % m), N pf nf cf (v), N pe ne ce (u), N pm nm cm (m), N pb nb cb (y), N pa na ca (x)] → (?Q6_31 : World → Nat → Nat → Nat → Option Addr → Nat → Nat → Option Addr → Nat → Nat → Option Addr → Nat → Nat → Prop) Wd31 bz b_y bx p18 n18 c18 p22 n22 c22 p35 n35 c35 := ?pf6_31; ?mn6_31
  case' mn6_31 => refine have nd6_30 : ∀ (Wd30 : World) (bz : Nat) (b_y : Nat) (bx : Nat) (p18 : Option Addr) (n18 : Nat) (c18 : Nat) (p22 : Option Addr) (n22 : Nat) (c22 : Nat), Sta w Wd30 [(bz, 0, .slice none 0 0), (b_y, 0, .slice none 0 0), (bx, 0, .slice none 0 0), (bg, 0, .bool true), (bf, 0, .slice pf nf cf), (be, 0, .slice pe ne ce), (bm, 0, .slice pm nm cm), (bb, 0, .slice pb nb cb), (ba, 0, .slice pa na ca)] [N p22 n22 c22 (x ^ v % m), N p18 n18 c18 (x ^ u % m), N pf nf cf (v), N pe ne ce (u), N pm nm cm (m), N pb nb cb (y), N pa na ca (x)] → (?Q6_30 : World → Nat → Nat → Nat → Option Addr → Nat → Nat → Option Addr → Nat → Nat → Prop) Wd30 bz b_y bx p18 n18 c18 p22 n22 c22 := ?pf6_30; ?mn6_30
  case' mn6_30 => refine have nd6_29 : ∀ (Wd29 : World) (bz : Nat) (b_y : Nat) (p18 : Option Addr) (n18 : Nat) (c18 : Nat) (p22 : Option Addr) (n22 : Nat) (c22 : Nat) (p35 : Option Addr) (n35 : Nat) (c35 : Nat), Sta w Wd29 [(bz, 0, .slice none 0 0), (b_y, 0, .slice none 0 0), (bg, 0, .bool true), (bf, 0, .slice pf nf cf), (be, 0, .slice pe ne ce), (bm, 0, .slice pm nm cm), (bb, 0, .slice pb nb cb), (ba, 0, .slice pa na ca)] [N p35 n35 c35 (y ^ u % m), N p22 n22 c22 (x ^ v % m), N p18 n18 c18 (x ^ u % m), N pf nf cf (v), N pe ne ce (u), N pm nm cm (m), N pb nb cb (y), N pa na ca (x)] → (?Q6_29 : World → Nat → Nat → Option Addr → Nat → Nat → Option Addr → Nat → Nat → Option Addr → Nat → Nat → Prop) Wd29 bz b_y p18 n18 c18 p22 n22 c22 p35 n35 c35 := ?pf6_29; ?mn6_29
  case' mn6_29 => refine have nd6_28 : ∀ (Wd28 : World) (bz : Nat) (bx : Nat) (p18 : Option Addr) (n18 : Nat) (c18 : Nat) (p22 : Option Addr) (n22 : Nat) (c22 : Nat) (p35 : Option Addr) (n35 : Nat) (c35 : Nat), Sta w Wd28 [(bz, 0, .slice none 0 0), (bx, 0, .slice none 0 0), (bg, 0, .bool true), (bf, 0, .slice pf nf cf), (be, 0, .slice pe ne ce), (bm, 0, .slice pm nm cm), (bb, 0, .slice pb nb cb), (ba, 0, .slice pa na ca)] [N p35 n35 c35 (y ^ u % m), N p22 n22 c22 (x ^ v % m), N p18 n18 c18 (x ^ u % m), N pf nf cf (v), N pe ne ce (u), N pm nm cm (m), N pb nb cb (y), N pa na ca (x)] → (?Q6_28 : World → Nat → Nat → Option Addr → Nat → Nat → Option Addr → Nat → Nat → Option Addr → Nat → Nat → Prop) Wd28 bz bx p18 n18 c18 p22 n22 c22 p35 n35 c35 := ?pf6_28; ?mn6_28
  case' mn6_28 => refine have nd6_27 : ∀ (Wd27 : World) (b_y : Nat) (bx : Nat) (p18 : Option Addr) (n18 : Nat) (c18 : Nat) (p22 : Option Addr) (n22 : Nat) (c22 : Nat) (p35 : Option Addr) (n35 : Nat) (c35 : Nat), Sta w Wd27 [(b_y, 0, .slice none 0 0), (bx, 0, .slice none 0 0), (bg, 0, .bool true), (bf, 0, .slice pf nf cf), (be, 0, .slice pe ne ce), (bm, 0, .slice pm nm cm), (bb, 0, .slice pb nb cb), (ba, 0, .slice pa na ca)] [N p35 n35 c35 (y ^ u % m), N p22 n22 c22 (x ^ v % m), N p18 n18 c18 (x ^ u % m), N pf nf cf (v), N pe ne ce (u), N pm nm cm (m), N pb nb cb (y), N pa na ca (x)] → (?Q6_27 : World → Nat → Nat → Option Addr → Nat → Nat → Option Addr → Nat → Nat → Option Addr → Nat → Nat → Prop) Wd27 b_y bx p18 n18 c18 p22 n22 c22 p35 n35 c35 := ?pf6_27; ?mn6_27
  case' mn6_27 => refine have nd6_26 : ∀ (Wd26 : World) (bz : Nat) (b_y : Nat) (bx : Nat) (p18 : Option Addr) (n18 : Nat) (c18 : Nat), Sta w Wd26 [(bz, 0, .slice none 0 0), (b_y, 0, .slice none 0 0), (bx, 0, .slice none 0 0), (bg, 0, .bool true), (bf, 0, .slice pf nf cf), (be, 0, .slice pe ne ce), (bm, 0, .slice pm nm cm), (bb, 0, .slice pb nb cb), (ba, 0, .slice pa na ca)] [N p18 n18 c18 (x ^ u % m), N pf nf cf (v), N pe ne ce (u), N pm nm cm (m), N pb nb cb (y), N pa na ca (x)] → (?Q6_26 : World → Nat → Nat → Nat → Option Addr → Nat → Nat → Prop) Wd26 bz b_y bx p18 n18 c18 := ?pf6_26; ?mn6_26
  case' mn6_26 => refine have nd6_25 : ∀ (Wd25 : World) (bz : Nat) (b_y : Nat) (p18 : Option Addr) (n18 : Nat) (c18 : Nat) (p22 : Option Addr) (n22 : Nat) (c22 : Nat), Sta w Wd25 [(bz, 0, .slice none 0 0), (b_y, 0, .slice none 0 0), (bg, 0, .bool true), (bf, 0, .slice pf nf cf), (be, 0, .slice pe ne ce), (bm, 0, .slice pm nm cm), (bb, 0, .slice pb nb cb), (ba, 0, .slice pa na ca)] [N p22 n22 c22 (x ^ v % m), N p18 n18 c18 (x ^ u % m), N pf nf cf (v), N pe ne ce (u), N pm nm cm (m), N pb nb cb (y), N pa na ca (x)] → (?Q6_25 : World → Nat → Nat → Option Addr → Nat → Nat → Option Addr → Nat → Nat → Prop) Wd25 bz b_y p18 n18 c18 p22 n22 c22 := ?pf6_25; ?mn6_25
  case' mn6_25 => refine have nd6_24 : ∀ (Wd24 : World) (bz : Nat) (bx : Nat) (p18 : Option Addr) (n18 : Nat) (c18 : Nat) (p22 : Option Addr) (n22 : Nat) (c22 : Nat), Sta w Wd24 [(bz, 0, .slice none 0 0), (bx, 0, .slice none 0 0), (bg, 0, .bool true), (bf, 0, .slice pf nf cf), (be, 0, .slice pe ne ce), (bm, 0, .slice pm nm cm), (bb, 0, .slice pb nb cb), (ba, 0, .slice pa na ca)] [N p22 n22 c22 (x ^ v % m), N p18 n18 c18 (x ^ u % m), N pf nf cf (v), N pe ne ce (u), N pm nm cm (m), N pb nb cb (y), N pa na ca (x)] → (?Q6_24 : World → Nat → Nat → Option Addr → Nat → Nat → Option Addr → Nat → Nat → Prop) Wd24 bz bx p18 n18 c18 p22 n22 c22 := ?pf6_24; ?mn6_24
  case' mn6_24 => refine have nd6_23 : ∀ (Wd23 : World) (b_y : Nat) (bx : Nat) (p18 : Option Addr) (n18 : Nat) (c18 : Nat) (p22 : Option Addr) (n22 : Nat) (c22 : Nat), Sta w Wd23 [(b_y, 0, .slice none 0 0), (bx, 0, .slice none 0 0), (bg, 0, .bool true), (bf, 0, .slice pf nf cf), (be, 0, .slice pe ne ce), (bm, 0, .slice pm nm cm), (bb, 0, .slice pb nb cb), (ba, 0, .slice pa na ca)] [N p22 n22 c22 (x ^ v % m), N p18 n18 c18 (x ^ u % m), N pf nf cf (v), N pe ne ce (u), N pm nm cm (m), N pb nb cb (y), N pa na ca (x)] → (?Q6_23 : World → Nat → Nat → Option Addr → Nat → Nat → Option Addr → Nat → Nat → Prop) Wd23 b_y bx p18 n18 c18 p22 n22 c22 := ?pf6_23; ?mn6_23
  case' mn6_23 => refine have nd6_22 : ∀ (Wd22 : World) (bz : Nat) (p18 : Option Addr) (n18 : Nat) (c18 : Nat) (p22 : Option Addr) (n22 : Nat) (c22 : Nat) (p35 : Option Addr) (n35 : Nat) (c35 : Nat), Sta w Wd22 [(bz, 0, .slice none 0 0), (bg, 0, .bool true), (bf, 0, .slice pf nf cf), (be, 0, .slice pe ne ce), (bm, 0, .slice pm nm cm), (bb, 0, .slice pb nb cb), (ba, 0, .slice pa na ca)] [N p35 n35 c35 (y ^ u % m), N p22 n22 c22 (x ^ v % m), N p18 n18 c18 (x ^ u % m), N pf nf cf (v), N pe ne ce (u), N pm nm cm (m), N pb nb cb (y), N pa na ca (x)] → (?Q6_22 : World → Nat → Option Addr → Nat → Nat → Option Addr → Nat → Nat → Option Addr → Nat → Nat → Prop) Wd22 bz p18 n18 c18 p22 n22 c22 p35 n35 c35 := ?pf6_22; ?mn6_22
  case' mn6_22 => refine have nd6_21 : ∀ (Wd21 : World) (b_y : Nat) (p18 : Option Addr) (n18 : Nat) (c18 : Nat) (p22 : Option Addr) (n22 : Nat) (c22 : Nat) (p35 : Option Addr) (n35 : Nat) (c35 : Nat), Sta w Wd21 [(b_y, 0, .slice none 0 0), (bg, 0, .bool true), (bf, 0, .slice pf nf cf), (be, 0, .slice pe ne ce), (bm, 0, .slice pm nm cm), (bb, 0, .slice pb nb cb), (ba, 0, .slice pa na ca)] [N p35 n35 c35 (y ^ u % m), N p22 n22 c22 (x ^ v % m), N p18 n18 c18 (x ^ u % m), N pf nf cf (v), N pe ne ce (u), N pm nm cm (m), N pb nb cb (y), N pa na ca (x)] → (?Q6_21 : World → Nat → Option Addr → Nat → Nat → Option Addr → Nat → Nat → Option Addr → Nat → Nat → Prop) Wd21 b_y p18 n18 c18 p22 n22 c22 p35 n35 c35 := ?pf6_21; ?mn6_21
  case' mn6_21 => refine have nd6_20 : ∀ (Wd20 : World) (bx : Nat) (p18 : Option Addr) (n18 : Nat) (c18 : Nat) (p22 : Option Addr) (n22 : Nat) (c22 : Nat) (p35 : Option Addr) (n35 : Nat) (c35 : Nat), Sta w Wd20 [(bx, 0, .slice none 0 0), (bg, 0, .bool true), (bf, 0, .slice pf nf cf), (be, 0, .slice pe ne ce), (bm, 0, .slice pm nm cm), (bb, 0, .slice pb nb cb), (ba, 0, .slice pa na ca)] [N p35 n35 c35 (y ^ u % m), N p22 n22 c22 (x ^ v % m), N p18 n18 c18 (x ^ u % m), N pf nf cf (v), N pe ne ce (u), N pm nm cm (m), N pb nb cb (y), N pa na ca (x)] → (?Q6_20 : World → Nat → Option Addr → Nat → Nat → Option Addr → Nat → Nat → Option Addr → Nat → Nat → Prop) Wd20 bx p18 n18 c18 p22 n22 c22 p35 n35 c35 := ?pf6_20; ?mn6_20
  case' mn6_20 => refine have nd6_19 : ∀ (Wd19 : World) (bz : Nat) (b_y : Nat) (bx : Nat), Sta w Wd19 [(bz, 0, .slice none 0 0), (b_y, 0, .slice none 0 0), (bx, 0, .slice none 0 0), (bg, 0, .bool true), (bf, 0, .slice pf nf cf), (be, 0, .slice pe ne ce), (bm, 0, .slice pm nm cm), (bb, 0, .slice pb nb cb), (ba, 0, .slice pa na ca)] [N pf nf cf (v), N pe ne ce (u), N pm nm cm (m), N pb nb cb (y), N pa na ca (x)] → (?Q6_19 : World → Nat → Nat → Nat → Prop) Wd19 bz b_y bx := ?pf6_19; ?mn6_19
  case' mn6_19 => refine have nd6_18 : ∀ (Wd18 : World) (bz : Nat) (b_y : Nat) (p18 : Option Addr) (n18 : Nat) (c18 : Nat), Sta w Wd18 [(bz, 0, .slice none 0 0), (b_y, 0, .slice none 0 0), (bg, 0, .bool true), (bf, 0, .slice pf nf cf), (be, 0, .slice pe ne ce), (bm, 0, .slice pm nm cm), (bb, 0, .slice pb nb cb), (ba, 0, .slice pa na ca)] [N p18 n18 c18 (x ^ u % m), N pf nf cf (v), N pe ne ce (u), N pm nm cm (m), N pb nb cb (y), N pa na ca (x)] → (?Q6_18 : World → Nat → Nat → Option Addr → Nat → Nat → Prop) Wd18 bz b_y p18 n18 c18 := ?pf6_18; ?mn6_18
  case' mn6_18 => refine have nd6_17 : ∀ (Wd17 : World) (bz : Nat) (bx : Nat) (p18 : Option Addr) (n18 : Nat) (c18 : Nat), Sta w Wd17 [(bz, 0, .slice none 0 0), (bx, 0, .slice none 0 0), (bg, 0, .bool true), (bf, 0, .slice pf nf cf), (be, 0, .slice pe ne ce), (bm, 0, .slice pm nm cm), (bb, 0, .slice pb nb cb), (ba, 0, .slice pa na ca)] [N p18 n18 c18 (x ^ u % m), N pf nf cf (v), N pe ne ce (u), N pm nm cm (m), N pb nb cb (y), N pa na ca (x)] → (?Q6_17 : World → Nat → Nat → Option Addr → Nat → Nat → Prop) Wd17 bz bx p18 n18 c18 := ?pf6_17; ?mn6_17
  case' mn6_17 => refine have nd6_16 : ∀ (Wd16 : World) (b_y : Nat) (bx : Nat) (p18 : Option Addr) (n18 : Nat) (c18 : Nat), Sta w Wd16 [(b_y, 0, .slice none 0 0), (bx, 0, .slice none 0 0), (bg, 0, .bool true), (bf, 0, .slice pf nf cf), (be, 0, .slice pe ne ce), (bm, 0, .slice pm nm cm), (bb, 0, .slice pb nb cb), (ba, 0, .slice pa na ca)] [N p18 n18 c18 (x ^ u % m), N pf nf cf (v), N pe ne ce (u), N pm nm cm (m), N pb nb cb (y), N pa na ca (x)] → (?Q6_16 : World → Nat → Nat → Option Addr → Nat → Nat → Prop) Wd16 b_y bx p18 n18 c18 := ?pf6_16; ?mn6_16
  case' mn6_16 => refine have nd6_15 : ∀ (Wd15 : World) (bz : Nat) (p18 : Option Addr) (n18 : Nat) (c18 : Nat) (p22 : Option Addr) (n22 : Nat) (c22 : Nat), Sta w Wd15 [(bz, 0, .slice none 0 0), (bg, 0, .bool true), (bf, 0, .slice pf nf cf), (be, 0, .slice pe ne ce), (bm, 0, .slice pm nm cm), (bb, 0, .slice pb nb cb), (ba, 0, .slice pa na ca)] [N p22 n22 c22 (x ^ v % m), N p18 n18 c18 (x ^ u % m), N pf nf cf (v), N pe ne ce (u), N pm nm cm (m), N pb nb cb (y), N pa na ca (x)] → (?Q6_15 : World → Nat → Option Addr → Nat → Nat → Option Addr → Nat → Nat → Prop) Wd15 bz p18 n18 c18 p22 n22 c22 := ?pf6_15; ?mn6_15
  case' mn6_15 => refine have nd6_14 : ∀ (Wd14 : World) (b_y : Nat) (p18 : Option Addr) (n18 : Nat) (c18 : Nat) (p22 : Option Addr) (n22 : Nat) (c22 : Nat), Sta w Wd14 [(b_y, 0, .slice none 0 0), (bg, 0, .bool true), (bf, 0, .slice pf nf cf), (be, 0, .slice pe ne ce), (bm, 0, .slice pm nm cm), (bb, 0, .slice pb nb cb), (ba, 0, .slice pa na ca)] [N p22 n22 c22 (x ^ v % m), N p18 n18 c18 (x ^ u % m), N pf nf cf (v), N pe ne ce (u), N pm nm cm (m), N pb nb cb (y), N pa na ca (x)] → (?Q6_14 : World → Nat → Option Addr → Nat → Nat → Option Addr → Nat → Nat → Prop) Wd14 b_y p18 n18 c18 p22 n22 c22 := ?pf6_14; ?mn6_14
  case' mn6_14 => refine have nd6_13 : ∀ (Wd13 : World) (bx : Nat) (p18 : Option Addr) (n18 : Nat) (c18 : Nat) (p22 : Option Addr) (n22 : Nat) (c22 : Nat), Sta w Wd13 [(bx, 0, .slice none 0 0), (bg, 0, .bool true), (bf, 0, .slice pf nf cf), (be, 0, .slice pe ne ce), (bm, 0, .slice pm nm cm), (bb, 0, .slice pb nb cb), (ba, 0, .slice pa na ca)] [N p22 n22 c22 (x ^ v % m), N p18 n18 c18 (x ^ u % m), N pf nf cf (v), N pe ne ce (u), N pm nm cm (m), N pb nb cb (y), N pa na ca (x)] → (?Q6_13 : World → Nat → Option Addr → Nat → Nat → Option Addr → Nat → Nat → Prop) Wd13 bx p18 n18 c18 p22 n22 c22 := ?pf6_13; ?mn6_13
  case' mn6_13 => refine have nd6_12 : ∀ (Wd12 : World) (p18 : Option Addr) (n18 : Nat) (c18 : Nat) (p22 : Option Addr) (n22 : Nat) (c22 : Nat) (p35 : Option Addr) (n35 : Nat) (c35 : Nat), Sta w Wd12 [(bg, 0, .bool true), (bf, 0, .slice pf nf cf), (be, 0, .slice pe ne ce), (bm, 0, .slice pm nm cm), (bb, 0, .slice pb nb cb), (ba, 0, .slice pa na ca)] [N p35 n35 c35 (y ^ u % m), N p22 n22 c22 (x ^ v % m), N p18 n18 c18 (x ^ u % m), N pf nf cf (v), N pe ne ce (u), N pm nm cm (m), N pb nb cb (y), N pa na ca (x)] → (?Q6_12 : World → Option Addr → Nat → Nat → Option Addr → Nat → Nat → Option Addr → Nat → Nat → Prop) Wd12 p18 n18 c18 p22 n22 c22 p35 n35 c35 := ?pf6_12; ?mn6_12
  case' mn6_12 => refine have nd6_11 : ∀ (Wd11 : World) (bz : Nat) (b_y : Nat), Sta w Wd11 [(bz, 0, .slice none 0 0), (b_y, 0, .slice none 0 0), (bg, 0, .bool true), (bf, 0, .slice pf nf cf), (be, 0, .slice pe ne ce), (bm, 0, .slice pm nm cm), (bb, 0, .slice pb nb cb), (ba, 0, .slice pa na ca)] [N pf nf cf (v), N pe ne ce (u), N pm nm cm (m), N pb nb cb (y), N pa na ca (x)] → (?Q6_11 : World → Nat → Nat → Prop) Wd11 bz b_y := ?pf6_11; ?mn6_11
  case' mn6_11 => refine have nd6_10 : ∀ (Wd10 : World) (bz : Nat) (bx : Nat), Sta w Wd10 [(bz, 0, .slice none 0 0), (bx, 0, .slice none 0 0), (bg, 0, .bool true), (bf, 0, .slice pf nf cf), (be, 0, .slice pe ne ce), (bm, 0, .slice pm nm cm), (bb, 0, .slice pb nb cb), (ba, 0, .slice pa na ca)] [N pf nf cf (v), N pe ne ce (u), N pm nm cm (m), N pb nb cb (y), N pa na ca (x)] → (?Q6_10 : World → Nat → Nat → Prop) Wd10 bz bx := ?pf6_10; ?mn6_10
  case' mn6_10 => refine have nd6_9 : ∀ (Wd9 : World) (b_y : Nat) (bx : Nat), Sta w Wd9 [(b_y, 0, .slice none 0 0), (bx, 0, .slice none 0 0), (bg, 0, .bool true), (bf, 0, .slice pf nf cf), (be, 0, .slice pe ne ce), (bm, 0, .slice pm nm cm), (bb, 0, .slice pb nb cb), (ba, 0, .slice pa na ca)] [N pf nf cf (v), N pe ne ce (u), N pm nm cm (m), N pb nb cb (y), N pa na ca (x)] → (?Q6_9 : World → Nat → Nat → Prop) Wd9 b_y bx := ?pf6_9; ?mn6_9
  case' mn6_9 => refine have nd6_8 : ∀ (Wd8 : World) (bz : Nat) (p18 : Option Addr) (n18 : Nat) (c18 : Nat), Sta w Wd8 [(bz, 0, .slice none 0 0), (bg, 0, .bool true), (bf, 0, .slice pf nf cf), (be, 0, .slice pe ne ce), (bm, 0, .slice pm nm cm), (bb, 0, .slice pb nb cb), (ba, 0, .slice pa na ca)] [N p18 n18 c18 (x ^ u % m), N pf nf cf (v), N pe ne ce (u), N pm nm cm (m), N pb nb cb (y), N pa na ca (x)] → (?Q6_8 : World → Nat → Option Addr → Nat → Nat → Prop) Wd8 bz p18 n18 c18 := ?pf6_8; ?mn6_8
  case' mn6_8 => refine have nd6_7 : ∀ (Wd7 : World) (b_y : Nat) (p18 : Option Addr) (n18 : Nat) (c18 : Nat), Sta w Wd7 [(b_y, 0, .slice none 0 0), (bg, 0, .bool true), (bf, 0, .slice pf nf cf), (be, 0, .slice pe ne ce), (bm, 0, .slice pm nm cm), (bb, 0, .slice pb nb cb), (ba, 0, .slice pa na ca)] [N p18 n18 c18 (x ^ u % m), N pf nf cf (v), N pe ne ce (u), N pm nm cm (m), N pb nb cb (y), N pa na ca (x)] → (?Q6_7 : World → Nat → Option Addr → Nat → Nat → Prop) Wd7 b_y p18 n18 c18 := ?pf6_7; ?mn6_7
  case' mn6_7 => refine have nd6_6 : ∀ (Wd6 : World) (bx : Nat) (p18 : Option Addr) (n18 : Nat) (c18 : Nat), Sta w Wd6 [(bx, 0, .slice none 0 0), (bg, 0, .bool true), (bf, 0, .slice pf nf cf), (be, 0, .slice pe ne ce), (bm, 0, .slice pm nm cm), (bb, 0, .slice pb nb cb), (ba, 0, .slice pa na ca)] [N p18 n18 c18 (x ^ u % m), N pf nf cf (v), N pe ne ce (u), N pm nm cm (m), N pb nb cb (y), N pa na ca (x)] → (?Q6_6 : World → Nat → Option Addr → Nat → Nat → Prop) Wd6 bx p18 n18 c18 := ?pf6_6; ?mn6_6
  case' mn6_6 => refine have nd6_5 : ∀ (Wd5 : World) (p18 : Option Addr) (n18 : Nat) (c18 : Nat) (p22 : Option Addr) (n22 : Nat) (c22 : Nat), Sta w Wd5 [(bg, 0, .bool true), (bf, 0, .slice pf nf cf), (be, 0, .slice pe ne ce), (bm, 0, .slice pm nm cm), (bb, 0, .slice pb nb cb), (ba, 0, .slice pa na ca)] [N p22 n22 c22 (x ^ v % m), N p18 n18 c18 (x ^ u % m), N pf nf cf (v), N pe ne ce (u), N pm nm cm (m), N pb nb cb (y), N pa na ca (x)] → (?Q6_5 : World → Option Addr → Nat → Nat → Option Addr → Nat → Nat → Prop) Wd5 p18 n18 c18 p22 n22 c22 := ?pf6_5; ?mn6_5
  case' mn6_5 => refine have nd6_4 : ∀ (Wd4 : World) (bz : Nat), Sta w Wd4 [(bz, 0, .slice none 0 0), (bg, 0, .bool true), (bf, 0, .slice pf nf cf), (be, 0, .slice pe ne ce), (bm, 0, .slice pm nm cm), (bb, 0, .slice pb nb cb), (ba, 0, .slice pa na ca)] [N pf nf cf (v), N pe ne ce (u), N pm nm cm (m), N pb nb cb (y), N pa na ca (x)] → (?Q6_4 : World → Nat → Prop) Wd4 bz := ?pf6_4; ?mn6_4
  case' mn6_4 => refine have nd6_3 : ∀ (Wd3 : World) (b_y : Nat), Sta w Wd3 [(b_y, 0, .slice none 0 0), (bg, 0, .bool true), (bf, 0, .slice pf nf cf), (be, 0, .slice pe ne ce), (bm, 0, .slice pm nm cm), (bb, 0, .slice pb nb cb), (ba, 0, .slice pa na ca)] [N pf nf cf (v), N pe ne ce (u), N pm nm cm (m), N pb nb cb (y), N pa na ca (x)] → (?Q6_3 : World → Nat → Prop) Wd3 b_y := ?pf6_3; ?mn6_3
  case' mn6_3 => refine have nd6_2 : ∀ (Wd2 : World) (bx : Nat), Sta w Wd2 [(bx, 0, .slice none 0 0), (bg, 0, .bool true), (bf, 0, .slice pf nf cf), (be, 0, .slice pe ne ce), (bm, 0, .slice pm nm cm), (bb, 0, .slice pb nb cb), (ba, 0, .slice pa na ca)] [N pf nf cf (v), N pe ne ce (u), N pm nm cm (m), N pb nb cb (y), N pa na ca (x)] → (?Q6_2 : World → Nat → Prop) Wd2 bx := ?pf6_2; ?mn6_2
  case' mn6_2 => refine have nd6_1 : ∀ (Wd1 : World) (p18 : Option Addr) (n18 : Nat) (c18 : Nat), Sta w Wd1 [(bg, 0, .bool true), (bf, 0, .slice pf nf cf), (be, 0, .slice pe ne ce), (bm, 0, .slice pm nm cm), (bb, 0, .slice pb nb cb), (ba, 0, .slice pa na ca)] [N p18 n18 c18 (x ^ u % m), N pf nf cf (v), N pe ne ce (u), N pm nm cm (m), N pb nb cb (y), N pa na ca (x)] → (?Q6_1 : World → Option Addr → Nat → Nat → Prop) Wd1 p18 n18 c18 := ?pf6_1; ?mn6_1
  case mn6_1 =>
    (refine Kr.tPQ 0 (v := ?_) (a' := ?_) rfl (by kernel_rfl) (fun _ _ _ h => h) (by rfl) (fun _ => (H.sub [5, 2, 1, 4] rfl)) (fun wx => ?_) ?_ ?_; rotate_left 2; (focus (go_simp; first | done | rfl)); (focus ((try simp only [Kr.PT]); first | done | rfl)))
    (refine Kr.tSQ 1 [] (v := ?_) (a' := ?_) rfl (by kernel_rfl) (fun _ _ _ h => h) (by rfl) (H.sub [5, 2, 1, 4] rfl) (fun wx hSx => ?_) ?_ ?_; rotate_left 2; (focus (simp only [Kr.Cells] at hSx; go_simp; first | done | rfl)); (focus ((try simp only [Kr.PT]); first | done | rfl)))
    (refine Kr.tSQ 2 [] (v := ?_) (a' := ?_) rfl (by kernel_rfl) (fun _ _ _ h => h) (by rfl) (H.sub [5, 2, 1, 4] rfl) (fun wx hSx => ?_) ?_ ?_; rotate_left 2; (focus (simp only [Kr.Cells] at hSx; go_simp; first | done | rfl)); (focus ((try simp only [Kr.PT]); first | done | rfl)))
    (refine Kr.tPQ 4 (v := ?_) (a' := ?_) rfl (by kernel_rfl) (fun _ _ _ h => h) (by rfl) (fun _ => (H.sub [5, 2, 1, 4] rfl)) (fun wx => ?_) ?_ ?_; rotate_left 2; (focus (go_simp; first | done | rfl)); (focus ((try simp only [Kr.PT]); first | done | rfl)))
    (refine Kr.tSQ 5 [] (v := ?_) (a' := ?_) rfl (by kernel_rfl) (fun _ _ _ h => h) (by rfl) (H.sub [5, 2, 1, 4] rfl) (fun wx hSx => ?_) ?_ ?_; rotate_left 2; (focus (simp only [Kr.Cells] at hSx; go_simp; first | done | rfl)); (focus ((try simp only [Kr.PT]); first | done | rfl)))
    (refine Kr.tSQ 6 [] (v := ?_) (a' := ?_) rfl (by kernel_rfl) (fun _ _ _ h => h) (by rfl) (H.sub [5, 2, 1, 4] rfl) (fun wx hSx => ?_) ?_ ?_; rotate_left 2; (focus (simp only [Kr.Cells] at hSx; go_simp; first | done | rfl)); (focus ((try simp only [Kr.PT]); first | done | rfl)))
    (refine Kr.tPQ 8 (v := ?_) (a' := ?_) rfl (by kernel_rfl) (fun _ _ _ h => h) (by rfl) (fun _ => (H.sub [5, 2, 1, 4] rfl)) (fun wx => ?_) ?_ ?_; rotate_left 2; (focus (go_simp; first | done | rfl)); (focus ((try simp only [Kr.PT]); first | done | rfl)))
    (refine Kr.tSQ 9 [] (v := ?_) (a' := ?_) rfl (by kernel_rfl) (fun _ _ _ h => h) (by rfl) (H.sub [5, 2, 1, 4] rfl) (fun wx hSx => ?_) ?_ ?_; rotate_left 2; (focus (simp only [Kr.Cells] at hSx; go_simp; first | done | rfl)); (focus ((try simp only [Kr.PT]); first | done | rfl)))
    (refine Kr.tSQ 10 [] (v := ?_) (a' := ?_) rfl (by kernel_rfl) (fun _ _ _ h => h) (by rfl) (H.sub [5, 2, 1, 4] rfl) (fun wx hSx => ?_) ?_ ?_; rotate_left 2; (focus (simp only [Kr.Cells] at hSx; go_simp; first | done | rfl)); (focus ((try simp only [Kr.PT]); first | done | rfl)))
    refine Kr.readyL (rs := [3, 12, 13, 14]) (by kernel_rfl) (by simp) ?_
    refine Kr.AllL.cons rfl (fun K hK => ?_) ?_
    · go_simp
      go_at_call 41
      refine (pows1_Pow (z := x ^ u % m) H 3 0 rfl rfl (H.nw 4 rfl) (H.nw 1 rfl) (H.nw 2 rfl) VM.out (Nat.mod_lt _ M0.out) (fun W1 h1 h2 h3 => mPow_ok h1 h2 h3 HX.out HU.out VM.out)).mono ?_
      rintro e y18 ⟨p18, n18, c18, rfl, HH⟩
      replace H := HH
      clear HH
      (refine Kr.outL hK (a' := ?_) ?_ (fun _ => (H.sub [5, 2, 1, 4] rfl)) ?_; rotate_left; (focus ((try simp only [Kr.PT]); first | done | rfl))); clear hK K
      refine Kr.relistL (l2 := #[true, true, true, true, true, true, true, false, true, true, true, false, false, false, false, false, false, false]) (by kernel_rfl) ?_
      exact nd6_1 y18 p18 n18 c18 H
    refine Kr.AllL.cons rfl (fun K hK => ?_) ?_
    · go_simp
      obtain ⟨y19, hy⟩ : ∃ y, d17.alloc (.cells #[.slice none 0 0] 24) = y := ⟨_, rfl⟩
      obtain ⟨bx, hb⟩ : ∃ b, d17.heap.size = b := ⟨_, rfl⟩
      rw [hy, hb]
      replace H := H.alloc hy hb rfl
      clear hy hb
      (refine Kr.outL hK (a' := ?_) ?_ (fun _ => (H.sub [6, 3, 2, 5] rfl)) ?_; rotate_left; (focus ((try simp only [Kr.PT]); first | done | rfl))); clear hK K
      refine Kr.relistL (l2 := #[true, true, true, false, true, true, true, false, true, true, true, false, true, false, false, false, false, false]) (by kernel_rfl) ?_
      exact nd6_2 y19 bx H
    refine Kr.AllL.cons rfl (fun K hK => ?_) ?_
    · go_simp
      obtain ⟨y20, hy⟩ : ∃ y, d17.alloc (.cells #[.slice none 0 0] 24) = y := ⟨_, rfl⟩
      obtain ⟨b_y, hb⟩ : ∃ b, d17.heap.size = b := ⟨_, rfl⟩
      rw [hy, hb]
      replace H := H.alloc hy hb rfl
      clear hy hb
      (refine Kr.outL hK (a' := ?_) ?_ (fun _ => (H.sub [6, 3, 2, 5] rfl)) ?_; rotate_left; (focus ((try simp only [Kr.PT]); first | done | rfl))); clear hK K
      refine Kr.relistL (l2 := #[true, true, true, false, true, true, true, false, true, true, true, false, false, true, false, false, false, false]) (by kernel_rfl) ?_
      exact nd6_3 y20 b_y H
    refine Kr.AllL.cons rfl (fun K hK => ?_) Kr.AllL.nil
    go_simp
    obtain ⟨y21, hy⟩ : ∃ y, d17.alloc (.cells #[.slice none 0 0] 24) = y := ⟨_, rfl⟩
    obtain ⟨bz, hb⟩ : ∃ b, d17.heap.size = b := ⟨_, rfl⟩
    rw [hy, hb]
    replace H := H.alloc hy hb rfl
    clear hy hb
    (refine Kr.outL hK (a' := ?_) ?_ (fun _ => (H.sub [6, 3, 2, 5] rfl)) ?_; rotate_left; (focus ((try simp only [Kr.PT]); first | done | rfl))); clear hK K
    refine Kr.relistL (l2 := #[true, true, true, false, true, true, true, false, true, true, true, false, false, false, true, false, false, false]) (by kernel_rfl) ?_
    exact nd6_4 y21 bz H
  case pf6_1 =>
    intro Wd1 p18 n18 c18 H
    refine Kr.readyL (rs := [7, 12, 13, 14]) (by kernel_rfl) (by simp) ?_
    refine Kr.AllL.cons rfl (fun K hK => ?_) ?_
    · go_simp
      go_at_call 41
      refine (pows1_Pow (z := x ^ v % m) H 3 0 rfl rfl (H.nw 5 rfl) (H.nw 1 rfl) (H.nw 3 rfl) VM.out (Nat.mod_lt _ M0.out) (fun W1 h1 h2 h3 => mPow_ok h1 h2 h3 HX.out HV.out VM.out)).mono ?_
      rintro e y22 ⟨p22, n22, c22, rfl, HH⟩
      replace H := HH
      clear HH
      (refine Kr.outL hK (a' := ?_) ?_ (fun _ => (H.sub [5, 2, 1, 4] rfl)) ?_; rotate_left; (focus ((try simp only [Kr.PT]); first | done | rfl))); clear hK K
      refine Kr.relistL (l2 := #[true, true, true, true, true, true, true, true, true, true, true, false, false, false, false, false, false, false]) (by kernel_rfl) ?_
      exact nd6_5 y22 p18 n18 c18 p22 n22 c22 H
    refine Kr.AllL.cons rfl (fun K hK => ?_) ?_
    · go_simp
      obtain ⟨y23, hy⟩ : ∃ y, Wd1.alloc (.cells #[.slice none 0 0] 24) = y := ⟨_, rfl⟩
      obtain ⟨bx, hb⟩ : ∃ b, Wd1.heap.size = b := ⟨_, rfl⟩
      rw [hy, hb]
      replace H := H.alloc hy hb rfl
      clear hy hb
      (refine Kr.outL hK (a' := ?_) ?_ (fun _ => (H.sub [6, 3, 2, 5] rfl)) ?_; rotate_left; (focus ((try simp only [Kr.PT]); first | done | rfl))); clear hK K
      refine Kr.relistL (l2 := #[true, true, true, true, true, true, true, false, true, true, true, false, true, false, false, false, false, false]) (by kernel_rfl) ?_
      exact nd6_6 y23 bx p18 n18 c18 H
    refine Kr.AllL.cons rfl (fun K hK => ?_) ?_
    · go_simp
      obtain ⟨y24, hy⟩ : ∃ y, Wd1.alloc (.cells #[.slice none 0 0] 24) = y := ⟨_, rfl⟩
      obtain ⟨b_y, hb⟩ : ∃ b, Wd1.heap.size = b := ⟨_, rfl⟩
      rw [hy, hb]
      replace H := H.alloc hy hb rfl
      clear hy hb
      (refine Kr.outL hK (a' := ?_) ?_ (fun _ => (H.sub [6, 3, 2, 5] rfl)) ?_; rotate_left; (focus ((try simp only [Kr.PT]); first | done | rfl))); clear hK K
      refine Kr.relistL (l2 := #[true, true, true, true, true, true, true, false, true, true, true, false, false, true, false, false, false, false]) (by kernel_rfl) ?_
      exact nd6_7 y24 b_y p18 n18 c18 H
    refine Kr.AllL.cons rfl (fun K hK => ?_) Kr.AllL.nil
    go_simp
    obtain ⟨y25, hy⟩ : ∃ y, Wd1.alloc (.cells #[.slice none 0 0] 24) = y := ⟨_, rfl⟩
    obtain ⟨bz, hb⟩ : ∃ b, Wd1.heap.size = b := ⟨_, rfl⟩
    rw [hy, hb]
    replace H := H.alloc hy hb rfl
    clear hy hb
    (refine Kr.outL hK (a' := ?_) ?_ (fun _ => (H.sub [6, 3, 2, 5] rfl)) ?_; rotate_left; (focus ((try simp only [Kr.PT]); first | done | rfl))); clear hK K
    refine Kr.relistL (l2 := #[true, true, true, true, true, true, true, false, true, true, true, false, false, false, true, false, false, false]) (by kernel_rfl) ?_
    exact nd6_8 y25 bz p18 n18 c18 H
  case pf6_2 =>
    intro Wd2 bx H
    refine Kr.readyL (rs := [3, 13, 14]) (by kernel_rfl) (by simp) ?_
    refine Kr.AllL.cons rfl (fun K hK => ?_) ?_
    · go_simp
      go_at_call 41
      refine (pows1_Pow (z := x ^ u % m) H 4 1 rfl rfl (H.nw 4 rfl) (H.nw 1 rfl) (H.nw 2 rfl) VM.out (Nat.mod_lt _ M0.out) (fun W1 h1 h2 h3 => mPow_ok h1 h2 h3 HX.out HU.out VM.out)).mono ?_
      rintro e y26 ⟨p26, n26, c26, rfl, HH⟩
      replace H := HH
      clear HH
      (refine Kr.outL hK (a' := ?_) ?_ (fun _ => (H.sub [6, 3, 2, 5] rfl)) ?_; rotate_left; (focus ((try simp only [Kr.PT]); first | done | rfl))); clear hK K
      refine Kr.relistL (l2 := #[true, true, true, true, true, true, true, false, true, true, true, false, true, false, false, false, false, false]) (by kernel_rfl) ?_
      exact nd6_6 y26 bx p26 n26 c26 H
    refine Kr.AllL.cons rfl (fun K hK => ?_) ?_
    · go_simp
      obtain ⟨y27, hy⟩ : ∃ y, Wd2.alloc (.cells #[.slice none 0 0] 24) = y := ⟨_, rfl⟩
      obtain ⟨b_y, hb⟩ : ∃ b, Wd2.heap.size = b := ⟨_, rfl⟩
      rw [hy, hb]
      replace H := H.alloc hy hb rfl
      clear hy hb
      (refine Kr.outL hK (a' := ?_) ?_ (fun _ => (H.sub [7, 4, 3, 6] rfl)) ?_; rotate_left; (focus ((try simp only [Kr.PT]); first | done | rfl))); clear hK K
      refine Kr.relistL (l2 := #[true, true, true, false, true, true, true, false, true, true, true, false, true, true, false, false, false, false]) (by kernel_rfl) ?_
      exact nd6_9 y27 b_y bx H
    refine Kr.AllL.cons rfl (fun K hK => ?_) Kr.AllL.nil
    go_simp
    obtain ⟨y28, hy⟩ : ∃ y, Wd2.alloc (.cells #[.slice none 0 0] 24) = y := ⟨_, rfl⟩
    obtain ⟨bz, hb⟩ : ∃ b, Wd2.heap.size = b := ⟨_, rfl⟩
    rw [hy, hb]
    replace H := H.alloc hy hb rfl
    clear hy hb
    (refine Kr.outL hK (a' := ?_) ?_ (fun _ => (H.sub [7, 4, 3, 6] rfl)) ?_; rotate_left; (focus ((try simp only [Kr.PT]); first | done | rfl))); clear hK K
    refine Kr.relistL (l2 := #[true, true, true, false, true, true, true, false, true, true, true, false, true, false, true, false, false, false]) (by kernel_rfl) ?_
    exact nd6_10 y28 bz bx H
  case pf6_3 =>
    intro Wd3 b_y H
    refine Kr.readyL (rs := [3, 12, 14]) (by kernel_rfl) (by simp) ?_
    refine Kr.AllL.cons rfl (fun K hK => ?_) ?_
    · go_simp
      go_at_call 41
      refine (pows1_Pow (z := x ^ u % m) H 4 1 rfl rfl (H.nw 4 rfl) (H.nw 1 rfl) (H.nw 2 rfl) VM.out (Nat.mod_lt _ M0.out) (fun W1 h1 h2 h3 => mPow_ok h1 h2 h3 HX.out HU.out VM.out)).mono ?_
      rintro e y29 ⟨p29, n29, c29, rfl, HH⟩
      replace H := HH
      clear HH
      (refine Kr.outL hK (a' := ?_) ?_ (fun _ => (H.sub [6, 3, 2, 5] rfl)) ?_; rotate_left; (focus ((try simp only [Kr.PT]); first | done | rfl))); clear hK K
      refine Kr.relistL (l2 := #[true, true, true, true, true, true, true, false, true, true, true, false, false, true, false, false, false, false]) (by kernel_rfl) ?_
      exact nd6_7 y29 b_y p29 n29 c29 H
    refine Kr.AllL.cons rfl (fun K hK => ?_) ?_
    · go_simp
      obtain ⟨y30, hy⟩ : ∃ y, Wd3.alloc (.cells #[.slice none 0 0] 24) = y := ⟨_, rfl⟩
      obtain ⟨bx, hb⟩ : ∃ b, Wd3.heap.size = b := ⟨_, rfl⟩
      rw [hy, hb]
      replace H := H.alloc hy hb rfl
      clear hy hb
      (refine Kr.outL hK (a' := ?_) ?_ (fun _ => (H.sub [7, 4, 3, 6] rfl)) ?_; rotate_left; (focus ((try simp only [Kr.PT]); first | done | rfl))); clear hK K
      refine Kr.relistL (l2 := #[true, true, true, false, true, true, true, false, true, true, true, false, true, true, false, false, false, false]) (by kernel_rfl) ?_
      exact nd6_9 y30 b_y bx (H.pickC [1, 0, 2, 3, 4, 5, 6, 7] (by decide) rfl)
    refine Kr.AllL.cons rfl (fun K hK => ?_) Kr.AllL.nil
    go_simp
    obtain ⟨y31, hy⟩ : ∃ y, Wd3.alloc (.cells #[.slice none 0 0] 24) = y := ⟨_, rfl⟩
    obtain ⟨bz, hb⟩ : ∃ b, Wd3.heap.size = b := ⟨_, rfl⟩
    rw [hy, hb]
    replace H := H.alloc hy hb rfl
    clear hy hb
    (refine Kr.outL hK (a' := ?_) ?_ (fun _ => (H.sub [7, 4, 3, 6] rfl)) ?_; rotate_left; (focus ((try simp only [Kr.PT]); first | done | rfl))); clear hK K
    refine Kr.relistL (l2 := #[true, true, true, false, true, true, true, false, true, true, true, false, false, true, true, false, false, false]) (by kernel_rfl) ?_
    exact nd6_11 y31 bz b_y H
  case pf6_4 =>
    intro Wd4 bz H
    refine Kr.readyL (rs := [3, 12, 13]) (by kernel_rfl) (by simp) ?_
    refine Kr.AllL.cons rfl (fun K hK => ?_) ?_
    · go_simp
      go_at_call 41
      refine (pows1_Pow (z := x ^ u % m) H 4 1 rfl rfl (H.nw 4 rfl) (H.nw 1 rfl) (H.nw 2 rfl) VM.out (Nat.mod_lt _ M0.out) (fun W1 h1 h2 h3 => mPow_ok h1 h2 h3 HX.out HU.out VM.out)).mono ?_
      rintro e y32 ⟨p32, n32, c32, rfl, HH⟩
      replace H := HH
      clear HH
      (refine Kr.outL hK (a' := ?_) ?_ (fun _ => (H.sub [6, 3, 2, 5] rfl)) ?_; rotate_left; (focus ((try simp only [Kr.PT]); first | done | rfl))); clear hK K
      refine Kr.relistL (l2 := #[true, true, true, true, true, true, true, false, true, true, true, false, false, false, true, false, false, false]) (by kernel_rfl) ?_
      exact nd6_8 y32 bz p32 n32 c32 H
    refine Kr.AllL.cons rfl (fun K hK => ?_) ?_
    · go_simp
      obtain ⟨y33, hy⟩ : ∃ y, Wd4.alloc (.cells #[.slice none 0 0] 24) = y := ⟨_, rfl⟩
      obtain ⟨bx, hb⟩ : ∃ b, Wd4.heap.size = b := ⟨_, rfl⟩
      rw [hy, hb]
      replace H := H.alloc hy hb rfl
      clear hy hb
      (refine Kr.outL hK (a' := ?_) ?_ (fun _ => (H.sub [7, 4, 3, 6] rfl)) ?_; rotate_left; (focus ((try simp only [Kr.PT]); first | done | rfl))); clear hK K
      refine Kr.relistL (l2 := #[true, true, true, false, true, true, true, false, true, true, true, false, true, false, true, false, false, false]) (by kernel_rfl) ?_
      exact nd6_10 y33 bz bx (H.pickC [1, 0, 2, 3, 4, 5, 6, 7] (by decide) rfl)
    refine Kr.AllL.cons rfl (fun K hK => ?_) Kr.AllL.nil
    go_simp
    obtain ⟨y34, hy⟩ : ∃ y, Wd4.alloc (.cells #[.slice none 0 0] 24) = y := ⟨_, rfl⟩
    obtain ⟨b_y, hb⟩ : ∃ b, Wd4.heap.size = b := ⟨_, rfl⟩
    rw [hy, hb]
    replace H := H.alloc hy hb rfl
    clear hy hb
    (refine Kr.outL hK (a' := ?_) ?_ (fun _ => (H.sub [7, 4, 3, 6] rfl)) ?_; rotate_left; (focus ((try simp only [Kr.PT]); first | done | rfl))); clear hK K
    refine Kr.relistL (l2 := #[true, true, true, false, true, true, true, false, true, true, true, false, false, true, true, false, false, false]) (by kernel_rfl) ?_
    exact nd6_11 y34 bz b_y (H.pickC [1, 0, 2, 3, 4, 5, 6, 7] (by decide) rfl)
  case pf6_5 =>
    intro Wd5 p18 n18 c18 p22 n22 c22 H
    refine Kr.readyL (rs := [11, 12, 13, 14]) (by kernel_rfl) (by simp) ?_
    refine Kr.AllL.cons rfl (fun K hK => ?_) ?_
    · go_simp
      go_at_call 41
      refine (pows1_Pow (z := y ^ u % m) H 3 0 rfl rfl (H.nw 5 rfl) (H.nw 3 rfl) (H.nw 4 rfl) VM.out (Nat.mod_lt _ M0.out) (fun W1 h1 h2 h3 => mPow_ok h1 h2 h3 HY.out HU.out VM.out)).mono ?_
      rintro e y35 ⟨p35, n35, c35, rfl, HH⟩
      replace H := HH
      clear HH
      (refine Kr.outL hK (a' := ?_) ?_ (fun _ => (H.sub [5, 2, 1, 4] rfl)) ?_; rotate_left; (focus ((try simp only [Kr.PT]); first | done | rfl))); clear hK K
      refine Kr.relistL (l2 := #[true, true, true, true, true, true, true, true, true, true, true, true, false, false, false, false, false, false]) (by kernel_rfl) ?_
      exact nd6_12 y35 p18 n18 c18 p22 n22 c22 p35 n35 c35 H
    refine Kr.AllL.cons rfl (fun K hK => ?_) ?_
    · go_simp
      obtain ⟨y36, hy⟩ : ∃ y, Wd5.alloc (.cells #[.slice none 0 0] 24) = y := ⟨_, rfl⟩
      obtain ⟨bx, hb⟩ : ∃ b, Wd5.heap.size = b := ⟨_, rfl⟩
      rw [hy, hb]
      replace H := H.alloc hy hb rfl
      clear hy hb
      (refine Kr.outL hK (a' := ?_) ?_ (fun _ => (H.sub [6, 3, 2, 5] rfl)) ?_; rotate_left; (focus ((try simp only [Kr.PT]); first | done | rfl))); clear hK K
      refine Kr.relistL (l2 := #[true, true, true, true, true, true, true, true, true, true, true, false, true, false, false, false, false, false]) (by kernel_rfl) ?_
      exact nd6_13 y36 bx p18 n18 c18 p22 n22 c22 H
    refine Kr.AllL.cons rfl (fun K hK => ?_) ?_
    · go_simp
      obtain ⟨y37, hy⟩ : ∃ y, Wd5.alloc (.cells #[.slice none 0 0] 24) = y := ⟨_, rfl⟩
      obtain ⟨b_y, hb⟩ : ∃ b, Wd5.heap.size = b := ⟨_, rfl⟩
      rw [hy, hb]
      replace H := H.alloc hy hb rfl
      clear hy hb
      (refine Kr.outL hK (a' := ?_) ?_ (fun _ => (H.sub [6, 3, 2, 5] rfl)) ?_; rotate_left; (focus ((try simp only [Kr.PT]); first | done | rfl))); clear hK K
      refine Kr.relistL (l2 := #[true, true, true, true, true, true, true, true, true, true, true, false, false, true, false, false, false, false]) (by kernel_rfl) ?_
      exact nd6_14 y37 b_y p18 n18 c18 p22 n22 c22 H
    refine Kr.AllL.cons rfl (fun K hK => ?_) Kr.AllL.nil
    go_simp
    obtain ⟨y38, hy⟩ : ∃ y, Wd5.alloc (.cells #[.slice none 0 0] 24) = y := ⟨_, rfl⟩
    obtain ⟨bz, hb⟩ : ∃ b, Wd5.heap.size = b := ⟨_, rfl⟩
    rw [hy, hb]
    replace H := H.alloc hy hb rfl
    clear hy hb
    (refine Kr.outL hK (a' := ?_) ?_ (fun _ => (H.sub [6, 3, 2, 5] rfl)) ?_; rotate_left; (focus ((try simp only [Kr.PT]); first | done | rfl))); clear hK K
    refine Kr.relistL (l2 := #[true, true, true, true, true, true, true, true, true, true, true, false, false, false, true, false, false, false]) (by kernel_rfl) ?_
    exact nd6_15 y38 bz p18 n18 c18 p22 n22 c22 H
  case pf6_6 =>
    intro Wd6 bx p18 n18 c18 H
    refine Kr.readyL (rs := [7, 13, 14]) (by kernel_rfl) (by simp) ?_
    refine Kr.AllL.cons rfl (fun K hK => ?_) ?_
    · go_simp
      go_at_call 41
      refine (pows1_Pow (z := x ^ v % m) H 4 1 rfl rfl (H.nw 5 rfl) (H.nw 1 rfl) (H.nw 3 rfl) VM.out (Nat.mod_lt _ M0.out) (fun W1 h1 h2 h3 => mPow_ok h1 h2 h3 HX.out HV.out VM.out)).mono ?_
      rintro e y39 ⟨p39, n39, c39, rfl, HH⟩
      replace H := HH
      clear HH
      (refine Kr.outL hK (a' := ?_) ?_ (fun _ => (H.sub [6, 3, 2, 5] rfl)) ?_; rotate_left; (focus ((try simp only [Kr.PT]); first | done | rfl))); clear hK K
      refine Kr.relistL (l2 := #[true, true, true, true, true, true, true, true, true, true, true, false, true, false, false, false, false, false]) (by kernel_rfl) ?_
      exact nd6_13 y39 bx p18 n18 c18 p39 n39 c39 H
    refine Kr.AllL.cons rfl (fun K hK => ?_) ?_
    · go_simp
      obtain ⟨y40, hy⟩ : ∃ y, Wd6.alloc (.cells #[.slice none 0 0] 24) = y := ⟨_, rfl⟩
      obtain ⟨b_y, hb⟩ : ∃ b, Wd6.heap.size = b := ⟨_, rfl⟩
      rw [hy, hb]
      replace H := H.alloc hy hb rfl
      clear hy hb
      (refine Kr.outL hK (a' := ?_) ?_ (fun _ => (H.sub [7, 4, 3, 6] rfl)) ?_; rotate_left; (focus ((try simp only [Kr.PT]); first | done | rfl))); clear hK K
      refine Kr.relistL (l2 := #[true, true, true, true, true, true, true, false, true, true, true, false, true, true, false, false, false, false]) (by kernel_rfl) ?_
      exact nd6_16 y40 b_y bx p18 n18 c18 H
    refine Kr.AllL.cons rfl (fun K hK => ?_) Kr.AllL.nil
    go_simp
    obtain ⟨y41, hy⟩ : ∃ y, Wd6.alloc (.cells #[.slice none 0 0] 24) = y := ⟨_, rfl⟩
    obtain ⟨bz, hb⟩ : ∃ b, Wd6.heap.size = b := ⟨_, rfl⟩
    rw [hy, hb]
    replace H := H.alloc hy hb rfl
    clear hy hb
    (refine Kr.outL hK (a' := ?_) ?_ (fun _ => (H.sub [7, 4, 3, 6] rfl)) ?_; rotate_left; (focus ((try simp only [Kr.PT]); first | done | rfl))); clear hK K
    refine Kr.relistL (l2 := #[true, true, true, true, true, true, true, false, true, true, true, false, true, false, true, false, false, false]) (by kernel_rfl) ?_
    exact nd6_17 y41 bz bx p18 n18 c18 H
  case pf6_7 =>
    intro Wd7 b_y p18 n18 c18 H
    refine Kr.readyL (rs := [7, 12, 14]) (by kernel_rfl) (by simp) ?_
    refine Kr.AllL.cons rfl (fun K hK => ?_) ?_
    · go_simp
      go_at_call 41
      refine (pows1_Pow (z := x ^ v % m) H 4 1 rfl rfl (H.nw 5 rfl) (H.nw 1 rfl) (H.nw 3 rfl) VM.out (Nat.mod_lt _ M0.out) (fun W1 h1 h2 h3 => mPow_ok h1 h2 h3 HX.out HV.out VM.out)).mono ?_
      rintro e y42 ⟨p42, n42, c42, rfl, HH⟩
      replace H := HH
      clear HH
      (refine Kr.outL hK (a' := ?_) ?_ (fun _ => (H.sub [6, 3, 2, 5] rfl)) ?_; rotate_left; (focus ((try simp only [Kr.PT]); first | done | rfl))); clear hK K
      refine Kr.relistL (l2 := #[true, true, true, true, true, true, true, true, true, true, true, false, false, true, false, false, false, false]) (by kernel_rfl) ?_
      exact nd6_14 y42 b_y p18 n18 c18 p42 n42 c42 H
    refine Kr.AllL.cons rfl (fun K hK => ?_) ?_
    · go_simp
      obtain ⟨y43, hy⟩ : ∃ y, Wd7.alloc (.cells #[.slice none 0 0] 24) = y := ⟨_, rfl⟩
      obtain ⟨bx, hb⟩ : ∃ b, Wd7.heap.size = b := ⟨_, rfl⟩
      rw [hy, hb]
      replace H := H.alloc hy hb rfl
      clear hy hb
      (refine Kr.outL hK (a' := ?_) ?_ (fun _ => (H.sub [7, 4, 3, 6] rfl)) ?_; rotate_left; (focus ((try simp only [Kr.PT]); first | done | rfl))); clear hK K
      refine Kr.relistL (l2 := #[true, true, true, true, true, true, true, false, true, true, true, false, true, true, false, false, false, false]) (by kernel_rfl) ?_
      exact nd6_16 y43 b_y bx p18 n18 c18 (H.pickC [1, 0, 2, 3, 4, 5, 6, 7] (by decide) rfl)
    refine Kr.AllL.cons rfl (fun K hK => ?_) Kr.AllL.nil
    go_simp
    obtain ⟨y44, hy⟩ : ∃ y, Wd7.alloc (.cells #[.slice none 0 0] 24) = y := ⟨_, rfl⟩
    obtain ⟨bz, hb⟩ : ∃ b, Wd7.heap.size = b := ⟨_, rfl⟩
    rw [hy, hb]
    replace H := H.alloc hy hb rfl
    clear hy hb
    (refine Kr.outL hK (a' := ?_) ?_ (fun _ => (H.sub [7, 4, 3, 6] rfl)) ?_; rotate_left; (focus ((try simp only [Kr.PT]); first | done | rfl))); clear hK K
    refine Kr.relistL (l2 := #[true, true, true, true, true, true, true, false, true, true, true, false, false, true, true, false, false, false]) (by kernel_rfl) ?_
    exact nd6_18 y44 bz b_y p18 n18 c18 H
  case pf6_8 =>
    intro Wd8 bz p18 n18 c18 H
    refine Kr.readyL (rs := [7, 12, 13]) (by kernel_rfl) (by simp) ?_
    refine Kr.AllL.cons rfl (fun K hK => ?_) ?_
    · go_simp
      go_at_call 41
      refine (pows1_Pow (z := x ^ v % m) H 4 1 rfl rfl (H.nw 5 rfl) (H.nw 1 rfl) (H.nw 3 rfl) VM.out (Nat.mod_lt _ M0.out) (fun W1 h1 h2 h3 => mPow_ok h1 h2 h3 HX.out HV.out VM.out)).mono ?_
      rintro e y45 ⟨p45, n45, c45, rfl, HH⟩
      replace H := HH
      clear HH
      (refine Kr.outL hK (a' := ?_) ?_ (fun _ => (H.sub [6, 3, 2, 5] rfl)) ?_; rotate_left; (focus ((try simp only [Kr.PT]); first | done | rfl))); clear hK K
      refine Kr.relistL (l2 := #[true, true, true, true, true, true, true, true, true, true, true, false, false, false, true, false, false, false]) (by kernel_rfl) ?_
      exact nd6_15 y45 bz p18 n18 c18 p45 n45 c45 H
    refine Kr.AllL.cons rfl (fun K hK => ?_) ?_
    · go_simp
      obtain ⟨y46, hy⟩ : ∃ y, Wd8.alloc (.cells #[.slice none 0 0] 24) = y := ⟨_, rfl⟩
      obtain ⟨bx, hb⟩ : ∃ b, Wd8.heap.size = b := ⟨_, rfl⟩
      rw [hy, hb]
      replace H := H.alloc hy hb rfl
      clear hy hb
      (refine Kr.outL hK (a' := ?_) ?_ (fun _ => (H.sub [7, 4, 3, 6] rfl)) ?_; rotate_left; (focus ((try simp only [Kr.PT]); first | done | rfl))); clear hK K
      refine Kr.relistL (l2 := #[true, true, true, true, true, true, true, false, true, true, true, false, true, false, true, false, false, false]) (by kernel_rfl) ?_
      exact nd6_17 y46 bz bx p18 n18 c18 (H.pickC [1, 0, 2, 3, 4, 5, 6, 7] (by decide) rfl)
    refine Kr.AllL.cons rfl (fun K hK => ?_) Kr.AllL.nil
    go_simp
    obtain ⟨y47, hy⟩ : ∃ y, Wd8.alloc (.cells #[.slice none 0 0] 24) = y := ⟨_, rfl⟩
    obtain ⟨b_y, hb⟩ : ∃ b, Wd8.heap.size = b := ⟨_, rfl⟩
    rw [hy, hb]
    replace H := H.alloc hy hb rfl
    clear hy hb
    (refine Kr.outL hK (a' := ?_) ?_ (fun _ => (H.sub [7, 4, 3, 6] rfl)) ?_; rotate_left; (focus ((try simp only [Kr.PT]); first | done | rfl))); clear hK K
    refine Kr.relistL (l2 := #[true, true, true, true, true, true, true, false, true, true, true, false, false, true, true, false, false, false]) (by kernel_rfl) ?_
    exact nd6_18 y47 bz b_y p18 n18 c18 (H.pickC [1, 0, 2, 3, 4, 5, 6, 7] (by decide) rfl)
  case pf6_9 =>
    intro Wd9 b_y bx H
    refine Kr.readyL (rs := [3, 14]) (by kernel_rfl) (by simp) ?_
    refine Kr.AllL.cons rfl (fun K hK => ?_) ?_
    · go_simp
      go_at_call 41
      refine (pows1_Pow (z := x ^ u % m) H 5 2 rfl rfl (H.nw 4 rfl) (H.nw 1 rfl) (H.nw 2 rfl) VM.out (Nat.mod_lt _ M0.out) (fun W1 h1 h2 h3 => mPow_ok h1 h2 h3 HX.out HU.out VM.out)).mono ?_
      rintro e y48 ⟨p48, n48, c48, rfl, HH⟩
      replace H := HH
      clear HH
      (refine Kr.outL hK (a' := ?_) ?_ (fun _ => (H.sub [7, 4, 3, 6] rfl)) ?_; rotate_left; (focus ((try simp only [Kr.PT]); first | done | rfl))); clear hK K
      refine Kr.relistL (l2 := #[true, true, true, true, true, true, true, false, true, true, true, false, true, true, false, false, false, false]) (by kernel_rfl) ?_
      exact nd6_16 y48 b_y bx p48 n48 c48 H
    refine Kr.AllL.cons rfl (fun K hK => ?_) Kr.AllL.nil
    go_simp
    obtain ⟨y49, hy⟩ : ∃ y, Wd9.alloc (.cells #[.slice none 0 0] 24) = y := ⟨_, rfl⟩
    obtain ⟨bz, hb⟩ : ∃ b, Wd9.heap.size = b := ⟨_, rfl⟩
    rw [hy, hb]
    replace H := H.alloc hy hb rfl
    clear hy hb
    (refine Kr.outL hK (a' := ?_) ?_ (fun _ => (H.sub [8, 5, 4, 7] rfl)) ?_; rotate_left; (focus ((try simp only [Kr.PT]); first | done | rfl))); clear hK K
    refine Kr.relistL (l2 := #[true, true, true, false, true, true, true, false, true, true, true, false, true, true, true, false, false, false]) (by kernel_rfl) ?_
    exact nd6_19 y49 bz b_y bx H
  case pf6_10 =>
    intro Wd10 bz bx H
    refine Kr.readyL (rs := [3, 13]) (by kernel_rfl) (by simp) ?_
    refine Kr.AllL.cons rfl (fun K hK => ?_) ?_
    · go_simp
      go_at_call 41
      refine (pows1_Pow (z := x ^ u % m) H 5 2 rfl rfl (H.nw 4 rfl) (H.nw 1 rfl) (H.nw 2 rfl) VM.out (Nat.mod_lt _ M0.out) (fun W1 h1 h2 h3 => mPow_ok h1 h2 h3 HX.out HU.out VM.out)).mono ?_
      rintro e y50 ⟨p50, n50, c50, rfl, HH⟩
      replace H := HH
      clear HH
      (refine Kr.outL hK (a' := ?_) ?_ (fun _ => (H.sub [7, 4, 3, 6] rfl)) ?_; rotate_left; (focus ((try simp only [Kr.PT]); first | done | rfl))); clear hK K
      refine Kr.relistL (l2 := #[true, true, true, true, true, true, true, false, true, true, true, false, true, false, true, false, false, false]) (by kernel_rfl) ?_
      exact nd6_17 y50 bz bx p50 n50 c50 H
    refine Kr.AllL.cons rfl (fun K hK => ?_) Kr.AllL.nil
    go_simp
    obtain ⟨y51, hy⟩ : ∃ y, Wd10.alloc (.cells #[.slice none 0 0] 24) = y := ⟨_, rfl⟩
    obtain ⟨b_y, hb⟩ : ∃ b, Wd10.heap.size = b := ⟨_, rfl⟩
    rw [hy, hb]
    replace H := H.alloc hy hb rfl
    clear hy hb
    (refine Kr.outL hK (a' := ?_) ?_ (fun _ => (H.sub [8, 5, 4, 7] rfl)) ?_; rotate_left; (focus ((try simp only [Kr.PT]); first | done | rfl))); clear hK K
    refine Kr.relistL (l2 := #[true, true, true, false, true, true, true, false, true, true, true, false, true, true, true, false, false, false]) (by kernel_rfl) ?_
    exact nd6_19 y51 bz b_y bx (H.pickC [1, 0, 2, 3, 4, 5, 6, 7, 8] (by decide) rfl)
  case pf6_11 =>
    intro Wd11 bz b_y H
    refine Kr.readyL (rs := [3, 12]) (by kernel_rfl) (by simp) ?_
    refine Kr.AllL.cons rfl (fun K hK => ?_) ?_
    · go_simp
      go_at_call 41
      refine (pows1_Pow (z := x ^ u % m) H 5 2 rfl rfl (H.nw 4 rfl) (H.nw 1 rfl) (H.nw 2 rfl) VM.out (Nat.mod_lt _ M0.out) (fun W1 h1 h2 h3 => mPow_ok h1 h2 h3 HX.out HU.out VM.out)).mono ?_
      rintro e y52 ⟨p52, n52, c52, rfl, HH⟩
      replace H := HH
      clear HH
      (refine Kr.outL hK (a' := ?_) ?_ (fun _ => (H.sub [7, 4, 3, 6] rfl)) ?_; rotate_left; (focus ((try simp only [Kr.PT]); first | done | rfl))); clear hK K
      refine Kr.relistL (l2 := #[true, true, true, true, true, true, true, false, true, true, true, false, false, true, true, false, false, false]) (by kernel_rfl) ?_
      exact nd6_18 y52 bz b_y p52 n52 c52 H
    refine Kr.AllL.cons rfl (fun K hK => ?_) Kr.AllL.nil
    go_simp
    obtain ⟨y53, hy⟩ : ∃ y, Wd11.alloc (.cells #[.slice none 0 0] 24) = y := ⟨_, rfl⟩
    obtain ⟨bx, hb⟩ : ∃ b, Wd11.heap.size = b := ⟨_, rfl⟩
    rw [hy, hb]
    replace H := H.alloc hy hb rfl
    clear hy hb
    (refine Kr.outL hK (a' := ?_) ?_ (fun _ => (H.sub [8, 5, 4, 7] rfl)) ?_; rotate_left; (focus ((try simp only [Kr.PT]); first | done | rfl))); clear hK K
    refine Kr.relistL (l2 := #[true, true, true, false, true, true, true, false, true, true, true, false, true, true, true, false, false, false]) (by kernel_rfl) ?_
    exact nd6_19 y53 bz b_y bx (H.pickC [1, 2, 0, 3, 4, 5, 6, 7, 8] (by decide) rfl)
  case pf6_12 =>
    intro Wd12 p18 n18 c18 p22 n22 c22 p35 n35 c35 H
    refine Kr.readyL (rs := [12, 13, 14]) (by kernel_rfl) (by simp) ?_
    refine Kr.AllL.cons rfl (fun K hK => ?_) ?_
    · go_simp
      obtain ⟨y54, hy⟩ : ∃ y, Wd12.alloc (.cells #[.slice none 0 0] 24) = y := ⟨_, rfl⟩
      obtain ⟨bx, hb⟩ : ∃ b, Wd12.heap.size = b := ⟨_, rfl⟩
      rw [hy, hb]
      replace H := H.alloc hy hb rfl
      clear hy hb
      (refine Kr.outL hK (a' := ?_) ?_ (fun _ => (H.sub [6, 3, 2, 5] rfl)) ?_; rotate_left; (focus ((try simp only [Kr.PT]); first | done | rfl))); clear hK K
      refine Kr.relistL (l2 := #[true, true, true, true, true, true, true, true, true, true, true, true, true, false, false, false, false, false]) (by kernel_rfl) ?_
      exact nd6_20 y54 bx p18 n18 c18 p22 n22 c22 p35 n35 c35 H
    refine Kr.AllL.cons rfl (fun K hK => ?_) ?_
    · go_simp
      obtain ⟨y55, hy⟩ : ∃ y, Wd12.alloc (.cells #[.slice none 0 0] 24) = y := ⟨_, rfl⟩
      obtain ⟨b_y, hb⟩ : ∃ b, Wd12.heap.size = b := ⟨_, rfl⟩
      rw [hy, hb]
      replace H := H.alloc hy hb rfl
      clear hy hb
      (refine Kr.outL hK (a' := ?_) ?_ (fun _ => (H.sub [6, 3, 2, 5] rfl)) ?_; rotate_left; (focus ((try simp only [Kr.PT]); first | done | rfl))); clear hK K
      refine Kr.relistL (l2 := #[true, true, true, true, true, true, true, true, true, true, true, true, false, true, false, false, false, false]) (by kernel_rfl) ?_
      exact nd6_21 y55 b_y p18 n18 c18 p22 n22 c22 p35 n35 c35 H
    refine Kr.AllL.cons rfl (fun K hK => ?_) Kr.AllL.nil
    go_simp
    obtain ⟨y56, hy⟩ : ∃ y, Wd12.alloc (.cells #[.slice none 0 0] 24) = y := ⟨_, rfl⟩
    obtain ⟨bz, hb⟩ : ∃ b, Wd12.heap.size = b := ⟨_, rfl⟩
    rw [hy, hb]
    replace H := H.alloc hy hb rfl
    clear hy hb
    (refine Kr.outL hK (a' := ?_) ?_ (fun _ => (H.sub [6, 3, 2, 5] rfl)) ?_; rotate_left; (focus ((try simp only [Kr.PT]); first | done | rfl))); clear hK K
    refine Kr.relistL (l2 := #[true, true, true, true, true, true, true, true, true, true, true, true, false, false, true, false, false, false]) (by kernel_rfl) ?_
    exact nd6_22 y56 bz p18 n18 c18 p22 n22 c22 p35 n35 c35 H
  case pf6_13 =>
    intro Wd13 bx p18 n18 c18 p22 n22 c22 H
    refine Kr.readyL (rs := [11, 13, 14]) (by kernel_rfl) (by simp) ?_
    refine Kr.AllL.cons rfl (fun K hK => ?_) ?_
    · go_simp
      go_at_call 41
      refine (pows1_Pow (z := y ^ u % m) H 4 1 rfl rfl (H.nw 5 rfl) (H.nw 3 rfl) (H.nw 4 rfl) VM.out (Nat.mod_lt _ M0.out) (fun W1 h1 h2 h3 => mPow_ok h1 h2 h3 HY.out HU.out VM.out)).mono ?_
      rintro e y57 ⟨p57, n57, c57, rfl, HH⟩
      replace H := HH
      clear HH
      (refine Kr.outL hK (a' := ?_) ?_ (fun _ => (H.sub [6, 3, 2, 5] rfl)) ?_; rotate_left; (focus ((try simp only [Kr.PT]); first | done | rfl))); clear hK K
      refine Kr.relistL (l2 := #[true, true, true, true, true, true, true, true, true, true, true, true, true, false, false, false, false, false]) (by kernel_rfl) ?_
      exact nd6_20 y57 bx p18 n18 c18 p22 n22 c22 p57 n57 c57 H
    refine Kr.AllL.cons rfl (fun K hK => ?_) ?_
    · go_simp
      obtain ⟨y58, hy⟩ : ∃ y, Wd13.alloc (.cells #[.slice none 0 0] 24) = y := ⟨_, rfl⟩
      obtain ⟨b_y, hb⟩ : ∃ b, Wd13.heap.size = b := ⟨_, rfl⟩
      rw [hy, hb]
      replace H := H.alloc hy hb rfl
      clear hy hb
      (refine Kr.outL hK (a' := ?_) ?_ (fun _ => (H.sub [7, 4, 3, 6] rfl)) ?_; rotate_left; (focus ((try simp only [Kr.PT]); first | done | rfl))); clear hK K
      refine Kr.relistL (l2 := #[true, true, true, true, true, true, true, true, true, true, true, false, true, true, false, false, false, false]) (by kernel_rfl) ?_
      exact nd6_23 y58 b_y bx p18 n18 c18 p22 n22 c22 H
    refine Kr.AllL.cons rfl (fun K hK => ?_) Kr.AllL.nil
    go_simp
    obtain ⟨y59, hy⟩ : ∃ y, Wd13.alloc (.cells #[.slice none 0 0] 24) = y := ⟨_, rfl⟩
    obtain ⟨bz, hb⟩ : ∃ b, Wd13.heap.size = b := ⟨_, rfl⟩
    rw [hy, hb]
    replace H := H.alloc hy hb rfl
    clear hy hb
    (refine Kr.outL hK (a' := ?_) ?_ (fun _ => (H.sub [7, 4, 3, 6] rfl)) ?_; rotate_left; (focus ((try simp only [Kr.PT]); first | done | rfl))); clear hK K
    refine Kr.relistL (l2 := #[true, true, true, true, true, true, true, true, true, true, true, false, true, false, true, false, false, false]) (by kernel_rfl) ?_
    exact nd6_24 y59 bz bx p18 n18 c18 p22 n22 c22 H
  case pf6_14 =>
    intro Wd14 b_y p18 n18 c18 p22 n22 c22 H
    refine Kr.readyL (rs := [11, 12, 14]) (by kernel_rfl) (by simp) ?_
    refine Kr.AllL.cons rfl (fun K hK => ?_) ?_
    · go_simp
      go_at_call 41
      refine (pows1_Pow (z := y ^ u % m) H 4 1 rfl rfl (H.nw 5 rfl) (H.nw 3 rfl) (H.nw 4 rfl) VM.out (Nat.mod_lt _ M0.out) (fun W1 h1 h2 h3 => mPow_ok h1 h2 h3 HY.out HU.out VM.out)).mono ?_
      rintro e y60 ⟨p60, n60, c60, rfl, HH⟩
      replace H := HH
      clear HH
      (refine Kr.outL hK (a' := ?_) ?_ (fun _ => (H.sub [6, 3, 2, 5] rfl)) ?_; rotate_left; (focus ((try simp only [Kr.PT]); first | done | rfl))); clear hK K
      refine Kr.relistL (l2 := #[true, true, true, true, true, true, true, true, true, true, true, true, false, true, false, false, false, false]) (by kernel_rfl) ?_
      exact nd6_21 y60 b_y p18 n18 c18 p22 n22 c22 p60 n60 c60 H
    refine Kr.AllL.cons rfl (fun K hK => ?_) ?_
    · go_simp
      obtain ⟨y61, hy⟩ : ∃ y, Wd14.alloc (.cells #[.slice none 0 0] 24) = y := ⟨_, rfl⟩
      obtain ⟨bx, hb⟩ : ∃ b, Wd14.heap.size = b := ⟨_, rfl⟩
      rw [hy, hb]
      replace H := H.alloc hy hb rfl
      clear hy hb
      (refine Kr.outL hK (a' := ?_) ?_ (fun _ => (H.sub [7, 4, 3, 6] rfl)) ?_; rotate_left; (focus ((try simp only [Kr.PT]); first | done | rfl))); clear hK K
      refine Kr.relistL (l2 := #[true, true, true, true, true, true, true, true, true, true, true, false, true, true, false, false, false, false]) (by kernel_rfl) ?_
      exact nd6_23 y61 b_y bx p18 n18 c18 p22 n22 c22 (H.pickC [1, 0, 2, 3, 4, 5, 6, 7] (by decide) rfl)
    refine Kr.AllL.cons rfl (fun K hK => ?_) Kr.AllL.nil
    go_simp
    obtain ⟨y62, hy⟩ : ∃ y, Wd14.alloc (.cells #[.slice none 0 0] 24) = y := ⟨_, rfl⟩
    obtain ⟨bz, hb⟩ : ∃ b, Wd14.heap.size = b := ⟨_, rfl⟩
    rw [hy, hb]
    replace H := H.alloc hy hb rfl
    clear hy hb
    (refine Kr.outL hK (a' := ?_) ?_ (fun _ => (H.sub [7, 4, 3, 6] rfl)) ?_; rotate_left; (focus ((try simp only [Kr.PT]); first | done | rfl))); clear hK K
    refine Kr.relistL (l2 := #[true, true, true, true, true, true, true, true, true, true, true, false, false, true, true, false, false, false]) (by kernel_rfl) ?_
    exact nd6_25 y62 bz b_y p18 n18 c18 p22 n22 c22 H
  case pf6_15 =>
    intro Wd15 bz p18 n18 c18 p22 n22 c22 H
    refine Kr.readyL (rs := [11, 12, 13]) (by kernel_rfl) (by simp) ?_
    refine Kr.AllL.cons rfl (fun K hK => ?_) ?_
    · go_simp
      go_at_call 41
      refine (pows1_Pow (z := y ^ u % m) H 4 1 rfl rfl (H.nw 5 rfl) (H.nw 3 rfl) (H.nw 4 rfl) VM.out (Nat.mod_lt _ M0.out) (fun W1 h1 h2 h3 => mPow_ok h1 h2 h3 HY.out HU.out VM.out)).mono ?_
      rintro e y63 ⟨p63, n63, c63, rfl, HH⟩
      replace H := HH
      clear HH
      (refine Kr.outL hK (a' := ?_) ?_ (fun _ => (H.sub [6, 3, 2, 5] rfl)) ?_; rotate_left; (focus ((try simp only [Kr.PT]); first | done | rfl))); clear hK K
      refine Kr.relistL (l2 := #[true, true, true, true, true, true, true, true, true, true, true, true, false, false, true, false, false, false]) (by kernel_rfl) ?_
      exact nd6_22 y63 bz p18 n18 c18 p22 n22 c22 p63 n63 c63 H
    refine Kr.AllL.cons rfl (fun K hK => ?_) ?_
    · go_simp
      obtain ⟨y64, hy⟩ : ∃ y, Wd15.alloc (.cells #[.slice none 0 0] 24) = y := ⟨_, rfl⟩
      obtain ⟨bx, hb⟩ : ∃ b, Wd15.heap.size = b := ⟨_, rfl⟩
      rw [hy, hb]
      replace H := H.alloc hy hb rfl
      clear hy hb
      (refine Kr.outL hK (a' := ?_) ?_ (fun _ => (H.sub [7, 4, 3, 6] rfl)) ?_; rotate_left; (focus ((try simp only [Kr.PT]); first | done | rfl))); clear hK K
      refine Kr.relistL (l2 := #[true, true, true, true, true, true, true, true, true, true, true, false, true, false, true, false, false, false]) (by kernel_rfl) ?_
      exact nd6_24 y64 bz bx p18 n18 c18 p22 n22 c22 (H.pickC [1, 0, 2, 3, 4, 5, 6, 7] (by decide) rfl)
    refine Kr.AllL.cons rfl (fun K hK => ?_) Kr.AllL.nil
    go_simp
    obtain ⟨y65, hy⟩ : ∃ y, Wd15.alloc (.cells #[.slice none 0 0] 24) = y := ⟨_, rfl⟩
    obtain ⟨b_y, hb⟩ : ∃ b, Wd15.heap.size = b := ⟨_, rfl⟩
    rw [hy, hb]
    replace H := H.alloc hy hb rfl
    clear hy hb
    (refine Kr.outL hK (a' := ?_) ?_ (fun _ => (H.sub [7, 4, 3, 6] rfl)) ?_; rotate_left; (focus ((try simp only [Kr.PT]); first | done | rfl))); clear hK K
    refine Kr.relistL (l2 := #[true, true, true, true, true, true, true, true, true, true, true, false, false, true, true, false, false, false]) (by kernel_rfl) ?_
    exact nd6_25 y65 bz b_y p18 n18 c18 p22 n22 c22 (H.pickC [1, 0, 2, 3, 4, 5, 6, 7] (by decide) rfl)
  case pf6_16 =>
    intro Wd16 b_y bx p18 n18 c18 H
    refine Kr.readyL (rs := [7, 14]) (by kernel_rfl) (by simp) ?_
    refine Kr.AllL.cons rfl (fun K hK => ?_) ?_
    · go_simp
      go_at_call 41
      refine (pows1_Pow (z := x ^ v % m) H 5 2 rfl rfl (H.nw 5 rfl) (H.nw 1 rfl) (H.nw 3 rfl) VM.out (Nat.mod_lt _ M0.out) (fun W1 h1 h2 h3 => mPow_ok h1 h2 h3 HX.out HV.out VM.out)).mono ?_
      rintro e y66 ⟨p66, n66, c66, rfl, HH⟩
      replace H := HH
      clear HH
      (refine Kr.outL hK (a' := ?_) ?_ (fun _ => (H.sub [7, 4, 3, 6] rfl)) ?_; rotate_left; (focus ((try simp only [Kr.PT]); first | done | rfl))); clear hK K
      refine Kr.relistL (l2 := #[true, true, true, true, true, true, true, true, true, true, true, false, true, true, false, false, false, false]) (by kernel_rfl) ?_
      exact nd6_23 y66 b_y bx p18 n18 c18 p66 n66 c66 H
    refine Kr.AllL.cons rfl (fun K hK => ?_) Kr.AllL.nil
    go_simp
    obtain ⟨y67, hy⟩ : ∃ y, Wd16.alloc (.cells #[.slice none 0 0] 24) = y := ⟨_, rfl⟩
    obtain ⟨bz, hb⟩ : ∃ b, Wd16.heap.size = b := ⟨_, rfl⟩
    rw [hy, hb]
    replace H := H.alloc hy hb rfl
    clear hy hb
    (refine Kr.outL hK (a' := ?_) ?_ (fun _ => (H.sub [8, 5, 4, 7] rfl)) ?_; rotate_left; (focus ((try simp only [Kr.PT]); first | done | rfl))); clear hK K
    refine Kr.relistL (l2 := #[true, true, true, true, true, true, true, false, true, true, true, false, true, true, true, false, false, false]) (by kernel_rfl) ?_
    exact nd6_26 y67 bz b_y bx p18 n18 c18 H
  case pf6_17 =>
    intro Wd17 bz bx p18 n18 c18 H
    refine Kr.readyL (rs := [7, 13]) (by kernel_rfl) (by simp) ?_
    refine Kr.AllL.cons rfl (fun K hK => ?_) ?_
    · go_simp
      go_at_call 41
      refine (pows1_Pow (z := x ^ v % m) H 5 2 rfl rfl (H.nw 5 rfl) (H.nw 1 rfl) (H.nw 3 rfl) VM.out (Nat.mod_lt _ M0.out) (fun W1 h1 h2 h3 => mPow_ok h1 h2 h3 HX.out HV.out VM.out)).mono ?_
      rintro e y68 ⟨p68, n68, c68, rfl, HH⟩
      replace H := HH
      clear HH
      (refine Kr.outL hK (a' := ?_) ?_ (fun _ => (H.sub [7, 4, 3, 6] rfl)) ?_; rotate_left; (focus ((try simp only [Kr.PT]); first | done | rfl))); clear hK K
      refine Kr.relistL (l2 := #[true, true, true, true, true, true, true, true, true, true, true, false, true, false, true, false, false, false]) (by kernel_rfl) ?_
      exact nd6_24 y68 bz bx p18 n18 c18 p68 n68 c68 H
    refine Kr.AllL.cons rfl (fun K hK => ?_) Kr.AllL.nil
    go_simp
    obtain ⟨y69, hy⟩ : ∃ y, Wd17.alloc (.cells #[.slice none 0 0] 24) = y := ⟨_, rfl⟩
    obtain ⟨b_y, hb⟩ : ∃ b, Wd17.heap.size = b := ⟨_, rfl⟩
    rw [hy, hb]
    replace H := H.alloc hy hb rfl
    clear hy hb
    (refine Kr.outL hK (a' := ?_) ?_ (fun _ => (H.sub [8, 5, 4, 7] rfl)) ?_; rotate_left; (focus ((try simp only [Kr.PT]); first | done | rfl))); clear hK K
    refine Kr.relistL (l2 := #[true, true, true, true, true, true, true, false, true, true, true, false, true, true, true, false, false, false]) (by kernel_rfl) ?_
    exact nd6_26 y69 bz b_y bx p18 n18 c18 (H.pickC [1, 0, 2, 3, 4, 5, 6, 7, 8] (by decide) rfl)
  case pf6_18 =>
    intro Wd18 bz b_y p18 n18 c18 H
    refine Kr.readyL (rs := [7, 12]) (by kernel_rfl) (by simp) ?_
    refine Kr.AllL.cons rfl (fun K hK => ?_) ?_
    · go_simp
      go_at_call 41
      refine (pows1_Pow (z := x ^ v % m) H 5 2 rfl rfl (H.nw 5 rfl) (H.nw 1 rfl) (H.nw 3 rfl) VM.out (Nat.mod_lt _ M0.out) (fun W1 h1 h2 h3 => mPow_ok h1 h2 h3 HX.out HV.out VM.out)).mono ?_
      rintro e y70 ⟨p70, n70, c70, rfl, HH⟩
      replace H := HH
      clear HH
      (refine Kr.outL hK (a' := ?_) ?_ (fun _ => (H.sub [7, 4, 3, 6] rfl)) ?_; rotate_left; (focus ((try simp only [Kr.PT]); first | done | rfl))); clear hK K
      refine Kr.relistL (l2 := #[true, true, true, true, true, true, true, true, true, true, true, false, false, true, true, false, false, false]) (by kernel_rfl) ?_
      exact nd6_25 y70 bz b_y p18 n18 c18 p70 n70 c70 H
    refine Kr.AllL.cons rfl (fun K hK => ?_) Kr.AllL.nil
    go_simp
    obtain ⟨y71, hy⟩ : ∃ y, Wd18.alloc (.cells #[.slice none 0 0] 24) = y := ⟨_, rfl⟩
    obtain ⟨bx, hb⟩ : ∃ b, Wd18.heap.size = b := ⟨_, rfl⟩
    rw [hy, hb]
    replace H := H.alloc hy hb rfl
    clear hy hb
    (refine Kr.outL hK (a' := ?_) ?_ (fun _ => (H.sub [8, 5, 4, 7] rfl)) ?_; rotate_left; (focus ((try simp only [Kr.PT]); first | done | rfl))); clear hK K
    refine Kr.relistL (l2 := #[true, true, true, true, true, true, true, false, true, true, true, false, true, true, true, false, false, false]) (by kernel_rfl) ?_
    exact nd6_26 y71 bz b_y bx p18 n18 c18 (H.pickC [1, 2, 0, 3, 4, 5, 6, 7, 8] (by decide) rfl)
  case pf6_19 =>
    intro Wd19 bz b_y bx H
    refine Kr.readyL (rs := [3]) (by kernel_rfl) (by simp) ?_
    refine Kr.AllL.cons rfl (fun K hK => ?_) Kr.AllL.nil
    go_simp
    go_at_call 41
    refine (pows1_Pow (z := x ^ u % m) H 6 3 rfl rfl (H.nw 4 rfl) (H.nw 1 rfl) (H.nw 2 rfl) VM.out (Nat.mod_lt _ M0.out) (fun W1 h1 h2 h3 => mPow_ok h1 h2 h3 HX.out HU.out VM.out)).mono ?_
    rintro e y72 ⟨p72, n72, c72, rfl, HH⟩
    replace H := HH
    clear HH
    (refine Kr.outL hK (a' := ?_) ?_ (fun _ => (H.sub [8, 5, 4, 7] rfl)) ?_; rotate_left; (focus ((try simp only [Kr.PT]); first | done | rfl))); clear hK K
    refine Kr.relistL (l2 := #[true, true, true, true, true, true, true, false, true, true, true, false, true, true, true, false, false, false]) (by kernel_rfl) ?_
    exact nd6_26 y72 bz b_y bx p72 n72 c72 H
  case pf6_20 =>
    intro Wd20 bx p18 n18 c18 p22 n22 c22 p35 n35 c35 H
    refine Kr.readyL (rs := [13, 14]) (by kernel_rfl) (by simp) ?_
    refine Kr.AllL.cons rfl (fun K hK => ?_) ?_
    · go_simp
      obtain ⟨y73, hy⟩ : ∃ y, Wd20.alloc (.cells #[.slice none 0 0] 24) = y := ⟨_, rfl⟩
      obtain ⟨b_y, hb⟩ : ∃ b, Wd20.heap.size = b := ⟨_, rfl⟩
      rw [hy, hb]
      replace H := H.alloc hy hb rfl
      clear hy hb
      (refine Kr.outL hK (a' := ?_) ?_ (fun _ => (H.sub [7, 4, 3, 6] rfl)) ?_; rotate_left; (focus ((try simp only [Kr.PT]); first | done | rfl))); clear hK K
      refine Kr.relistL (l2 := #[true, true, true, true, true, true, true, true, true, true, true, true, true, true, false, false, false, false]) (by kernel_rfl) ?_
      exact nd6_27 y73 b_y bx p18 n18 c18 p22 n22 c22 p35 n35 c35 H
    refine Kr.AllL.cons rfl (fun K hK => ?_) Kr.AllL.nil
    go_simp
    obtain ⟨y74, hy⟩ : ∃ y, Wd20.alloc (.cells #[.slice none 0 0] 24) = y := ⟨_, rfl⟩
    obtain ⟨bz, hb⟩ : ∃ b, Wd20.heap.size = b := ⟨_, rfl⟩
    rw [hy, hb]
    replace H := H.alloc hy hb rfl
    clear hy hb
    (refine Kr.outL hK (a' := ?_) ?_ (fun _ => (H.sub [7, 4, 3, 6] rfl)) ?_; rotate_left; (focus ((try simp only [Kr.PT]); first | done | rfl))); clear hK K
    refine Kr.relistL (l2 := #[true, true, true, true, true, true, true, true, true, true, true, true, true, false, true, false, false, false]) (by kernel_rfl) ?_
    exact nd6_28 y74 bz bx p18 n18 c18 p22 n22 c22 p35 n35 c35 H
  case pf6_21 =>
    intro Wd21 b_y p18 n18 c18 p22 n22 c22 p35 n35 c35 H
    refine Kr.readyL (rs := [12, 14]) (by kernel_rfl) (by simp) ?_
    refine Kr.AllL.cons rfl (fun K hK => ?_) ?_
    · go_simp
      obtain ⟨y75, hy⟩ : ∃ y, Wd21.alloc (.cells #[.slice none 0 0] 24) = y := ⟨_, rfl⟩
      obtain ⟨bx, hb⟩ : ∃ b, Wd21.heap.size = b := ⟨_, rfl⟩
      rw [hy, hb]
      replace H := H.alloc hy hb rfl
      clear hy hb
      (refine Kr.outL hK (a' := ?_) ?_ (fun _ => (H.sub [7, 4, 3, 6] rfl)) ?_; rotate_left; (focus ((try simp only [Kr.PT]); first | done | rfl))); clear hK K
      refine Kr.relistL (l2 := #[true, true, true, true, true, true, true, true, true, true, true, true, true, true, false, false, false, false]) (by kernel_rfl) ?_
      exact nd6_27 y75 b_y bx p18 n18 c18 p22 n22 c22 p35 n35 c35 (H.pickC [1, 0, 2, 3, 4, 5, 6, 7] (by decide) rfl)
    refine Kr.AllL.cons rfl (fun K hK => ?_) Kr.AllL.nil
    go_simp
    obtain ⟨y76, hy⟩ : ∃ y, Wd21.alloc (.cells #[.slice none 0 0] 24) = y := ⟨_, rfl⟩
    obtain ⟨bz, hb⟩ : ∃ b, Wd21.heap.size = b := ⟨_, rfl⟩
    rw [hy, hb]
    replace H := H.alloc hy hb rfl
    clear hy hb
    (refine Kr.outL hK (a' := ?_) ?_ (fun _ => (H.sub [7, 4, 3, 6] rfl)) ?_; rotate_left; (focus ((try simp only [Kr.PT]); first | done | rfl))); clear hK K
    refine Kr.relistL (l2 := #[true, true, true, true, true, true, true, true, true, true, true, true, false, true, true, false, false, false]) (by kernel_rfl) ?_
    exact nd6_29 y76 bz b_y p18 n18 c18 p22 n22 c22 p35 n35 c35 H
  case pf6_22 =>
    intro Wd22 bz p18 n18 c18 p22 n22 c22 p35 n35 c35 H
    refine Kr.readyL (rs := [12, 13]) (by kernel_rfl) (by simp) ?_
    refine Kr.AllL.cons rfl (fun K hK => ?_) ?_
    · go_simp
      obtain ⟨y77, hy⟩ : ∃ y, Wd22.alloc (.cells #[.slice none 0 0] 24) = y := ⟨_, rfl⟩
      obtain ⟨bx, hb⟩ : ∃ b, Wd22.heap.size = b := ⟨_, rfl⟩
      rw [hy, hb]
      replace H := H.alloc hy hb rfl
      clear hy hb
      (refine Kr.outL hK (a' := ?_) ?_ (fun _ => (H.sub [7, 4, 3, 6] rfl)) ?_; rotate_left; (focus ((try simp only [Kr.PT]); first | done | rfl))); clear hK K
      refine Kr.relistL (l2 := #[true, true, true, true, true, true, true, true, true, true, true, true, true, false, true, false, false, false]) (by kernel_rfl) ?_
      exact nd6_28 y77 bz bx p18 n18 c18 p22 n22 c22 p35 n35 c35 (H.pickC [1, 0, 2, 3, 4, 5, 6, 7] (by decide) rfl)
    refine Kr.AllL.cons rfl (fun K hK => ?_) Kr.AllL.nil
    go_simp
    obtain ⟨y78, hy⟩ : ∃ y, Wd22.alloc (.cells #[.slice none 0 0] 24) = y := ⟨_, rfl⟩
    obtain ⟨b_y, hb⟩ : ∃ b, Wd22.heap.size = b := ⟨_, rfl⟩
    rw [hy, hb]
    replace H := H.alloc hy hb rfl
    clear hy hb
    (refine Kr.outL hK (a' := ?_) ?_ (fun _ => (H.sub [7, 4, 3, 6] rfl)) ?_; rotate_left; (focus ((try simp only [Kr.PT]); first | done | rfl))); clear hK K
    refine Kr.relistL (l2 := #[true, true, true, true, true, true, true, true, true, true, true, true, false, true, true, false, false, false]) (by kernel_rfl) ?_
    exact nd6_29 y78 bz b_y p18 n18 c18 p22 n22 c22 p35 n35 c35 (H.pickC [1, 0, 2, 3, 4, 5, 6, 7] (by decide) rfl)
  case pf6_23 =>
    intro Wd23 b_y bx p18 n18 c18 p22 n22 c22 H
    refine Kr.readyL (rs := [11, 14]) (by kernel_rfl) (by simp) ?_
    refine Kr.AllL.cons rfl (fun K hK => ?_) ?_
    · go_simp
      go_at_call 41
      refine (pows1_Pow (z := y ^ u % m) H 5 2 rfl rfl (H.nw 5 rfl) (H.nw 3 rfl) (H.nw 4 rfl) VM.out (Nat.mod_lt _ M0.out) (fun W1 h1 h2 h3 => mPow_ok h1 h2 h3 HY.out HU.out VM.out)).mono ?_
      rintro e y79 ⟨p79, n79, c79, rfl, HH⟩
      replace H := HH
      clear HH
      (refine Kr.outL hK (a' := ?_) ?_ (fun _ => (H.sub [7, 4, 3, 6] rfl)) ?_; rotate_left; (focus ((try simp only [Kr.PT]); first | done | rfl))); clear hK K
      refine Kr.relistL (l2 := #[true, true, true, true, true, true, true, true, true, true, true, true, true, true, false, false, false, false]) (by kernel_rfl) ?_
      exact nd6_27 y79 b_y bx p18 n18 c18 p22 n22 c22 p79 n79 c79 H
    refine Kr.AllL.cons rfl (fun K hK => ?_) Kr.AllL.nil
    go_simp
    obtain ⟨y80, hy⟩ : ∃ y, Wd23.alloc (.cells #[.slice none 0 0] 24) = y := ⟨_, rfl⟩
    obtain ⟨bz, hb⟩ : ∃ b, Wd23.heap.size = b := ⟨_, rfl⟩
    rw [hy, hb]
    replace H := H.alloc hy hb rfl
    clear hy hb
    (refine Kr.outL hK (a' := ?_) ?_ (fun _ => (H.sub [8, 5, 4, 7] rfl)) ?_; rotate_left; (focus ((try simp only [Kr.PT]); first | done | rfl))); clear hK K
    refine Kr.relistL (l2 := #[true, true, true, true, true, true, true, true, true, true, true, false, true, true, true, false, false, false]) (by kernel_rfl) ?_
    exact nd6_30 y80 bz b_y bx p18 n18 c18 p22 n22 c22 H
  case pf6_24 =>
    intro Wd24 bz bx p18 n18 c18 p22 n22 c22 H
    refine Kr.readyL (rs := [11, 13]) (by kernel_rfl) (by simp) ?_
    refine Kr.AllL.cons rfl (fun K hK => ?_) ?_
    · go_simp
      go_at_call 41
      refine (pows1_Pow (z := y ^ u % m) H 5 2 rfl rfl (H.nw 5 rfl) (H.nw 3 rfl) (H.nw 4 rfl) VM.out (Nat.mod_lt _ M0.out) (fun W1 h1 h2 h3 => mPow_ok h1 h2 h3 HY.out HU.out VM.out)).mono ?_
      rintro e y81 ⟨p81, n81, c81, rfl, HH⟩
      replace H := HH
      clear HH
      (refine Kr.outL hK (a' := ?_) ?_ (fun _ => (H.sub [7, 4, 3, 6] rfl)) ?_; rotate_left; (focus ((try simp only [Kr.PT]); first | done | rfl))); clear hK K
      refine Kr.relistL (l2 := #[true, true, true, true, true, true, true, true, true, true, true, true, true, false, true, false, false, false]) (by kernel_rfl) ?_
      exact nd6_28 y81 bz bx p18 n18 c18 p22 n22 c22 p81 n81 c81 H
    refine Kr.AllL.cons rfl (fun K hK => ?_) Kr.AllL.nil
    go_simp
    obtain ⟨y82, hy⟩ : ∃ y, Wd24.alloc (.cells #[.slice none 0 0] 24) = y := ⟨_, rfl⟩
    obtain ⟨b_y, hb⟩ : ∃ b, Wd24.heap.size = b := ⟨_, rfl⟩
    rw [hy, hb]
    replace H := H.alloc hy hb rfl
    clear hy hb
    (refine Kr.outL hK (a' := ?_) ?_ (fun _ => (H.sub [8, 5, 4, 7] rfl)) ?_; rotate_left; (focus ((try simp only [Kr.PT]); first | done | rfl))); clear hK K
    refine Kr.relistL (l2 := #[true, true, true, true, true, true, true, true, true, true, true, false, true, true, true, false, false, false]) (by kernel_rfl) ?_
    exact nd6_30 y82 bz b_y bx p18 n18 c18 p22 n22 c22 (H.pickC [1, 0, 2, 3, 4, 5, 6, 7, 8] (by decide) rfl)
  case pf6_25 =>
    intro Wd25 bz b_y p18 n18 c18 p22 n22 c22 H
    refine Kr.readyL (rs := [11, 12]) (by kernel_rfl) (by simp) ?_
    refine Kr.AllL.cons rfl (fun K hK => ?_) ?_
    · go_simp
      go_at_call 41
      refine (pows1_Pow (z := y ^ u % m) H 5 2 rfl rfl (H.nw 5 rfl) (H.nw 3 rfl) (H.nw 4 rfl) VM.out (Nat.mod_lt _ M0.out) (fun W1 h1 h2 h3 => mPow_ok h1 h2 h3 HY.out HU.out VM.out)).mono ?_
      rintro e y83 ⟨p83, n83, c83, rfl, HH⟩
      replace H := HH
      clear HH
      (refine Kr.outL hK (a' := ?_) ?_ (fun _ => (H.sub [7, 4, 3, 6] rfl)) ?_; rotate_left; (focus ((try simp only [Kr.PT]); first | done | rfl))); clear hK K
      refine Kr.relistL (l2 := #[true, true, true, true, true, true, true, true, true, true, true, true, false, true, true, false, false, false]) (by kernel_rfl) ?_
      exact nd6_29 y83 bz b_y p18 n18 c18 p22 n22 c22 p83 n83 c83 H
    refine Kr.AllL.cons rfl (fun K hK => ?_) Kr.AllL.nil
    go_simp
    obtain ⟨y84, hy⟩ : ∃ y, Wd25.alloc (.cells #[.slice none 0 0] 24) = y := ⟨_, rfl⟩
    obtain ⟨bx, hb⟩ : ∃ b, Wd25.heap.size = b := ⟨_, rfl⟩
    rw [hy, hb]
    replace H := H.alloc hy hb rfl
    clear hy hb
    (refine Kr.outL hK (a' := ?_) ?_ (fun _ => (H.sub [8, 5, 4, 7] rfl)) ?_; rotate_left; (focus ((try simp only [Kr.PT]); first | done | rfl))); clear hK K
    refine Kr.relistL (l2 := #[true, true, true, true, true, true, true, true, true, true, true, false, true, true, true, false, false, false]) (by kernel_rfl) ?_
    exact nd6_30 y84 bz b_y bx p18 n18 c18 p22 n22 c22 (H.pickC [1, 2, 0, 3, 4, 5, 6, 7, 8] (by decide) rfl)
  case pf6_26 =>
    intro Wd26 bz b_y bx p18 n18 c18 H
    refine Kr.readyL (rs := [7]) (by kernel_rfl) (by simp) ?_
    refine Kr.AllL.cons rfl (fun K hK => ?_) Kr.AllL.nil
    go_simp
    go_at_call 41
    refine (pows1_Pow (z := x ^ v % m) H 6 3 rfl rfl (H.nw 5 rfl) (H.nw 1 rfl) (H.nw 3 rfl) VM.out (Nat.mod_lt _ M0.out) (fun W1 h1 h2 h3 => mPow_ok h1 h2 h3 HX.out HV.out VM.out)).mono ?_
    rintro e y85 ⟨p85, n85, c85, rfl, HH⟩
    replace H := HH
    clear HH
    (refine Kr.outL hK (a' := ?_) ?_ (fun _ => (H.sub [8, 5, 4, 7] rfl)) ?_; rotate_left; (focus ((try simp only [Kr.PT]); first | done | rfl))); clear hK K
    refine Kr.relistL (l2 := #[true, true, true, true, true, true, true, true, true, true, true, false, true, true, true, false, false, false]) (by kernel_rfl) ?_
    exact nd6_30 y85 bz b_y bx p18 n18 c18 p85 n85 c85 H
  case pf6_27 =>
    intro Wd27 b_y bx p18 n18 c18 p22 n22 c22 p35 n35 c35 H
    refine Kr.readyL (rs := [14]) (by kernel_rfl) (by simp) ?_
    refine Kr.AllL.cons rfl (fun K hK => ?_) Kr.AllL.nil
    go_simp
    obtain ⟨y86, hy⟩ : ∃ y, Wd27.alloc (.cells #[.slice none 0 0] 24) = y := ⟨_, rfl⟩
    obtain ⟨bz, hb⟩ : ∃ b, Wd27.heap.size = b := ⟨_, rfl⟩
    rw [hy, hb]
    replace H := H.alloc hy hb rfl
    clear hy hb
    (refine Kr.outL hK (a' := ?_) ?_ (fun _ => (H.sub [8, 5, 4, 7] rfl)) ?_; rotate_left; (focus ((try simp only [Kr.PT]); first | done | rfl))); clear hK K
    refine Kr.relistL (l2 := #[true, true, true, true, true, true, true, true, true, true, true, true, true, true, true, false, false, false]) (by kernel_rfl) ?_
    exact nd6_31 y86 bz b_y bx p18 n18 c18 p22 n22 c22 p35 n35 c35 H
  case pf6_28 =>
    intro Wd28 bz bx p18 n18 c18 p22 n22 c22 p35 n35 c35 H
    refine Kr.readyL (rs := [13]) (by kernel_rfl) (by simp) ?_
    refine Kr.AllL.cons rfl (fun K hK => ?_) Kr.AllL.nil
    go_simp
    obtain ⟨y87, hy⟩ : ∃ y, Wd28.alloc (.cells #[.slice none 0 0] 24) = y := ⟨_, rfl⟩
    obtain ⟨b_y, hb⟩ : ∃ b, Wd28.heap.size = b := ⟨_, rfl⟩
    rw [hy, hb]
    replace H := H.alloc hy hb rfl
    clear hy hb
    (refine Kr.outL hK (a' := ?_) ?_ (fun _ => (H.sub [8, 5, 4, 7] rfl)) ?_; rotate_left; (focus ((try simp only [Kr.PT]); first | done | rfl))); clear hK K
    refine Kr.relistL (l2 := #[true, true, true, true, true, true, true, true, true, true, true, true, true, true, true, false, false, false]) (by kernel_rfl) ?_
    exact nd6_31 y87 bz b_y bx p18 n18 c18 p22 n22 c22 p35 n35 c35 (H.pickC [1, 0, 2, 3, 4, 5, 6, 7, 8] (by decide) rfl)
  case pf6_29 =>
    intro Wd29 bz b_y p18 n18 c18 p22 n22 c22 p35 n35 c35 H
    refine Kr.readyL (rs := [12]) (by kernel_rfl) (by simp) ?_
    refine Kr.AllL.cons rfl (fun K hK => ?_) Kr.AllL.nil
    go_simp
    obtain ⟨y88, hy⟩ : ∃ y, Wd29.alloc (.cells #[.slice none 0 0] 24) = y := ⟨_, rfl⟩
    obtain ⟨bx, hb⟩ : ∃ b, Wd29.heap.size = b := ⟨_, rfl⟩
    rw [hy, hb]
    replace H := H.alloc hy hb rfl
    clear hy hb
    (refine Kr.outL hK (a' := ?_) ?_ (fun _ => (H.sub [8, 5, 4, 7] rfl)) ?_; rotate_left; (focus ((try simp only [Kr.PT]); first | done | rfl))); clear hK K
    refine Kr.relistL (l2 := #[true, true, true, true, true, true, true, true, true, true, true, true, true, true, true, false, false, false]) (by kernel_rfl) ?_
    exact nd6_31 y88 bz b_y bx p18 n18 c18 p22 n22 c22 p35 n35 c35 (H.pickC [1, 2, 0, 3, 4, 5, 6, 7, 8] (by decide) rfl)
  case pf6_30 =>
    intro Wd30 bz b_y bx p18 n18 c18 p22 n22 c22 H
    refine Kr.readyL (rs := [11]) (by kernel_rfl) (by simp) ?_
    refine Kr.AllL.cons rfl (fun K hK => ?_) Kr.AllL.nil
    go_simp
    go_at_call 41
    refine (pows1_Pow (z := y ^ u % m) H 6 3 rfl rfl (H.nw 5 rfl) (H.nw 3 rfl) (H.nw 4 rfl) VM.out (Nat.mod_lt _ M0.out) (fun W1 h1 h2 h3 => mPow_ok h1 h2 h3 HY.out HU.out VM.out)).mono ?_
    rintro e y89 ⟨p89, n89, c89, rfl, HH⟩
    replace H := HH
    clear HH
    (refine Kr.outL hK (a' := ?_) ?_ (fun _ => (H.sub [8, 5, 4, 7] rfl)) ?_; rotate_left; (focus ((try simp only [Kr.PT]); first | done | rfl))); clear hK K
    refine Kr.relistL (l2 := #[true, true, true, true, true, true, true, true, true, true, true, true, true, true, true, false, false, false]) (by kernel_rfl) ?_
    exact nd6_31 y89 bz b_y bx p18 n18 c18 p22 n22 c22 p89 n89 c89 H
  case pf6_31 =>
    intro Wd31 bz b_y bx p18 n18 c18 p22 n22 c22 p35 n35 c35 H
    refine Kr.readyL (rs := [15]) (by kernel_rfl) (by simp) ?_
    refine Kr.AllL.cons rfl (fun K hK => ?_) Kr.AllL.nil
    have hk := H.c
    simp only [Kr.Cells] at hk
    go_simp
    clear hk
    obtain ⟨y90, hy⟩ : ∃ y, Wd31.setCell ⟨bx, 0, none⟩ (.slice p18 n18 c18) = y := ⟨_, rfl⟩
    rw [hy]
    replace H := H.store 2 hy rfl rfl
    dsimp only [List.set] at H
    clear hy
    (refine Kr.outL hK (a' := ?_) ?_ (fun _ => (H.sub [8, 5, 4, 7] rfl)) ?_; rotate_left; (focus ((try simp only [Kr.PT]); first | done | rfl))); clear hK K
    refine Kr.relistL (l2 := #[true, true, true, true, true, true, true, true, true, true, true, true, true, true, true, true, false, false]) (by kernel_rfl) ?_
    exact nd6_32 y90 bz b_y bx p18 n18 c18 p22 n22 c22 p35 n35 c35 H
  case pf6_32 =>
    intro Wd32 bz b_y bx p18 n18 c18 p22 n22 c22 p35 n35 c35 H
    refine Kr.readyL (rs := [16]) (by kernel_rfl) (by simp) ?_
    refine Kr.AllL.cons rfl (fun K hK => ?_) Kr.AllL.nil
    have hk := H.c
    simp only [Kr.Cells] at hk
    go_simp
    clear hk
    obtain ⟨y91, hy⟩ : ∃ y, Wd32.setCell ⟨b_y, 0, none⟩ (.slice p22 n22 c22) = y := ⟨_, rfl⟩
    rw [hy]
    replace H := H.store 1 hy rfl rfl
    dsimp only [List.set] at H
    clear hy
    (refine Kr.outL hK (a' := ?_) ?_ (fun _ => (H.sub [8, 5, 4, 7] rfl)) ?_; rotate_left; (focus ((try simp only [Kr.PT]); first | done | rfl))); clear hK K
    refine Kr.relistL (l2 := #[true, true, true, true, true, true, true, true, true, true, true, true, true, true, true, true, true, false]) (by kernel_rfl) ?_
    exact nd6_33 y91 bz b_y bx p18 n18 c18 p22 n22 c22 p35 n35 c35 H
  case pf6_33 =>
    intro Wd33 bz b_y bx p18 n18 c18 p22 n22 c22 p35 n35 c35 H
    refine Kr.readyL (rs := [17]) (by kernel_rfl) (by simp) ?_
    refine Kr.AllL.cons rfl (fun K hK => ?_) Kr.AllL.nil
    have hk := H.c
    simp only [Kr.Cells] at hk
    go_simp
    clear hk
    obtain ⟨y92, hy⟩ : ∃ y, Wd33.setCell ⟨bz, 0, none⟩ (.slice p35 n35 c35) = y := ⟨_, rfl⟩
    rw [hy]
    replace H := H.store 0 hy rfl rfl
    dsimp only [List.set] at H
    clear hy
    (refine Kr.outL hK (a' := ?_) ?_ (fun _ => (H.sub [8, 5, 4, 7] rfl)) ?_; rotate_left; (focus ((try simp only [Kr.PT]); first | done | rfl))); clear hK K
    refine Kr.relistL (l2 := #[true, true, true, true, true, true, true, true, true, true, true, true, true, true, true, true, true, true]) (by kernel_rfl) ?_
    exact nd6_34 y92 bz b_y bx p18 n18 c18 p22 n22 c22 p35 n35 c35 H
  case pf6_34 =>
    intro Wd34 bz b_y bx p18 n18 c18 p22 n22 c22 p35 n35 c35 H
    refine Kr.doneL (by kernel_rfl) ?_ _
    go_upto_region 7 with fail
    refine Kr.startL (fun W' => Kr.Cells W' [(be, 0, .slice pe ne ce), (bf, 0, .slice pf nf cf)]) [] (by kernel_rfl) ?_
    have gd : Gr Wd34 Wd34.drew := (Gr.refl _).drew
    generalize Wd34.drew = d93 at gd ⊢
    replace H := H.grow gd
    clear gd
    refine have nd7_13 : ∀ (Wd13 : World) (bp : Nat) (bs : Nat) (p94 : Option Addr) (n94 : Nat) (c94 : Nat) (p97 : Option Addr) (n97 : Nat) (c97 : Nat), Sta w Wd13 [(bp, 0, .slice p97 n97 c97), (bs, 0, .slice p94 n94 c94), (bz, 0, .slice p35 n35 c35), (b_y, 0, .slice p22 n22 c22), (bx, 0, .slice p18 n18 c18), (bg, 0, .bool true), (bf, 0, .slice pf nf cf), (be, 0, .slice pe ne ce), (bm, 0, .slice pm nm cm), (bb, 0, .slice pb nb cb), (ba, 0, .slice pa na ca)] [N p97 n97 c97 (u * v), N p94 n94 c94 (u + v), N p35 n35 c35 (y ^ u % m), N p22 n22 c22 (x ^ v % m), N p18 n18 c18 (x ^ u % m), N pf nf cf (v), N pe ne ce (u), N pm nm cm (m), N pb nb cb (y), N pa na ca (x)] → (?Q7_13 : World → Nat → Nat → Option Addr → Nat → Nat → Option Addr → Nat → Nat → Prop) Wd13 bp bs p94 n94 c94 p97 n97 c97 := ?pf7_13; ?mn7_13
    case' mn7_13 => refine have nd7_12 : ∀ (Wd12 : World) (bp : Nat) (bs : Nat) (p94 : Option Addr) (n94 : Nat) (c94 : Nat) (p97 : Option Addr) (n97 : Nat) (c97 : Nat), Sta w Wd12 [(bp, 0, .slice none 0 0), (bs, 0, .slice p94 n94 c94), (bz, 0, .slice p35 n35 c35), (b_y, 0, .slice p22 n22 c22), (bx, 0, .slice p18 n18 c18), (bg, 0, .bool true), (bf, 0, .slice pf nf cf), (be, 0, .slice pe ne ce), (bm, 0, .slice pm nm cm), (bb, 0, .slice pb nb cb), (ba, 0, .slice pa na ca)] [N p97 n97 c97 (u * v), N p94 n94 c94 (u + v), N p35 n35 c35 (y ^ u % m), N p22 n22 c22 (x ^ v % m), N p18 n18 c18 (x ^ u % m), N pf nf cf (v), N pe ne ce (u), N pm nm cm (m), N pb nb cb (y), N pa na ca (x)] → (?Q7_12 : World → Nat → Nat → Option Addr → Nat → Nat → Option Addr → Nat → Nat → Prop) Wd12 bp bs p94 n94 c94 p97 n97 c97 := ?pf7_12; ?mn7_12
    case' mn7_12 => refine have nd7_11 : ∀ (Wd11 : World) (bp : Nat) (bs : Nat) (p94 : Option Addr) (n94 : Nat) (c94 : Nat) (p97 : Option Addr) (n97 : Nat) (c97 : Nat), Sta w Wd11 [(bp, 0, .slice none 0 0), (bs, 0, .slice none 0 0), (bz, 0, .slice p35 n35 c35), (b_y, 0, .slice p22 n22 c22), (bx, 0, .slice p18 n18 c18), (bg, 0, .bool true), (bf, 0, .slice pf nf cf), (be, 0, .slice pe ne ce), (bm, 0, .slice pm nm cm), (bb, 0, .slice pb nb cb), (ba, 0, .slice pa na ca)] [N p97 n97 c97 (u * v), N p94 n94 c94 (u + v), N p35 n35 c35 (y ^ u % m), N p22 n22 c22 (x ^ v % m), N p18 n18 c18 (x ^ u % m), N pf nf cf (v), N pe ne ce (u), N pm nm cm (m), N pb nb cb (y), N pa na ca (x)] → (?Q7_11 : World → Nat → Nat → Option Addr → Nat → Nat → Option Addr → Nat → Nat → Prop) Wd11 bp bs p94 n94 c94 p97 n97 c97 := ?pf7_11; ?mn7_11
    case' mn7_11 => refine have nd7_10 : ∀ (Wd10 : World) (bp : Nat) (bs : Nat) (p94 : Option Addr) (n94 : Nat) (c94 : Nat), Sta w Wd10 [(bp, 0, .slice none 0 0), (bs, 0, .slice none 0 0), (bz, 0, .slice p35 n35 c35), (b_y, 0, .slice p22 n22 c22), (bx, 0, .slice p18 n18 c18), (bg, 0, .bool true), (bf, 0, .slice pf nf cf), (be, 0, .slice pe ne ce), (bm, 0, .slice pm nm cm), (bb, 0, .slice pb nb cb), (ba, 0, .slice pa na ca)] [N p94 n94 c94 (u + v), N p35 n35 c35 (y ^ u % m), N p22 n22 c22 (x ^ v % m), N p18 n18 c18 (x ^ u % m), N pf nf cf (v), N pe ne ce (u), N pm nm cm (m), N pb nb cb (y), N pa na ca (x)] → (?Q7_10 : World → Nat → Nat → Option Addr → Nat → Nat → Prop) Wd10 bp bs p94 n94 c94 := ?pf7_10; ?mn7_10
    case' mn7_10 => refine have nd7_9 : ∀ (Wd9 : World) (bp : Nat) (p94 : Option Addr) (n94 : Nat) (c94 : Nat) (p97 : Option Addr) (n97 : Nat) (c97 : Nat), Sta w Wd9 [(bp, 0, .slice none 0 0), (bz, 0, .slice p35 n35 c35), (b_y, 0, .slice p22 n22 c22), (bx, 0, .slice p18 n18 c18), (bg, 0, .bool true), (bf, 0, .slice pf nf cf), (be, 0, .slice pe ne ce), (bm, 0, .slice pm nm cm), (bb, 0, .slice pb nb cb), (ba, 0, .slice pa na ca)] [N p97 n97 c97 (u * v), N p94 n94 c94 (u + v), N p35 n35 c35 (y ^ u % m), N p22 n22 c22 (x ^ v % m), N p18 n18 c18 (x ^ u % m), N pf nf cf (v), N pe ne ce (u), N pm nm cm (m), N pb nb cb (y), N pa na ca (x)] → (?Q7_9 : World → Nat → Option Addr → Nat → Nat → Option Addr → Nat → Nat → Prop) Wd9 bp p94 n94 c94 p97 n97 c97 := ?pf7_9; ?mn7_9
    case' mn7_9 => refine have nd7_8 : ∀ (Wd8 : World) (bs : Nat) (p94 : Option Addr) (n94 : Nat) (c94 : Nat) (p97 : Option Addr) (n97 : Nat) (c97 : Nat), Sta w Wd8 [(bs, 0, .slice none 0 0), (bz, 0, .slice p35 n35 c35), (b_y, 0, .slice p22 n22 c22), (bx, 0, .slice p18 n18 c18), (bg, 0, .bool true), (bf, 0, .slice pf nf cf), (be, 0, .slice pe ne ce), (bm, 0, .slice pm nm cm), (bb, 0, .slice pb nb cb), (ba, 0, .slice pa na ca)] [N p97 n97 c97 (u * v), N p94 n94 c94 (u + v), N p35 n35 c35 (y ^ u % m), N p22 n22 c22 (x ^ v % m), N p18 n18 c18 (x ^ u % m), N pf nf cf (v), N pe ne ce (u), N pm nm cm (m), N pb nb cb (y), N pa na ca (x)] → (?Q7_8 : World → Nat → Option Addr → Nat → Nat → Option Addr → Nat → Nat → Prop) Wd8 bs p94 n94 c94 p97 n97 c97 := ?pf7_8; ?mn7_8
    case' mn7_8 => refine have nd7_7 : ∀ (Wd7 : World) (bp : Nat) (bs : Nat), Sta w Wd7 [(bp, 0, .slice none 0 0), (bs, 0, .slice none 0 0), (bz, 0, .slice p35 n35 c35), (b_y, 0, .slice p22 n22 c22), (bx, 0, .slice p18 n18 c18), (bg, 0, .bool true), (bf, 0, .slice pf nf cf), (be, 0, .slice pe ne ce), (bm, 0, .slice pm nm cm), (bb, 0, .slice pb nb cb), (ba, 0, .slice pa na ca)] [N p35 n35 c35 (y ^ u % m), N p22 n22 c22 (x ^ v % m), N p18 n18 c18 (x ^ u % m), N pf nf cf (v), N pe ne ce (u), N pm nm cm (m), N pb nb cb (y), N pa na ca (x)] → (?Q7_7 : World → Nat → Nat → Prop) Wd7 bp bs := ?pf7_7; ?mn7_7
    case' mn7_7 => refine have nd7_6 : ∀ (Wd6 : World) (bp : Nat) (p94 : Option Addr) (n94 : Nat) (c94 : Nat), Sta w Wd6 [(bp, 0, .slice none 0 0), (bz, 0, .slice p35 n35 c35), (b_y, 0, .slice p22 n22 c22), (bx, 0, .slice p18 n18 c18), (bg, 0, .bool true), (bf, 0, .slice pf nf cf), (be, 0, .slice pe ne ce), (bm, 0, .slice pm nm cm), (bb, 0, .slice pb nb cb), (ba, 0, .slice pa na ca)] [N p94 n94 c94 (u + v), N p35 n35 c35 (y ^ u % m), N p22 n22 c22 (x ^ v % m), N p18 n18 c18 (x ^ u % m), N pf nf cf (v), N pe ne ce (u), N pm nm cm (m), N pb nb cb (y), N pa na ca (x)] → (?Q7_6 : World → Nat → Option Addr → Nat → Nat → Prop) Wd6 bp p94 n94 c94 := ?pf7_6; ?mn7_6
    case' mn7_6 => refine have nd7_5 : ∀ (Wd5 : World) (bs : Nat) (p94 : Option Addr) (n94 : Nat) (c94 : Nat), Sta w Wd5 [(bs, 0, .slice none 0 0), (bz, 0, .slice p35 n35 c35), (b_y, 0, .slice p22 n22 c22), (bx, 0, .slice p18 n18 c18), (bg, 0, .bool true), (bf, 0, .slice pf nf cf), (be, 0, .slice pe ne ce), (bm, 0, .slice pm nm cm), (bb, 0, .slice pb nb cb), (ba, 0, .slice pa na ca)] [N p94 n94 c94 (u + v), N p35 n35 c35 (y ^ u % m), N p22 n22 c22 (x ^ v % m), N p18 n18 c18 (x ^ u % m), N pf nf cf (v), N pe ne ce (u), N pm nm cm (m), N pb nb cb (y), N pa na ca (x)] → (?Q7_5 : World → Nat → Option Addr → Nat → Nat → Prop) Wd5 bs p94 n94 c94 := ?pf7_5; ?mn7_5
    case' mn7_5 => refine have nd7_4 : ∀ (Wd4 : World) (p94 : Option Addr) (n94 : Nat) (c94 : Nat) (p97 : Option Addr) (n97 : Nat) (c97 : Nat), Sta w Wd4 [(bz, 0, .slice p35 n35 c35), (b_y, 0, .slice p22 n22 c22), (bx, 0, .slice p18 n18 c18), (bg, 0, .bool true), (bf, 0, .slice pf nf cf), (be, 0, .slice pe ne ce), (bm, 0, .slice pm nm cm), (bb, 0, .slice pb nb cb), (ba, 0, .slice pa na ca)] [N p97 n97 c97 (u * v), N p94 n94 c94 (u + v), N p35 n35 c35 (y ^ u % m), N p22 n22 c22 (x ^ v % m), N p18 n18 c18 (x ^ u % m), N pf nf cf (v), N pe ne ce (u), N pm nm cm (m), N pb nb cb (y), N pa na ca (x)] → (?Q7_4 : World → Option Addr → Nat → Nat → Option Addr → Nat → Nat → Prop) Wd4 p94 n94 c94 p97 n97 c97 := ?pf7_4; ?mn7_4
    case' mn7_4 => refine have nd7_3 : ∀ (Wd3 : World) (bp : Nat), Sta w Wd3 [(bp, 0, .slice none 0 0), (bz, 0, .slice p35 n35 c35), (b_y, 0, .slice p22 n22 c22), (bx, 0, .slice p18 n18 c18), (bg, 0, .bool true), (bf, 0, .slice pf nf cf), (be, 0, .slice pe ne ce), (bm, 0, .slice pm nm cm), (bb, 0, .slice pb nb cb), (ba, 0, .slice pa na ca)] [N p35 n35 c35 (y ^ u % m), N p22 n22 c22 (x ^ v % m), N p18 n18 c18 (x ^ u % m), N pf nf cf (v), N pe ne ce (u), N pm nm cm (m), N pb nb cb (y), N pa na ca (x)] → (?Q7_3 : World → Nat → Prop) Wd3 bp := ?pf7_3; ?mn7_3
    case' mn7_3 => refine have nd7_2 : ∀ (Wd2 : World) (bs : Nat), Sta w Wd2 [(bs, 0, .slice none 0 0), (bz, 0, .slice p35 n35 c35), (b_y, 0, .slice p22 n22 c22), (bx, 0, .slice p18 n18 c18), (bg, 0, .bool true), (bf, 0, .slice pf nf cf), (be, 0, .slice pe ne ce), (bm, 0, .slice pm nm cm), (bb, 0, .slice pb nb cb), (ba, 0, .slice pa na ca)] [N p35 n35 c35 (y ^ u % m), N p22 n22 c22 (x ^ v % m), N p18 n18 c18 (x ^ u % m), N pf nf cf (v), N pe ne ce (u), N pm nm cm (m), N pb nb cb (y), N pa na ca (x)] → (?Q7_2 : World → Nat → Prop) Wd2 bs := ?pf7_2; ?mn7_2
    case' mn7_2 => refine have nd7_1 : ∀ (Wd1 : World) (p94 : Option Addr) (n94 : Nat) (c94 : Nat), Sta w Wd1 [(bz, 0, .slice p35 n35 c35), (b_y, 0, .slice p22 n22 c22), (bx, 0, .slice p18 n18 c18), (bg, 0, .bool true), (bf, 0, .slice pf nf cf), (be, 0, .slice pe ne ce), (bm, 0, .slice pm nm cm), (bb, 0, .slice pb nb cb), (ba, 0, .slice pa na ca)] [N p94 n94 c94 (u + v), N p35 n35 c35 (y ^ u % m), N p22 n22 c22 (x ^ v % m), N p18 n18 c18 (x ^ u % m), N pf nf cf (v), N pe ne ce (u), N pm nm cm (m), N pb nb cb (y), N pa na ca (x)] → (?Q7_1 : World → Option Addr → Nat → Nat → Prop) Wd1 p94 n94 c94 := ?pf7_1; ?mn7_1
    case mn7_1 =>
      (refine Kr.tSQ 0 [] (v := ?_) (a' := ?_) rfl (by kernel_rfl) (fun _ _ _ h => h) (by rfl) (H.sub [5, 4] rfl) (fun wx hSx => ?_) ?_ ?_; rotate_left 2; (focus (simp only [Kr.Cells] at hSx; go_simp; first | done | rfl)); (focus ((try simp only [Kr.PT]); first | done | rfl)))
      (refine Kr.tSQ 1 [] (v := ?_) (a' := ?_) rfl (by kernel_rfl) (fun _ _ _ h => h) (by rfl) (H.sub [5, 4] rfl) (fun wx hSx => ?_) ?_ ?_; rotate_left 2; (focus (simp only [Kr.Cells] at hSx; go_simp; first | done | rfl)); (focus ((try simp only [Kr.PT]); first | done | rfl)))
      (refine Kr.tSQ 3 [] (v := ?_) (a' := ?_) rfl (by kernel_rfl) (fun _ _ _ h => h) (by rfl) (H.sub [5, 4] rfl) (fun wx hSx => ?_) ?_ ?_; rotate_left 2; (focus (simp only [Kr.Cells] at hSx; go_simp; first | done | rfl)); (focus ((try simp only [Kr.PT]); first | done | rfl)))
      (refine Kr.tSQ 4 [] (v := ?_) (a' := ?_) rfl (by kernel_rfl) (fun _ _ _ h => h) (by rfl) (H.sub [5, 4] rfl) (fun wx hSx => ?_) ?_ ?_; rotate_left 2; (focus (simp only [Kr.Cells] at hSx; go_simp; first | done | rfl)); (focus ((try simp only [Kr.PT]); first | done | rfl)))
      refine Kr.readyL (rs := [2, 6, 7]) (by kernel_rfl) (by simp) ?_
      refine Kr.AllL.cons rfl (fun K hK => ?_) ?_
      · go_simp
        go_at_call 43
        refine (rplus3_v (H.nw 4 rfl) (H.nw 3 rfl) HNE.out HNF.out).mono ?_
        rintro e y94 ⟨p94, n94, c94, rfl, hr, hg⟩
        replace H := H.grow hg
        replace H := H.num hr
        clear hr hg
        (refine Kr.outL hK (a' := ?_) ?_ (fun _ => (H.sub [5, 4] rfl)) ?_; rotate_left; (focus ((try simp only [Kr.PT]); first | done | rfl))); clear hK K
        refine Kr.relistL (l2 := #[true, true, true, true, true, false, false, false, false, false]) (by kernel_rfl) ?_
        exact nd7_1 y94 p94 n94 c94 H
      refine Kr.AllL.cons rfl (fun K hK => ?_) ?_
      · go_simp
        obtain ⟨y95, hy⟩ : ∃ y, d93.alloc (.cells #[.slice none 0 0] 24) = y := ⟨_, rfl⟩
        obtain ⟨bs, hb⟩ : ∃ b, d93.heap.size = b := ⟨_, rfl⟩
        rw [hy, hb]
        replace H := H.alloc hy hb rfl
        clear hy hb
        (refine Kr.outL hK (a' := ?_) ?_ (fun _ => (H.sub [6, 5] rfl)) ?_; rotate_left; (focus ((try simp only [Kr.PT]); first | done | rfl))); clear hK K
        refine Kr.relistL (l2 := #[true, true, false, true, true, false, true, false, false, false]) (by kernel_rfl) ?_
        exact nd7_2 y95 bs H
      refine Kr.AllL.cons rfl (fun K hK => ?_) Kr.AllL.nil
      go_simp
      obtain ⟨y96, hy⟩ : ∃ y, d93.alloc (.cells #[.slice none 0 0] 24) = y := ⟨_, rfl⟩
      obtain ⟨bp, hb⟩ : ∃ b, d93.heap.size = b := ⟨_, rfl⟩
      rw [hy, hb]
      replace H := H.alloc hy hb rfl
      clear hy hb
      (refine Kr.outL hK (a' := ?_) ?_ (fun _ => (H.sub [6, 5] rfl)) ?_; rotate_left; (focus ((try simp only [Kr.PT]); first | done | rfl))); clear hK K
      refine Kr.relistL (l2 := #[true, true, false, true, true, false, false, true, false, false]) (by kernel_rfl) ?_
      exact nd7_3 y96 bp H
    case pf7_1 =>
      intro Wd1 p94 n94 c94 H
      refine Kr.readyL (rs := [5, 6, 7]) (by kernel_rfl) (by simp) ?_
      refine Kr.AllL.cons rfl (fun K hK => ?_) ?_
      · go_simp
        go_at_call 44
        refine (rtimes3_v (H.nw 5 rfl) (H.nw 4 rfl) HU9.out HV9.out HM9.out).mono ?_
        rintro e y97 ⟨p97, n97, c97, rfl, hr, hg⟩
        replace H := H.grow hg
        replace H := H.num hr
        clear hr hg
        (refine Kr.outL hK (a' := ?_) ?_ (fun _ => (H.sub [5, 4] rfl)) ?_; rotate_left; (focus ((try simp only [Kr.PT]); first | done | rfl))); clear hK K
        refine Kr.relistL (l2 := #[true, true, true, true, true, true, false, false, false, false]) (by kernel_rfl) ?_
        exact nd7_4 y97 p94 n94 c94 p97 n97 c97 H
      refine Kr.AllL.cons rfl (fun K hK => ?_) ?_
      · go_simp
        obtain ⟨y98, hy⟩ : ∃ y, Wd1.alloc (.cells #[.slice none 0 0] 24) = y := ⟨_, rfl⟩
        obtain ⟨bs, hb⟩ : ∃ b, Wd1.heap.size = b := ⟨_, rfl⟩
        rw [hy, hb]
        replace H := H.alloc hy hb rfl
        clear hy hb
        (refine Kr.outL hK (a' := ?_) ?_ (fun _ => (H.sub [6, 5] rfl)) ?_; rotate_left; (focus ((try simp only [Kr.PT]); first | done | rfl))); clear hK K
        refine Kr.relistL (l2 := #[true, true, true, true, true, false, true, false, false, false]) (by kernel_rfl) ?_
        exact nd7_5 y98 bs p94 n94 c94 H
      refine Kr.AllL.cons rfl (fun K hK => ?_) Kr.AllL.nil
      go_simp
      obtain ⟨y99, hy⟩ : ∃ y, Wd1.alloc (.cells #[.slice none 0 0] 24) = y := ⟨_, rfl⟩
      obtain ⟨bp, hb⟩ : ∃ b, Wd1.heap.size = b := ⟨_, rfl⟩
      rw [hy, hb]
      replace H := H.alloc hy hb rfl
      clear hy hb
      (refine Kr.outL hK (a' := ?_) ?_ (fun _ => (H.sub [6, 5] rfl)) ?_; rotate_left; (focus ((try simp only [Kr.PT]); first | done | rfl))); clear hK K
      refine Kr.relistL (l2 := #[true, true, true, true, true, false, false, true, false, false]) (by kernel_rfl) ?_
      exact nd7_6 y99 bp p94 n94 c94 H
    case pf7_2 =>
      intro Wd2 bs H
      refine Kr.readyL (rs := [2, 7]) (by kernel_rfl) (by simp) ?_
      refine Kr.AllL.cons rfl (fun K hK => ?_) ?_
      · go_simp
        go_at_call 43
        refine (rplus3_v (H.nw 4 rfl) (H.nw 3 rfl) HNE.out HNF.out).mono ?_
        rintro e y100 ⟨p100, n100, c100, rfl, hr, hg⟩
        replace H := H.grow hg
        replace H := H.num hr
        clear hr hg
        (refine Kr.outL hK (a' := ?_) ?_ (fun _ => (H.sub [6, 5] rfl)) ?_; rotate_left; (focus ((try simp only [Kr.PT]); first | done | rfl))); clear hK K
        refine Kr.relistL (l2 := #[true, true, true, true, true, false, true, false, false, false]) (by kernel_rfl) ?_
        exact nd7_5 y100 bs p100 n100 c100 H
      refine Kr.AllL.cons rfl (fun K hK => ?_) Kr.AllL.nil
      go_simp
      obtain ⟨y101, hy⟩ : ∃ y, Wd2.alloc (.cells #[.slice none 0 0] 24) = y := ⟨_, rfl⟩
      obtain ⟨bp, hb⟩ : ∃ b, Wd2.heap.size = b := ⟨_, rfl⟩
      rw [hy, hb]
      replace H := H.alloc hy hb rfl
      clear hy hb
      (refine Kr.outL hK (a' := ?_) ?_ (fun _ => (H.sub [7, 6] rfl)) ?_; rotate_left; (focus ((try simp only [Kr.PT]); first | done | rfl))); clear hK K
      refine Kr.relistL (l2 := #[true, true, false, true, true, false, true, true, false, false]) (by kernel_rfl) ?_
      exact nd7_7 y101 bp bs H
    case pf7_3 =>
      intro Wd3 bp H
      refine Kr.readyL (rs := [2, 6]) (by kernel_rfl) (by simp) ?_
      refine Kr.AllL.cons rfl (fun K hK => ?_) ?_
      · go_simp
        go_at_call 43
        refine (rplus3_v (H.nw 4 rfl) (H.nw 3 rfl) HNE.out HNF.out).mono ?_
        rintro e y102 ⟨p102, n102, c102, rfl, hr, hg⟩
        replace H := H.grow hg
        replace H := H.num hr
        clear hr hg
        (refine Kr.outL hK (a' := ?_) ?_ (fun _ => (H.sub [6, 5] rfl)) ?_; rotate_left; (focus ((try simp only [Kr.PT]); first | done | rfl))); clear hK K
        refine Kr.relistL (l2 := #[true, true, true, true, true, false, false, true, false, false]) (by kernel_rfl) ?_
        exact nd7_6 y102 bp p102 n102 c102 H
      refine Kr.AllL.cons rfl (fun K hK => ?_) Kr.AllL.nil
      go_simp
      obtain ⟨y103, hy⟩ : ∃ y, Wd3.alloc (.cells #[.slice none 0 0] 24) = y := ⟨_, rfl⟩
      obtain ⟨bs, hb⟩ : ∃ b, Wd3.heap.size = b := ⟨_, rfl⟩
      rw [hy, hb]
      replace H := H.alloc hy hb rfl
      clear hy hb
      (refine Kr.outL hK (a' := ?_) ?_ (fun _ => (H.sub [7, 6] rfl)) ?_; rotate_left; (focus ((try simp only [Kr.PT]); first | done | rfl))); clear hK K
      refine Kr.relistL (l2 := #[true, true, false, true, true, false, true, true, false, false]) (by kernel_rfl) ?_
      exact nd7_7 y103 bp bs (H.pickC [1, 0, 2, 3, 4, 5, 6, 7, 8, 9, 10] (by decide) rfl)
    case pf7_4 =>
      intro Wd4 p94 n94 c94 p97 n97 c97 H
      refine Kr.readyL (rs := [6, 7]) (by kernel_rfl) (by simp) ?_
      refine Kr.AllL.cons rfl (fun K hK => ?_) ?_
      · go_simp
        obtain ⟨y104, hy⟩ : ∃ y, Wd4.alloc (.cells #[.slice none 0 0] 24) = y := ⟨_, rfl⟩
        obtain ⟨bs, hb⟩ : ∃ b, Wd4.heap.size = b := ⟨_, rfl⟩
        rw [hy, hb]
        replace H := H.alloc hy hb rfl
        clear hy hb
        (refine Kr.outL hK (a' := ?_) ?_ (fun _ => (H.sub [6, 5] rfl)) ?_; rotate_left; (focus ((try simp only [Kr.PT]); first | done | rfl))); clear hK K
        refine Kr.relistL (l2 := #[true, true, true, true, true, true, true, false, false, false]) (by kernel_rfl) ?_
        exact nd7_8 y104 bs p94 n94 c94 p97 n97 c97 H
      refine Kr.AllL.cons rfl (fun K hK => ?_) Kr.AllL.nil
      go_simp
      obtain ⟨y105, hy⟩ : ∃ y, Wd4.alloc (.cells #[.slice none 0 0] 24) = y := ⟨_, rfl⟩
      obtain ⟨bp, hb⟩ : ∃ b, Wd4.heap.size = b := ⟨_, rfl⟩
      rw [hy, hb]
      replace H := H.alloc hy hb rfl
      clear hy hb
      (refine Kr.outL hK (a' := ?_) ?_ (fun _ => (H.sub [6, 5] rfl)) ?_; rotate_left; (focus ((try simp only [Kr.PT]); first | done | rfl))); clear hK K
      refine Kr.relistL (l2 := #[true, true, true, true, true, true, false, true, false, false]) (by kernel_rfl) ?_
      exact nd7_9 y105 bp p94 n94 c94 p97 n97 c97 H
    case pf7_5 =>
      intro Wd5 bs p94 n94 c94 H
      refine Kr.readyL (rs := [5, 7]) (by kernel_rfl) (by simp) ?_
      refine Kr.AllL.cons rfl (fun K hK => ?_) ?_
      · go_simp
        go_at_call 44
        refine (rtimes3_v (H.nw 5 rfl) (H.nw 4 rfl) HU9.out HV9.out HM9.out).mono ?_
        rintro e y106 ⟨p106, n106, c106, rfl, hr, hg⟩
        replace H := H.grow hg
        replace H := H.num hr
        clear hr hg
        (refine Kr.outL hK (a' := ?_) ?_ (fun _ => (H.sub [6, 5] rfl)) ?_; rotate_left; (focus ((try simp only [Kr.PT]); first | done | rfl))); clear hK K
        refine Kr.relistL (l2 := #[true, true, true, true, true, true, true, false, false, false]) (by kernel_rfl) ?_
        exact nd7_8 y106 bs p94 n94 c94 p106 n106 c106 H
      refine Kr.AllL.cons rfl (fun K hK => ?_) Kr.AllL.nil
      go_simp
      obtain ⟨y107, hy⟩ : ∃ y, Wd5.alloc (.cells #[.slice none 0 0] 24) = y := ⟨_, rfl⟩
      obtain ⟨bp, hb⟩ : ∃ b, Wd5.heap.size = b := ⟨_, rfl⟩
      rw [hy, hb]
      replace H := H.alloc hy hb rfl
      clear hy hb
      (refine Kr.outL hK (a' := ?_) ?_ (fun _ => (H.sub [7, 6] rfl)) ?_; rotate_left; (focus ((try simp only [Kr.PT]); first | done | rfl))); clear hK K
      refine Kr.relistL (l2 := #[true, true, true, true, true, false, true, true, false, false]) (by kernel_rfl) ?_
      exact nd7_10 y107 bp bs p94 n94 c94 H
    case pf7_6 =>
      intro Wd6 bp p94 n94 c94 H
      refine Kr.readyL (rs := [5, 6]) (by kernel_rfl) (by simp) ?_
      refine Kr.AllL.cons rfl (fun K hK => ?_) ?_
      · go_simp
        go_at_call 44
        refine (rtimes3_v (H.nw 5 rfl) (H.nw 4 rfl) HU9.out HV9.out HM9.out).mono ?_
        rintro e y108 ⟨p108, n108, c108, rfl, hr, hg⟩
        replace H := H.grow hg
        replace H := H.num hr
        clear hr hg
        (refine Kr.outL hK (a' := ?_) ?_ (fun _ => (H.sub [6, 5] rfl)) ?_; rotate_left; (focus ((try simp only [Kr.PT]); first | done | rfl))); clear hK K
        refine Kr.relistL (l2 := #[true, true, true, true, true, true, false, true, false, false]) (by kernel_rfl) ?_
        exact nd7_9 y108 bp p94 n94 c94 p108 n108 c108 H
      refine Kr.AllL.cons rfl (fun K hK => ?_) Kr.AllL.nil
      go_simp
      obtain ⟨y109, hy⟩ : ∃ y, Wd6.alloc (.cells #[.slice none 0 0] 24) = y := ⟨_, rfl⟩
      obtain ⟨bs, hb⟩ : ∃ b, Wd6.heap.size = b := ⟨_, rfl⟩
      rw [hy, hb]
      replace H := H.alloc hy hb rfl
      clear hy hb
      (refine Kr.outL hK (a' := ?_) ?_ (fun _ => (H.sub [7, 6] rfl)) ?_; rotate_left; (focus ((try simp only [Kr.PT]); first | done | rfl))); clear hK K
      refine Kr.relistL (l2 := #[true, true, true, true, true, false, true, true, false, false]) (by kernel_rfl) ?_
      exact nd7_10 y109 bp bs p94 n94 c94 (H.pickC [1, 0, 2, 3, 4, 5, 6, 7, 8, 9, 10] (by decide) rfl)
    case pf7_7 =>
      intro Wd7 bp bs H
      refine Kr.readyL (rs := [2]) (by kernel_rfl) (by simp) ?_
      refine Kr.AllL.cons rfl (fun K hK => ?_) Kr.AllL.nil
      go_simp
      go_at_call 43
      refine (rplus3_v (H.nw 4 rfl) (H.nw 3 rfl) HNE.out HNF.out).mono ?_
      rintro e y110 ⟨p110, n110, c110, rfl, hr, hg⟩
      replace H := H.grow hg
      replace H := H.num hr
      clear hr hg
      (refine Kr.outL hK (a' := ?_) ?_ (fun _ => (H.sub [7, 6] rfl)) ?_; rotate_left; (focus ((try simp only [Kr.PT]); first | done | rfl))); clear hK K
      refine Kr.relistL (l2 := #[true, true, true, true, true, false, true, true, false, false]) (by kernel_rfl) ?_
      exact nd7_10 y110 bp bs p110 n110 c110 H
    case pf7_8 =>
      intro Wd8 bs p94 n94 c94 p97 n97 c97 H
      refine Kr.readyL (rs := [7]) (by kernel_rfl) (by simp) ?_
      refine Kr.AllL.cons rfl (fun K hK => ?_) Kr.AllL.nil
      go_simp
      obtain ⟨y111, hy⟩ : ∃ y, Wd8.alloc (.cells #[.slice none 0 0] 24) = y := ⟨_, rfl⟩
      obtain ⟨bp, hb⟩ : ∃ b, Wd8.heap.size = b := ⟨_, rfl⟩
      rw [hy, hb]
      replace H := H.alloc hy hb rfl
      clear hy hb
      (refine Kr.outL hK (a' := ?_) ?_ (fun _ => (H.sub [7, 6] rfl)) ?_; rotate_left; (focus ((try simp only [Kr.PT]); first | done | rfl))); clear hK K
      refine Kr.relistL (l2 := #[true, true, true, true, true, true, true, true, false, false]) (by kernel_rfl) ?_
      exact nd7_11 y111 bp bs p94 n94 c94 p97 n97 c97 H
    case pf7_9 =>
      intro Wd9 bp p94 n94 c94 p97 n97 c97 H
      refine Kr.readyL (rs := [6]) (by kernel_rfl) (by simp) ?_
      refine Kr.AllL.cons rfl (fun K hK => ?_) Kr.AllL.nil
      go_simp
      obtain ⟨y112, hy⟩ : ∃ y, Wd9.alloc (.cells #[.slice none 0 0] 24) = y := ⟨_, rfl⟩
      obtain ⟨bs, hb⟩ : ∃ b, Wd9.heap.size = b := ⟨_, rfl⟩
      rw [hy, hb]
      replace H := H.alloc hy hb rfl
      clear hy hb
      (refine Kr.outL hK (a' := ?_) ?_ (fun _ => (H.sub [7, 6] rfl)) ?_; rotate_left; (focus ((try simp only [Kr.PT]); first | done | rfl))); clear hK K
      refine Kr.relistL (l2 := #[true, true, true, true, true, true, true, true, false, false]) (by kernel_rfl) ?_
      exact nd7_11 y112 bp bs p94 n94 c94 p97 n97 c97 (H.pickC [1, 0, 2, 3, 4, 5, 6, 7, 8, 9, 10] (by decide) rfl)
    case pf7_10 =>
      intro Wd10 bp bs p94 n94 c94 H
      refine Kr.readyL (rs := [5]) (by kernel_rfl) (by simp) ?_
      refine Kr.AllL.cons rfl (fun K hK => ?_) Kr.AllL.nil
      go_simp
      go_at_call 44
      refine (rtimes3_v (H.nw 5 rfl) (H.nw 4 rfl) HU9.out HV9.out HM9.out).mono ?_
      rintro e y113 ⟨p113, n113, c113, rfl, hr, hg⟩
      replace H := H.grow hg
      replace H := H.num hr
      clear hr hg
      (refine Kr.outL hK (a' := ?_) ?_ (fun _ => (H.sub [7, 6] rfl)) ?_; rotate_left; (focus ((try simp only [Kr.PT]); first | done | rfl))); clear hK K
      refine Kr.relistL (l2 := #[true, true, true, true, true, true, true, true, false, false]) (by kernel_rfl) ?_
      exact nd7_11 y113 bp bs p94 n94 c94 p113 n113 c113 H
    case pf7_11 =>
      intro Wd11 bp bs p94 n94 c94 p97 n97 c97 H
      refine Kr.readyL (rs := [8]) (by kernel_rfl) (by simp) ?_
      refine Kr.AllL.cons rfl (fun K hK => ?_) Kr.AllL.nil
      have hk := H.c
      simp only [Kr.Cells] at hk
      go_simp
      clear hk
      obtain ⟨y114, hy⟩ : ∃ y, Wd11.setCell ⟨bs, 0, none⟩ (.slice p94 n94 c94) = y := ⟨_, rfl⟩
      rw [hy]
      replace H := H.store 1 hy rfl rfl
      dsimp only [List.set] at H
      clear hy
      (refine Kr.outL hK (a' := ?_) ?_ (fun _ => (H.sub [7, 6] rfl)) ?_; rotate_left; (focus ((try simp only [Kr.PT]); first | done | rfl))); clear hK K
      refine Kr.relistL (l2 := #[true, true, true, true, true, true, true, true, true, false]) (by kernel_rfl) ?_
      exact nd7_12 y114 bp bs p94 n94 c94 p97 n97 c97 H
    case pf7_12 =>
      intro Wd12 bp bs p94 n94 c94 p97 n97 c97 H
      refine Kr.readyL (rs := [9]) (by kernel_rfl) (by simp) ?_
      refine Kr.AllL.cons rfl (fun K hK => ?_) Kr.AllL.nil
      have hk := H.c
      simp only [Kr.Cells] at hk
      go_simp
      clear hk
      obtain ⟨y115, hy⟩ : ∃ y, Wd12.setCell ⟨bp, 0, none⟩ (.slice p97 n97 c97) = y := ⟨_, rfl⟩
      rw [hy]
      replace H := H.store 0 hy rfl rfl
      dsimp only [List.set] at H
      clear hy
      (refine Kr.outL hK (a' := ?_) ?_ (fun _ => (H.sub [7, 6] rfl)) ?_; rotate_left; (focus ((try simp only [Kr.PT]); first | done | rfl))); clear hK K
      refine Kr.relistL (l2 := #[true, true, true, true, true, true, true, true, true, true]) (by kernel_rfl) ?_
      exact nd7_13 y115 bp bs p94 n94 c94 p97 n97 c97 H
    case pf7_13 =>
      intro Wd13 bp bs p94 n94 c94 p97 n97 c97 H
      refine Kr.doneL (by kernel_rfl) ?_ _
      go_upto_region 8 with fail
      refine Kr.seqStartW ?_
      have hk := H.c
      simp only [Kr.Cells] at hk
      iterate 2 (refine Kr.seqQ (v := ?_) (a' := ?_) (by rfl) ?_ ?_ ?_; rotate_left 2; (focus (go_simp; first | done | rfl)); (focus ((try simp only [Kr.PT]); first | done | rfl)))
      clear hk
      refine Kr.seqDoneW ?_
      go_upto_region 10 with fail
      refine Kr.startL (fun W' => Kr.Cells W' [(ba, 0, .slice pa na ca), (bs, 0, .slice p94 n94 c94), (bx, 0, .slice p18 n18 c18), (b_y, 0, .slice p22 n22 c22), (bf, 0, .slice pf nf cf), (bp, 0, .slice p97 n97 c97), (bb, 0, .slice pb nb cb), (be, 0, .slice pe ne ce), (bz, 0, .slice p35 n35 c35), (bg, 0, .bool true)]) [] (by kernel_rfl) ?_
      have gd : Gr Wd13 Wd13.drew := (Gr.refl _).drew
      generalize Wd13.drew = d116 at gd ⊢
      replace H := H.grow gd
      clear gd
      (refine Kr.tPQ 0 (v := ?_) (a' := ?_) rfl (by kernel_rfl) (fun _ _ _ h => h) (by rfl) (fun _ => (H.sub [10, 1, 4, 3, 6, 0, 9, 7, 2, 5] rfl)) (fun wx => ?_) ?_ ?_; rotate_left 2; (focus (go_simp; first | done | rfl)); (focus ((try simp only [Kr.PT]); first | done | rfl)))
      (refine Kr.tSQ 1 [] (v := ?_) (a' := ?_) rfl (by kernel_rfl) (fun _ _ _ h => h) (by rfl) (H.sub [10, 1, 4, 3, 6, 0, 9, 7, 2, 5] rfl) (fun wx hSx => ?_) ?_ ?_; rotate_left 2; (focus (simp only [Kr.Cells] at hSx; go_simp; first | done | rfl)); (focus ((try simp only [Kr.PT]); first | done | rfl)))
      (refine Kr.tSQ 2 [] (v := ?_) (a' := ?_) rfl (by kernel_rfl) (fun _ _ _ h => h) (by rfl) (H.sub [10, 1, 4, 3, 6, 0, 9, 7, 2, 5] rfl) (fun wx hSx => ?_) ?_ ?_; rotate_left 2; (focus (simp only [Kr.Cells] at hSx; go_simp; first | done | rfl)); (focus ((try simp only [Kr.PT]); first | done | rfl)))
      (refine Kr.tPQ 4 (v := ?_) (a' := ?_) rfl (by kernel_rfl) (fun _ _ _ h => h) (by rfl) (fun _ => (H.sub [10, 1, 4, 3, 6, 0, 9, 7, 2, 5] rfl)) (fun wx => ?_) ?_ ?_; rotate_left 2; (focus (go_simp; first | done | rfl)); (focus ((try simp only [Kr.PT]); first | done | rfl)))
      (refine Kr.tSQ 5 [] (v := ?_) (a' := ?_) rfl (by kernel_rfl) (fun _ _ _ h => h) (by rfl) (H.sub [10, 1, 4, 3, 6, 0, 9, 7, 2, 5] rfl) (fun wx hSx => ?_) ?_ ?_; rotate_left 2; (focus (simp only [Kr.Cells] at hSx; go_simp; first | done | rfl)); (focus ((try simp only [Kr.PT]); first | done | rfl)))
      (refine Kr.tSQ 6 [] (v := ?_) (a' := ?_) rfl (by kernel_rfl) (fun _ _ _ h => h) (by rfl) (H.sub [10, 1, 4, 3, 6, 0, 9, 7, 2, 5] rfl) (fun wx hSx => ?_) ?_ ?_; rotate_left 2; (focus (simp only [Kr.Cells] at hSx; go_simp; first | done | rfl)); (focus ((try simp only [Kr.PT]); first | done | rfl)))
      refine Kr.readyL (rs := [3]) (by kernel_rfl) (by simp) ?_
      refine Kr.AllL.cons rfl (fun K hK => ?_) Kr.AllL.nil
      go_simp
      go_at_call 41
      refine (pows1_Pow (z := x ^ (u + v) % m) H 8 5 rfl rfl (H.nw 9 rfl) (H.nw 1 rfl) (H.nw 7 rfl) VM.out (Nat.mod_lt _ M0.out) (fun W1 h1 h2 h3 => mPow_ok h1 h2 h3 HX.out HUV.out VM.out)).mono ?_
      rintro e y117 ⟨p117, n117, c117, rfl, HH⟩
      replace H := HH
      clear HH
      (refine Kr.outL hK (a' := ?_) ?_ (fun _ => (H.sub [10, 1, 4, 3, 6, 0, 9, 7, 2, 5] rfl)) ?_; rotate_left; (focus ((try simp only [Kr.PT]); first | done | rfl))); clear hK K
      refine Kr.readyL (rs := [7]) (by kernel_rfl) (by simp) ?_
      refine Kr.AllL.cons rfl (fun K hK => ?_) Kr.AllL.nil
      go_simp
      go_at_call 42
      refine (pows1_Mul (z := (x ^ u % m) * (x ^ v % m) % m) H 8 5 rfl rfl (H.nw 5 rfl) (H.nw 4 rfl) (H.nw 8 rfl) VM.out (Nat.mod_lt _ M0.out) (fun W1 h1 h2 h3 => (mMul_v h1 h2 h3 (Nat.mod_lt _ M0.out) (Nat.mod_lt _ M0.out) VM.out).mono fun e w' h => gives_has h)).mono ?_
      rintro e y118 ⟨p118, n118, c118, rfl, HH⟩
      replace H := HH
      clear HH
      (refine Kr.outL hK (a' := ?_) ?_ (fun _ => (H.sub [10, 1, 4, 3, 6, 0, 9, 7, 2, 5] rfl)) ?_; rotate_left; (focus ((try simp only [Kr.PT]); first | done | rfl))); clear hK K
      refine Kr.readyL (rs := [8]) (by kernel_rfl) (by simp) ?_
      refine Kr.AllL.cons rfl (fun K hK => ?_) Kr.AllL.nil
      go_simp
      go_at_call 23
      refine (same3_v (H.nw 1 rfl) (H.nw 0 rfl)).mono ?_
      rintro e y119 ⟨rfl, hg⟩
      rw [decide_eq_true (pq_add ..)]
      replace H := H.grow hg
      clear hg
      (refine Kr.outL hK (a' := ?_) ?_ (fun _ => (H.sub [10, 1, 4, 3, 6, 0, 9, 7, 2, 5] rfl)) ?_; rotate_left; (focus ((try simp only [Kr.PT]); first | done | rfl))); clear hK K
      (refine Kr.tPQ 9 (v := ?_) (a' := ?_) rfl (by kernel_rfl) (fun _ _ _ h => h) (by rfl) (fun _ => (H.sub [10, 1, 4, 3, 6, 0, 9, 7, 2, 5] rfl)) (fun wx => ?_) ?_ ?_; rotate_left 2; (focus (go_simp; first | done | rfl)); (focus ((try simp only [Kr.PT]); first | done | rfl)))
      (refine Kr.tPQ 10 (v := ?_) (a' := ?_) rfl (by kernel_rfl) (fun _ _ _ h => h) (by rfl) (fun _ => (H.sub [10, 1, 4, 3, 6, 0, 9, 7, 2, 5] rfl)) (fun wx => ?_) ?_ ?_; rotate_left 2; (focus (go_simp; first | done | rfl)); (focus ((try simp only [Kr.PT]); first | done | rfl)))
      (refine Kr.tSQ 11 [] (v := ?_) (a' := ?_) rfl (by kernel_rfl) (fun _ _ _ h => h) (by rfl) (H.sub [10, 1, 4, 3, 6, 0, 9, 7, 2, 5] rfl) (fun wx hSx => ?_) ?_ ?_; rotate_left 2; (focus (simp only [Kr.Cells] at hSx; go_simp; first | done | rfl)); (focus ((try simp only [Kr.PT]); first | done | rfl)))
      (refine Kr.tSQ 12 [] (v := ?_) (a' := ?_) rfl (by kernel_rfl) (fun _ _ _ h => h) (by rfl) (H.sub [10, 1, 4, 3, 6, 0, 9, 7, 2, 5] rfl) (fun wx hSx => ?_) ?_ ?_; rotate_left 2; (focus (simp only [Kr.Cells] at hSx; go_simp; first | done | rfl)); (focus ((try simp only [Kr.PT]); first | done | rfl)))
      (refine Kr.tPQ 14 (v := ?_) (a' := ?_) rfl (by kernel_rfl) (fun _ _ _ h => h) (by rfl) (fun _ => (H.sub [10, 1, 4, 3, 6, 0, 9, 7, 2, 5] rfl)) (fun wx => ?_) ?_ ?_; rotate_left 2; (focus (go_simp; first | done | rfl)); (focus ((try simp only [Kr.PT]); first | done | rfl)))
      (refine Kr.tSQ 15 [] (v := ?_) (a' := ?_) rfl (by kernel_rfl) (fun _ _ _ h => h) (by rfl) (H.sub [10, 1, 4, 3, 6, 0, 9, 7, 2, 5] rfl) (fun wx hSx => ?_) ?_ ?_; rotate_left 2; (focus (simp only [Kr.Cells] at hSx; go_simp; first | done | rfl)); (focus ((try simp only [Kr.PT]); first | done | rfl)))
      (refine Kr.tSQ 16 [] (v := ?_) (a' := ?_) rfl (by kernel_rfl) (fun _ _ _ h => h) (by rfl) (H.sub [10, 1, 4, 3, 6, 0, 9, 7, 2, 5] rfl) (fun wx hSx => ?_) ?_ ?_; rotate_left 2; (focus (simp only [Kr.Cells] at hSx; go_simp; first | done | rfl)); (focus ((try simp only [Kr.PT]); first | done | rfl)))
      refine Kr.readyL (rs := [13]) (by kernel_rfl) (by simp) ?_
      refine Kr.AllL.cons rfl (fun K hK => ?_) Kr.AllL.nil
      go_simp
      go_at_call 41
      refine (pows1_Pow (z := (x ^ u % m) ^ v % m) H 8 5 rfl rfl (H.nw 6 rfl) (H.nw 7 rfl) (H.nw 9 rfl) VM.out (Nat.mod_lt _ M0.out) (fun W1 h1 h2 h3 => mPow_ok h1 h2 h3 (Nat.mod_lt _ M0.out) HV.out VM.out)).mono ?_
      rintro e y120 ⟨p120, n120, c120, rfl, HH⟩
      replace H := HH
      clear HH
      (refine Kr.outL hK (a' := ?_) ?_ (fun _ => (H.sub [10, 1, 4, 3, 6, 0, 9, 7, 2, 5] rfl)) ?_; rotate_left; (focus ((try simp only [Kr.PT]); first | done | rfl))); clear hK K
      refine Kr.readyL (rs := [17]) (by kernel_rfl) (by simp) ?_
      refine Kr.AllL.cons rfl (fun K hK => ?_) Kr.AllL.nil
      go_simp
      go_at_call 41
      refine (pows1_Pow (z := x ^ (u * v) % m) H 8 5 rfl rfl (H.nw 12 rfl) (H.nw 3 rfl) (H.nw 10 rfl) VM.out (Nat.mod_lt _ M0.out) (fun W1 h1 h2 h3 => mPow_ok h1 h2 h3 HX.out HUM.out VM.out)).mono ?_
      rintro e y121 ⟨p121, n121, c121, rfl, HH⟩
      replace H := HH
      clear HH
      (refine Kr.outL hK (a' := ?_) ?_ (fun _ => (H.sub [10, 1, 4, 3, 6, 0, 9, 7, 2, 5] rfl)) ?_; rotate_left; (focus ((try simp only [Kr.PT]); first | done | rfl))); clear hK K
      refine Kr.readyL (rs := [18]) (by kernel_rfl) (by simp) ?_
      refine Kr.AllL.cons rfl (fun K hK => ?_) Kr.AllL.nil
      go_simp
      go_at_call 23
      refine (same3_v (H.nw 1 rfl) (H.nw 0 rfl)).mono ?_
      rintro e y122 ⟨rfl, hg⟩
      rw [decide_eq_true (pq_mul ..)]
      replace H := H.grow hg
      clear hg
      (refine Kr.outL hK (a' := ?_) ?_ (fun _ => (H.sub [10, 1, 4, 3, 6, 0, 9, 7, 2, 5] rfl)) ?_; rotate_left; (focus ((try simp only [Kr.PT]); first | done | rfl))); clear hK K
      (refine Kr.tPQ 19 (v := ?_) (a' := ?_) rfl (by kernel_rfl) (fun _ _ _ h => h) (by rfl) (fun _ => (H.sub [10, 1, 4, 3, 6, 0, 9, 7, 2, 5] rfl)) (fun wx => ?_) ?_ ?_; rotate_left 2; (focus (go_simp; first | done | rfl)); (focus ((try simp only [Kr.PT]); first | done | rfl)))
      (refine Kr.tPQ 20 (v := ?_) (a' := ?_) rfl (by kernel_rfl) (fun _ _ _ h => h) (by rfl) (fun _ => (H.sub [10, 1, 4, 3, 6, 0, 9, 7, 2, 5] rfl)) (fun wx => ?_) ?_ ?_; rotate_left 2; (focus (go_simp; first | done | rfl)); (focus ((try simp only [Kr.PT]); first | done | rfl)))
      (refine Kr.tPQ 21 (v := ?_) (a' := ?_) rfl (by kernel_rfl) (fun _ _ _ h => h) (by rfl) (fun _ => (H.sub [10, 1, 4, 3, 6, 0, 9, 7, 2, 5] rfl)) (fun wx => ?_) ?_ ?_; rotate_left 2; (focus (go_simp; first | done | rfl)); (focus ((try simp only [Kr.PT]); first | done | rfl)))
      (refine Kr.tPQ 22 (v := ?_) (a' := ?_) rfl (by kernel_rfl) (fun _ _ _ h => h) (by rfl) (fun _ => (H.sub [10, 1, 4, 3, 6, 0, 9, 7, 2, 5] rfl)) (fun wx => ?_) ?_ ?_; rotate_left 2; (focus (go_simp; first | done | rfl)); (focus ((try simp only [Kr.PT]); first | done | rfl)))
      (refine Kr.tSQ 23 [] (v := ?_) (a' := ?_) rfl (by kernel_rfl) (fun _ _ _ h => h) (by rfl) (H.sub [10, 1, 4, 3, 6, 0, 9, 7, 2, 5] rfl) (fun wx hSx => ?_) ?_ ?_; rotate_left 2; (focus (simp only [Kr.Cells] at hSx; go_simp; first | done | rfl)); (focus ((try simp only [Kr.PT]); first | done | rfl)))
      (refine Kr.tSQ 24 [] (v := ?_) (a' := ?_) rfl (by kernel_rfl) (fun _ _ _ h => h) (by rfl) (H.sub [10, 1, 4, 3, 6, 0, 9, 7, 2, 5] rfl) (fun wx hSx => ?_) ?_ ?_; rotate_left 2; (focus (simp only [Kr.Cells] at hSx; go_simp; first | done | rfl)); (focus ((try simp only [Kr.PT]); first | done | rfl)))
      (refine Kr.tSQ 26 [] (v := ?_) (a' := ?_) rfl (by kernel_rfl) (fun _ _ _ h => h) (by rfl) (H.sub [10, 1, 4, 3, 6, 0, 9, 7, 2, 5] rfl) (fun wx hSx => ?_) ?_ ?_; rotate_left 2; (focus (simp only [Kr.Cells] at hSx; go_simp; first | done | rfl)); (focus ((try simp only [Kr.PT]); first | done | rfl)))
      (refine Kr.tPQ 28 (v := ?_) (a' := ?_) rfl (by kernel_rfl) (fun _ _ _ h => h) (by rfl) (fun _ => (H.sub [10, 1, 4, 3, 6, 0, 9, 7, 2, 5] rfl)) (fun wx => ?_) ?_ ?_; rotate_left 2; (focus (go_simp; first | done | rfl)); (focus ((try simp only [Kr.PT]); first | done | rfl)))
      (refine Kr.tSQ 29 [] (v := ?_) (a' := ?_) rfl (by kernel_rfl) (fun _ _ _ h => h) (by rfl) (H.sub [10, 1, 4, 3, 6, 0, 9, 7, 2, 5] rfl) (fun wx hSx => ?_) ?_ ?_; rotate_left 2; (focus (simp only [Kr.Cells] at hSx; go_simp; first | done | rfl)); (focus ((try simp only [Kr.PT]); first | done | rfl)))
      (refine Kr.tSQ 30 [] (v := ?_) (a' := ?_) rfl (by kernel_rfl) (fun _ _ _ h => h) (by rfl) (H.sub [10, 1, 4, 3, 6, 0, 9, 7, 2, 5] rfl) (fun wx hSx => ?_) ?_ ?_; rotate_left 2; (focus (simp only [Kr.Cells] at hSx; go_simp; first | done | rfl)); (focus ((try simp only [Kr.PT]); first | done | rfl)))
      refine Kr.readyL (rs := [25]) (by kernel_rfl) (by simp) ?_
      refine Kr.AllL.cons rfl (fun K hK => ?_) Kr.AllL.nil
      go_simp
      go_at_call 42
      refine (pows1_Mul (z := x * y % m) H 8 5 rfl rfl (H.nw 13 rfl) (H.nw 12 rfl) (H.nw 11 rfl) VM.out (Nat.mod_lt _ M0.out) (fun W1 h1 h2 h3 => (mMul_v h1 h2 h3 HX.out HY.out VM.out).mono fun e w' h => gives_has h)).mono ?_
      rintro e y123 ⟨p123, n123, c123, rfl, HH⟩
      replace H := HH
      clear HH
      (refine Kr.outL hK (a' := ?_) ?_ (fun _ => (H.sub [10, 1, 4, 3, 6, 0, 9, 7, 2, 5] rfl)) ?_; rotate_left; (focus ((try simp only [Kr.PT]); first | done | rfl))); clear hK K
      refine Kr.readyL (rs := [27]) (by kernel_rfl) (by simp) ?_
      refine Kr.AllL.cons rfl (fun K hK => ?_) Kr.AllL.nil
      go_simp
      go_at_call 41
      refine (pows1_Pow (z := (x * y % m) ^ u % m) H 8 5 rfl rfl (H.nw 0 rfl) (H.nw 11 rfl) (H.nw 12 rfl) VM.out (Nat.mod_lt _ M0.out) (fun W1 h1 h2 h3 => mPow_ok h1 h2 h3 (Nat.mod_lt _ M0.out) HU.out VM.out)).mono ?_
      rintro e y124 ⟨p124, n124, c124, rfl, HH⟩
      replace H := HH
      clear HH
      (refine Kr.outL hK (a' := ?_) ?_ (fun _ => (H.sub [10, 1, 4, 3, 6, 0, 9, 7, 2, 5] rfl)) ?_; rotate_left; (focus ((try simp only [Kr.PT]); first | done | rfl))); clear hK K
      refine Kr.readyL (rs := [31]) (by kernel_rfl) (by simp) ?_
      refine Kr.AllL.cons rfl (fun K hK => ?_) Kr.AllL.nil
      go_simp
      go_at_call 42
      refine (pows1_Mul (z := (x ^ u % m) * (y ^ u % m) % m) H 8 5 rfl rfl (H.nw 10 rfl) (H.nw 8 rfl) (H.nw 13 rfl) VM.out (Nat.mod_lt _ M0.out) (fun W1 h1 h2 h3 => (mMul_v h1 h2 h3 (Nat.mod_lt _ M0.out) (Nat.mod_lt _ M0.out) VM.out).mono fun e w' h => gives_has h)).mono ?_
      rintro e y125 ⟨p125, n125, c125, rfl, HH⟩
      replace H := HH
      clear HH
      (refine Kr.outL hK (a' := ?_) ?_ (fun _ => (H.sub [10, 1, 4, 3, 6, 0, 9, 7, 2, 5] rfl)) ?_; rotate_left; (focus ((try simp only [Kr.PT]); first | done | rfl))); clear hK K
      refine Kr.readyL (rs := [32]) (by kernel_rfl) (by simp) ?_
      refine Kr.AllL.cons rfl (fun K hK => ?_) Kr.AllL.nil
      go_simp
      go_at_call 23
      refine (same3_v (H.nw 1 rfl) (H.nw 0 rfl)).mono ?_
      rintro e y126 ⟨rfl, hg⟩
      rw [decide_eq_true (pq_base ..)]
      replace H := H.grow hg
      clear hg
      (refine Kr.outL hK (a' := ?_) ?_ (fun _ => (H.sub [10, 1, 4, 3, 6, 0, 9, 7, 2, 5] rfl)) ?_; rotate_left; (focus ((try simp only [Kr.PT]); first | done | rfl))); clear hK K
      (refine Kr.tPQ 33 (v := ?_) (a' := ?_) rfl (by kernel_rfl) (fun _ _ _ h => h) (by rfl) (fun _ => (H.sub [10, 1, 4, 3, 6, 0, 9, 7, 2, 5] rfl)) (fun wx => ?_) ?_ ?_; rotate_left 2; (focus (go_simp; first | done | rfl)); (focus ((try simp only [Kr.PT]); first | done | rfl)))
      (refine Kr.tPQ 34 (v := ?_) (a' := ?_) rfl (by kernel_rfl) (fun _ _ _ h => h) (by rfl) (fun _ => (H.sub [10, 1, 4, 3, 6, 0, 9, 7, 2, 5] rfl)) (fun wx => ?_) ?_ ?_; rotate_left 2; (focus (go_simp; first | done | rfl)); (focus ((try simp only [Kr.PT]); first | done | rfl)))
      (refine Kr.tPQ 35 (v := ?_) (a' := ?_) rfl (by kernel_rfl) (fun _ _ _ h => h) (by rfl) (fun _ => (H.sub [10, 1, 4, 3, 6, 0, 9, 7, 2, 5] rfl)) (fun wx => ?_) ?_ ?_; rotate_left 2; (focus (go_simp; first | done | rfl)); (focus ((try simp only [Kr.PT]); first | done | rfl)))
      (refine Kr.tSQ 36 [] (v := ?_) (a' := ?_) rfl (by kernel_rfl) (fun _ _ _ h => h) (by rfl) (H.sub [10, 1, 4, 3, 6, 0, 9, 7, 2, 5] rfl) (fun wx hSx => ?_) ?_ ?_; rotate_left 2; (focus (simp only [Kr.Cells] at hSx; go_simp; first | done | rfl)); (focus ((try simp only [Kr.PT]); first | done | rfl)))
      (refine Kr.tSQ 39 [] (v := ?_) (a' := ?_) rfl (by kernel_rfl) (fun _ _ _ h => h) (by rfl) (H.sub [10, 1, 4, 3, 6, 0, 9, 7, 2, 5] rfl) (fun wx hSx => ?_) ?_ ?_; rotate_left 2; (focus (simp only [Kr.Cells] at hSx; go_simp; first | done | rfl)); (focus ((try simp only [Kr.PT]); first | done | rfl)))
      refine Kr.readyL (rs := [37]) (by kernel_rfl) (by simp) ?_
      refine Kr.AllL.cons rfl (fun K hK => ?_) Kr.AllL.nil
      go_simp
      go_at_call 38
      refine (of3_v 1 (by decide) _).mono ?_
      rintro e y127 ⟨p127, n127, c127, rfl, hr, hg⟩
      replace H := H.grow hg
      replace H := H.num hr.toNw
      clear hr hg
      (refine Kr.outL hK (a' := ?_) ?_ (fun _ => (H.sub [10, 1, 4, 3, 6, 0, 9, 7, 2, 5] rfl)) ?_; rotate_left; (focus ((try simp only [Kr.PT]); first | done | rfl))); clear hK K
      refine Kr.readyL (rs := [38]) (by kernel_rfl) (by simp) ?_
      refine Kr.AllL.cons rfl (fun K hK => ?_) Kr.AllL.nil
      go_simp
      go_at_call 41
      refine (pows1_Pow (z := x ^ 1 % m) H 8 5 rfl rfl (H.nw 17 rfl) (H.nw 0 rfl) (H.nw 15 rfl) VM.out (Nat.mod_lt _ M0.out) (fun W1 h1 h2 h3 => mPow_ok h1 h2 h3 HX.out (pw_lt (show 0 < 64 by decide)) VM.out)).mono ?_
      rintro e y128 ⟨p128, n128, c128, rfl, HH⟩
      replace H := HH
      clear HH
      (refine Kr.outL hK (a' := ?_) ?_ (fun _ => (H.sub [10, 1, 4, 3, 6, 0, 9, 7, 2, 5] rfl)) ?_; rotate_left; (focus ((try simp only [Kr.PT]); first | done | rfl))); clear hK K
      refine Kr.readyL (rs := [40]) (by kernel_rfl) (by simp) ?_
      refine Kr.AllL.cons rfl (fun K hK => ?_) Kr.AllL.nil
      go_simp
      go_at_call 23
      refine (same3_v (H.nw 0 rfl) (H.nw 18 rfl)).mono ?_
      rintro e y129 ⟨rfl, hg⟩
      rw [decide_eq_true (pq_one HX.out)]
      replace H := H.grow hg
      clear hg
      (refine Kr.outL hK (a' := ?_) ?_ (fun _ => (H.sub [10, 1, 4, 3, 6, 0, 9, 7, 2, 5] rfl)) ?_; rotate_left; (focus ((try simp only [Kr.PT]); first | done | rfl))); clear hK K
      (refine Kr.tPQ 41 (v := ?_) (a' := ?_) rfl (by kernel_rfl) (fun _ _ _ h => h) (by rfl) (fun _ => (H.sub [10, 1, 4, 3, 6, 0, 9, 7, 2, 5] rfl)) (fun wx => ?_) ?_ ?_; rotate_left 2; (focus (go_simp; first | done | rfl)); (focus ((try simp only [Kr.PT]); first | done | rfl)))
      (refine Kr.tPQ 42 (v := ?_) (a' := ?_) rfl (by kernel_rfl) (fun _ _ _ h => h) (by rfl) (fun _ => (H.sub [10, 1, 4, 3, 6, 0, 9, 7, 2, 5] rfl)) (fun wx => ?_) ?_ ?_; rotate_left 2; (focus (go_simp; first | done | rfl)); (focus ((try simp only [Kr.PT]); first | done | rfl)))
      (refine Kr.tSQ 43 [] (v := ?_) (a' := ?_) rfl (by kernel_rfl) (fun _ _ _ h => h) (by rfl) (H.sub [10, 1, 4, 3, 6, 0, 9, 7, 2, 5] rfl) (fun wx hSx => ?_) ?_ ?_; rotate_left 2; (focus (simp only [Kr.Cells] at hSx; go_simp; first | done | rfl)); (focus ((try simp only [Kr.PT]); first | done | rfl)))
      (refine Kr.tPQ 44 (v := ?_) (a' := ?_) rfl (by kernel_rfl) (fun _ _ _ h => h) (by rfl) (fun _ => (H.sub [10, 1, 4, 3, 6, 0, 9, 7, 2, 5] rfl)) (fun wx => ?_) ?_ ?_; rotate_left 2; (focus (go_simp; first | done | rfl)); (focus ((try simp only [Kr.PT]); first | done | rfl)))
      (refine Kr.tPQ 45 (v := ?_) (a' := ?_) rfl (by kernel_rfl) (fun _ _ _ h => h) (by rfl) (fun _ => (H.sub [10, 1, 4, 3, 6, 0, 9, 7, 2, 5] rfl)) (fun wx => ?_) ?_ ?_; rotate_left 2; (focus (go_simp; first | done | rfl)); (focus ((try simp only [Kr.PT]); first | done | rfl)))
      refine Kr.doneL (by kernel_rfl) ?_ _
      go_wp2
      go_ret
      exact ⟨rfl, H.g⟩
theorem NatmodPowers (w : World) (pa : Option Addr) (na ca : Nat) (pb : Option Addr) (nb cb : Nat) (pm : Option Addr) (nm cm : Nat) (pe : Option Addr) (ne ce : Nat) (pf : Option Addr) (nf cf : Nat) (h1 : Nin w pa na ca) (h2 : Nin w pb nb cb) (h3 : Nin w pm nm cm) (h4 : Nin w pe ne ce) (h5 : Nin w pf nf cf) :
    Calls Try.prog 8 #[.agg #[.slice pa na ca], .agg #[.slice pb nb cb], .agg #[.slice pm nm cm], .agg #[.slice pe ne ce], .agg #[.slice pf nf cf]] w fun e w' => e = .returned (.bool true) ∧ Gr w w' := by
  by_cases g : ∃ x ∈ [(pa, na, ca), (pb, nb, cb), (pm, nm, cm)], 8 < x.2.1
  · exact pows_g8 g
  have hs : ∀ x ∈ [(pa, na, ca), (pb, nb, cb), (pm, nm, cm)], x.2.1 ≤ 8 := fun x hx => Nat.le_of_not_lt fun h => g ⟨x, hx, h⟩
  by_cases g2 : ∃ x ∈ [(pe, ne, ce), (pf, nf, cf)], 2 < x.2.1
  · exact pows_g2 hs g2
  have hs2 : ∀ x ∈ [(pe, ne, ce), (pf, nf, cf)], x.2.1 ≤ 2 := fun x hx => Nat.le_of_not_lt fun h => g2 ⟨x, hx, h⟩
  have ea : na ≤ 8 := hs (pa, na, ca) (by simp)
  have eb : nb ≤ 8 := hs (pb, nb, cb) (by simp)
  have em : nm ≤ 8 := hs (pm, nm, cm) (by simp)
  have ee : ne ≤ 2 := hs2 (pe, ne, ce) (by simp)
  have ef : nf ≤ 2 := hs2 (pf, nf, cf) (by simp)
  obtain ⟨la, ha⟩ := h1.nw (by omega)
  obtain ⟨lb, hb⟩ := h2.nw (by omega)
  obtain ⟨lm, hm⟩ := h3.nw (by omega)
  obtain ⟨le, he⟩ := h4.nw (by omega)
  obtain ⟨lf, hff⟩ := h5.nw (by omega)
  obtain ⟨k, hf, _, hk⟩ := code2 ha hb hm
  have hk' : (k = 1 ∨ k = 2) ∨ k = 0 ∧ ∃ x y m, la = digs x ∧ lb = digs y ∧ lm = digs m ∧ x < m ∧ y < m ∧ m < pw 32 := by
    rcases hk with h | h | h
    · exact .inl (.inl h)
    · exact .inl (.inr h)
    · exact .inr h
  clear hk
  rcases hk' with hk | ⟨rfl, x, y, m, rfl, rfl, rfl, hx, hy, vm⟩
  · exact pows_err hs hs2 hf hk
  · cases ve : decide (valid le) with
    | false => exact pows_ve hs hs2 hf he hff ve
    | true =>
      cases vf : decide (valid lf) with
      | false => exact pows_vf hs hs2 hf he hff ve vf
      | true =>
        obtain ⟨u, _, rfl⟩ := nw_value he ve
        obtain ⟨v, _, rfl⟩ := nw_value hff vf
        exact pows_ok hs hs2 hf ha hb hm he hff hx hy vm
end Go.Proofs.Ytlciocebbckdcaa.Ml
