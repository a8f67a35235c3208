/- The walk of NatmodRing. -/
import Derived.Test.YtlciocebbckdcaaQMwe
import Derived.Deep.Cut
namespace Go.Proofs.Ytlciocebbckdcaa.Ml
open Go.RowKit Go.Shelf Go.Proofs.Ytlciocebbckdcaa.Nm Go.Proofs.Ytlciocebbckdcaa.Ne Go.Proofs.Ytlciocebbckdcaa.Nf Go.Proofs.Ytlciocebbckdcaa.Nk Go.Proofs.Ytlciocebbckdcaa.Nv Go.Proofs.Ytlciocebbckdcaa.Nr2 Go.Proofs.Ytlciocebbckdcaa.Mo Go.Proofs.Ytlciocebbckdcaa.Mr Go.Proofs.Ytlciocebbckdcaa.Kr Go.Proofs.Ytlciocebbckdcaa.Nl

theorem code3 {w : World} {pa : Option Addr} {na ca : Nat} {pb : Option Addr} {nb cb : Nat} {pc : Option Addr} {nc cc : Nat} {pm : Option Addr} {nm cm : Nat} {la lb lc lm : List Nat} (ha : Nw w pa na ca la) (hb : Nw w pb nb cb lb) (hc : Nw w pc nc cc lc) (hm : Nw w pm nm cm lm) :
    ∃ k, Fst w (.agg #[.slice pm nm cm]) [(pa, na, ca), (pb, nb, cb), (pc, nc, cc)] k ∧ ((k = 1 ∨ k = 2) ∨ k = 0 ∧ ∃ x y z m, la = digs x ∧ lb = digs y ∧ lc = digs z ∧ lm = digs m ∧ x < m ∧ y < m ∧ z < m ∧ m < pw 32) := by
  cases hi : im lm with
  | false => exact ⟨1, fst_arg (ls := [la, lb, lc]) hm ⟨ha, hb, hc, trivial⟩ (by simp) (.inl hi), .inl (.inl rfl)⟩
  | true =>
    cases va : decide (valid la) with
    | false => exact ⟨1, fst_arg (ls := [la, lb, lc]) hm ⟨ha, hb, hc, trivial⟩ (by simp) (.inr ⟨la, by simp, va⟩), .inl (.inl rfl)⟩
    | true =>
      cases vb : decide (valid lb) with
      | false => exact ⟨1, fst_arg (ls := [la, lb, lc]) hm ⟨ha, hb, hc, trivial⟩ (by simp) (.inr ⟨lb, by simp, vb⟩), .inl (.inl rfl)⟩
      | true =>
        cases vc : decide (valid lc) with
        | false => exact ⟨1, fst_arg (ls := [la, lb, lc]) hm ⟨ha, hb, hc, trivial⟩ (by simp) (.inr ⟨lc, by simp, vc⟩), .inl (.inl rfl)⟩
        | true =>
          obtain ⟨m, h0, vm, rfl⟩ := im_value hm hi
          obtain ⟨x, hx, rfl⟩ := nw_value ha va
          obtain ⟨y, hy, rfl⟩ := nw_value hb vb
          obtain ⟨z, hz, rfl⟩ := nw_value hc vc
          have hf := fst_val (xs := [(pa, na, ca), (pb, nb, cb), (pc, nc, cc)]) (ys := [x, y, z]) hm h0 vm ⟨ha, hb, hc, trivial⟩ (by simp) (by simpa using ⟨hx, hy, hz⟩)
          by_cases h : x < m ∧ y < m ∧ z < m
          · exact ⟨0, hf.1 (by simpa using h), .inr ⟨rfl, x, y, z, m, rfl, rfl, rfl, rfl, h.1, h.2.1, h.2.2, vm⟩⟩
          · refine ⟨2, hf.2 ?_, .inl (.inr rfl)⟩
            by_cases h1 : x < m
            · by_cases h2 : y < m
              · exact ⟨z, by simp, fun h3 => h ⟨h1, h2, h3⟩⟩
              · exact ⟨y, by simp, h2⟩
            · exact ⟨x, by simp, h1⟩
theorem rg_one (x y z m : Nat) : x * y % m * z % m = x * (y * z % m) % m := by rw [Nat.mod_mul_mod, Nat.mul_mod_mod, Nat.mul_assoc]
theorem rg_left (x y z m : Nat) : (x + y) % m * z % m = (x * z % m + y * z % m) % m := by rw [Nat.mod_mul_mod, ← Nat.add_mod, Nat.add_mul]
theorem rg_back {x y m : Nat} (hx : x < m) (hy : y < m) : ((x + y) % m + m - y) % m = x := by
  rcases Nat.lt_or_ge (x + y) m with h | h
  · rw [Nat.mod_eq_of_lt h, show x + y + m - y = x + m by omega, Nat.add_mod_right, Nat.mod_eq_of_lt hx]
  · rw [Nat.mod_eq_sub_mod h, Nat.mod_eq_of_lt (show x + y - m < m by omega), show x + y - m + m - y = x by omega, Nat.mod_eq_of_lt hx]
theorem rg_zero (x m : Nat) : (x + m - x) % m = 0 := by rw [Nat.add_sub_cancel_left, Nat.mod_self]
set_option linter.unusedSimpArgs false in
set_option maxRecDepth 100000 in
set_option maxHeartbeats 16000000 in
theorem ring_g {pa : Option Addr} {na ca : Nat} {pb : Option Addr} {nb cb : Nat} {pc : Option Addr} {nc cc : Nat} {pm : Option Addr} {nm cm : Nat} {w : World} (hg : ∃ x ∈ [(pa, na, ca), (pb, nb, cb), (pc, nc, cc), (pm, nm, cm)], 32 < x.2.1) :
    Calls Try.prog 7 #[.agg #[.slice pa na ca], .agg #[.slice pb nb cb], .agg #[.slice pc nc cc], .agg #[.slice pm nm cm]] w fun e w' => e = .returned (.bool true) ∧ Gr w w' := by
  have HG := Lib.hid hg
  clear hg
  have H := Sta.start w
  go_enter Try.func7, Try.ntmps7
  go_upto_region 0 with fail
  refine Kr.seqStartW ?_
  refine Kr.seqR (by rfl) (fun K hK => ?_)
  go_simp
  obtain ⟨y1, hy⟩ : ∃ y, w.alloc (.cells #[.slice pa na ca] 24) = y := ⟨_, rfl⟩
  obtain ⟨ba, hb⟩ : ∃ b, w.heap.size = b := ⟨_, rfl⟩
  rw [hy, hb]
  replace H := H.alloc hy hb rfl
  clear hy hb
  (refine Kr.outS hK (a' := ?_) ?_ ?_; rotate_left; (focus ((try simp only [Act.put, List.getElem_toArray, List.getElem_cons_zero, List.getElem_cons_succ, List.setIfInBounds_toArray, List.set_cons_zero, List.set_cons_succ]); first | done | rfl))); clear hK K
  refine Kr.seqR (by rfl) (fun K hK => ?_)
  go_simp
  obtain ⟨y2, hy⟩ : ∃ y, y1.alloc (.cells #[.slice pb nb cb] 24) = y := ⟨_, rfl⟩
  obtain ⟨bb, hb⟩ : ∃ b, y1.heap.size = b := ⟨_, rfl⟩
  rw [hy, hb]
  replace H := H.alloc hy hb rfl
  clear hy hb
  (refine Kr.outS hK (a' := ?_) ?_ ?_; rotate_left; (focus ((try simp only [Act.put, List.getElem_toArray, List.getElem_cons_zero, List.getElem_cons_succ, List.setIfInBounds_toArray, List.set_cons_zero, List.set_cons_succ]); first | done | rfl))); clear hK K
  refine Kr.seqR (by rfl) (fun K hK => ?_)
  go_simp
  obtain ⟨y3, hy⟩ : ∃ y, y2.alloc (.cells #[.slice pc nc cc] 24) = y := ⟨_, rfl⟩
  obtain ⟨bc, hb⟩ : ∃ b, y2.heap.size = b := ⟨_, rfl⟩
  rw [hy, hb]
  replace H := H.alloc hy hb rfl
  clear hy hb
  (refine Kr.outS hK (a' := ?_) ?_ ?_; rotate_left; (focus ((try simp only [Act.put, List.getElem_toArray, List.getElem_cons_zero, List.getElem_cons_succ, List.setIfInBounds_toArray, List.set_cons_zero, List.set_cons_succ]); first | done | rfl))); clear hK K
  refine Kr.seqR (by rfl) (fun K hK => ?_)
  go_simp
  obtain ⟨y4, hy⟩ : ∃ y, y3.alloc (.cells #[.slice pm nm cm] 24) = y := ⟨_, rfl⟩
  obtain ⟨bm, hb⟩ : ∃ b, y3.heap.size = b := ⟨_, rfl⟩
  rw [hy, hb]
  replace H := H.alloc hy hb rfl
  clear hy hb
  (refine Kr.outS hK (a' := ?_) ?_ ?_; rotate_left; (focus ((try simp only [Act.put, List.getElem_toArray, List.getElem_cons_zero, List.getElem_cons_succ, List.setIfInBounds_toArray, List.set_cons_zero, List.set_cons_succ]); first | done | rfl))); clear hK K
  (refine Kr.seqQ (v := ?_) (a' := ?_) (by rfl) ?_ ?_ ?_; rotate_left 2; (focus (go_simp; first | done | rfl)); (focus ((try simp only [Act.put, List.getElem_toArray, List.getElem_cons_zero, List.getElem_cons_succ, List.setIfInBounds_toArray, List.set_cons_zero, List.set_cons_succ]); first | done | rfl)))
  refine Kr.seqDoneW ?_
  go_upto_region 1 with fail
  refine Kr.seqStartW ?_
  refine Kr.seqR (by rfl) (fun K hK => ?_)
  go_simp
  go_at_call 18
  refine (awake3 _).mono ?_
  rintro e y5 ⟨rfl, hg⟩
  replace H := H.grow hg
  clear hg
  (refine Kr.outS hK (a' := ?_) ?_ ?_; rotate_left; (focus ((try simp only [Act.put, List.getElem_toArray, List.getElem_cons_zero, List.getElem_cons_succ, List.setIfInBounds_toArray, List.set_cons_zero, List.set_cons_succ]); first | done | rfl))); clear hK K
  iterate 2 (refine Kr.seqQ (v := ?_) (a' := ?_) (by rfl) ?_ ?_ ?_; rotate_left 2; (focus (go_simp; first | done | rfl)); (focus ((try simp only [Act.put, List.getElem_toArray, List.getElem_cons_zero, List.getElem_cons_succ, List.setIfInBounds_toArray, List.set_cons_zero, List.set_cons_succ]); first | done | rfl)))
  have hk := H.c
  simp only [Kr.Cells] at hk
  iterate 4 (refine Kr.seqQ (v := ?_) (a' := ?_) (by rfl) ?_ ?_ ?_; rotate_left 2; (focus (go_simp; first | done | rfl)); (focus ((try simp only [Act.put, List.getElem_toArray, List.getElem_cons_zero, List.getElem_cons_succ, List.setIfInBounds_toArray, List.set_cons_zero, List.set_cons_succ]); first | done | rfl)))
  refine Kr.seqR (by rfl) (fun K hK => ?_)
  go_simp
  clear hk
  obtain ⟨y6, hy⟩ : ∃ y, y5.alloc (.cells #[.slice pa na ca, .slice pb nb cb, .slice pc nc cc, .slice pm nm cm] 24) = y := ⟨_, rfl⟩
  obtain ⟨by6, hb⟩ : ∃ b, y5.heap.size = b := ⟨_, rfl⟩
  rw [hy, hb]
  have HN : Nats y6 by6 0 [(pa, na, ca), (pb, nb, cb), (pc, nc, cc), (pm, nm, cm)] := nats_mk hy hb
  have hg : Gr y5 y6 := hy ▸ (Gr.refl _).alloc _
  replace H := H.grow hg
  clear hg hy hb
  (refine Kr.outS hK (a' := ?_) ?_ ?_; rotate_left; (focus ((try simp only [Act.put, List.getElem_toArray, List.getElem_cons_zero, List.getElem_cons_succ, List.setIfInBounds_toArray, List.set_cons_zero, List.set_cons_succ]); first | done | rfl))); clear hK K
  refine Kr.seqR (by rfl) (fun K hK => ?_)
  go_simp
  go_at_call 19
  refine (few_no HN (by simp) HG.out).mono ?_
  rintro e y7 ⟨rfl, hg⟩
  replace H := H.grow hg
  clear hg
  clear HN
  (refine Kr.outS hK (a' := ?_) ?_ ?_; rotate_left; (focus ((try simp only [Act.put, List.getElem_toArray, List.getElem_cons_zero, List.getElem_cons_succ, List.setIfInBounds_toArray, List.set_cons_zero, List.set_cons_succ]); first | done | rfl))); clear hK K
  iterate 3 (refine Kr.seqQ (v := ?_) (a' := ?_) (by rfl) ?_ ?_ ?_; rotate_left 2; (focus (go_simp; first | done | rfl)); (focus ((try simp only [Act.put, List.getElem_toArray, List.getElem_cons_zero, List.getElem_cons_succ, List.setIfInBounds_toArray, List.set_cons_zero, List.set_cons_succ]); first | done | rfl)))
  (refine Kr.seqSkipQ (a' := ?_) (by rfl) ?_ ?_; rotate_left; (focus ((try simp only [Act.put, List.getElem_toArray, List.getElem_cons_zero, List.getElem_cons_succ, List.setIfInBounds_toArray, List.set_cons_zero, List.set_cons_succ]); first | done | rfl)))
  (refine Kr.seqSkipQ (a' := ?_) (by rfl) ?_ ?_; rotate_left; (focus ((try simp only [Act.put, List.getElem_toArray, List.getElem_cons_zero, List.getElem_cons_succ, List.setIfInBounds_toArray, List.set_cons_zero, List.set_cons_succ]); first | done | rfl)))
  (refine Kr.seqSkipQ (a' := ?_) (by rfl) ?_ ?_; rotate_left; (focus ((try simp only [Act.put, List.getElem_toArray, List.getElem_cons_zero, List.getElem_cons_succ, List.setIfInBounds_toArray, List.set_cons_zero, List.set_cons_succ]); first | done | rfl)))
  (refine Kr.seqSkipQ (a' := ?_) (by rfl) ?_ ?_; rotate_left; (focus ((try simp only [Act.put, List.getElem_toArray, List.getElem_cons_zero, List.getElem_cons_succ, List.setIfInBounds_toArray, List.set_cons_zero, List.set_cons_succ]); first | done | rfl)))
  (refine Kr.seqSkipQ (a' := ?_) (by rfl) ?_ ?_; rotate_left; (focus ((try simp only [Act.put, List.getElem_toArray, List.getElem_cons_zero, List.getElem_cons_succ, List.setIfInBounds_toArray, List.set_cons_zero, List.set_cons_succ]); first | done | rfl)))
  (refine Kr.seqSkipQ (a' := ?_) (by rfl) ?_ ?_; rotate_left; (focus ((try simp only [Act.put, List.getElem_toArray, List.getElem_cons_zero, List.getElem_cons_succ, List.setIfInBounds_toArray, List.set_cons_zero, List.set_cons_succ]); first | done | rfl)))
  (refine Kr.seqSkipQ (a' := ?_) (by rfl) ?_ ?_; rotate_left; (focus ((try simp only [Act.put, List.getElem_toArray, List.getElem_cons_zero, List.getElem_cons_succ, List.setIfInBounds_toArray, List.set_cons_zero, List.set_cons_succ]); first | done | rfl)))
  (refine Kr.seqQ (v := ?_) (a' := ?_) (by rfl) ?_ ?_ ?_; rotate_left 2; (focus (go_simp; first | done | rfl)); (focus ((try simp only [Act.put, List.getElem_toArray, List.getElem_cons_zero, List.getElem_cons_succ, List.setIfInBounds_toArray, List.set_cons_zero, List.set_cons_succ]); first | done | rfl)))
  refine Kr.seqDoneW ?_
  go_upto_region 2 with fail
  refine Kr.seqStartW ?_
  refine Kr.seqR (by rfl) (fun K hK => ?_)
  go_simp
  go_at_call 18
  refine (awake3 _).mono ?_
  rintro e y8 ⟨rfl, hg⟩
  replace H := H.grow hg
  clear hg
  (refine Kr.outS hK (a' := ?_) ?_ ?_; rotate_left; (focus ((try simp only [Act.put, List.getElem_toArray, List.getElem_cons_zero, List.getElem_cons_succ, List.setIfInBounds_toArray, List.set_cons_zero, List.set_cons_succ]); first | done | rfl))); clear hK K
  (refine Kr.seqQ (v := ?_) (a' := ?_) (by rfl) ?_ ?_ ?_; rotate_left 2; (focus (go_simp; first | done | rfl)); (focus ((try simp only [Act.put, List.getElem_toArray, List.getElem_cons_zero, List.getElem_cons_succ, List.setIfInBounds_toArray, List.set_cons_zero, List.set_cons_succ]); first | done | rfl)))
  refine Kr.seqDoneW ?_
  go_wp2
  go_ret
  exact ⟨rfl, H.g⟩
set_option linter.unusedSimpArgs false in
set_option maxRecDepth 100000 in
set_option maxHeartbeats 16000000 in
theorem ring_err {pa : Option Addr} {na ca : Nat} {pb : Option Addr} {nb cb : Nat} {pc : Option Addr} {nc cc : Nat} {pm : Option Addr} {nm cm : Nat} {k : Nat} {w : World} (hs : ∀ x ∈ [(pa, na, ca), (pb, nb, cb), (pc, nc, cc), (pm, nm, cm)], x.2.1 ≤ 32) (hf : Fst w (.agg #[.slice pm nm cm]) [(pa, na, ca), (pb, nb, cb), (pc, nc, cc)] k) (hk : k = 1 ∨ k = 2) :
    Calls Try.prog 7 #[.agg #[.slice pa na ca], .agg #[.slice pb nb cb], .agg #[.slice pc nc cc], .agg #[.slice pm nm cm]] w fun e w' => e = .returned (.bool true) ∧ Gr w w' := by
  have HS := Lib.hid hs
  have HF := Lib.hid hf
  clear hs hf
  have HK := Lib.hid hk
  have nk : ¬ (k : Int) = 0 := by rcases hk with rfl | rfl <;> decide
  have ek : ((k : Int) == 0) = false := by rcases hk with rfl | rfl <;> rfl
  clear hk
  have H := Sta.start w
  go_enter Try.func7, Try.ntmps7
  go_upto_region 0 with fail
  refine Kr.seqStartW ?_
  refine Kr.seqR (by rfl) (fun K hK => ?_)
  go_simp
  obtain ⟨y1, hy⟩ : ∃ y, w.alloc (.cells #[.slice pa na ca] 24) = y := ⟨_, rfl⟩
  obtain ⟨ba, hb⟩ : ∃ b, w.heap.size = b := ⟨_, rfl⟩
  rw [hy, hb]
  replace H := H.alloc hy hb rfl
  clear hy hb
  (refine Kr.outS hK (a' := ?_) ?_ ?_; rotate_left; (focus ((try simp only [Act.put, List.getElem_toArray, List.getElem_cons_zero, List.getElem_cons_succ, List.setIfInBounds_toArray, List.set_cons_zero, List.set_cons_succ]); first | done | rfl))); clear hK K
  refine Kr.seqR (by rfl) (fun K hK => ?_)
  go_simp
  obtain ⟨y2, hy⟩ : ∃ y, y1.alloc (.cells #[.slice pb nb cb] 24) = y := ⟨_, rfl⟩
  obtain ⟨bb, hb⟩ : ∃ b, y1.heap.size = b := ⟨_, rfl⟩
  rw [hy, hb]
  replace H := H.alloc hy hb rfl
  clear hy hb
  (refine Kr.outS hK (a' := ?_) ?_ ?_; rotate_left; (focus ((try simp only [Act.put, List.getElem_toArray, List.getElem_cons_zero, List.getElem_cons_succ, List.setIfInBounds_toArray, List.set_cons_zero, List.set_cons_succ]); first | done | rfl))); clear hK K
  refine Kr.seqR (by rfl) (fun K hK => ?_)
  go_simp
  obtain ⟨y3, hy⟩ : ∃ y, y2.alloc (.cells #[.slice pc nc cc] 24) = y := ⟨_, rfl⟩
  obtain ⟨bc, hb⟩ : ∃ b, y2.heap.size = b := ⟨_, rfl⟩
  rw [hy, hb]
  replace H := H.alloc hy hb rfl
  clear hy hb
  (refine Kr.outS hK (a' := ?_) ?_ ?_; rotate_left; (focus ((try simp only [Act.put, List.getElem_toArray, List.getElem_cons_zero, List.getElem_cons_succ, List.setIfInBounds_toArray, List.set_cons_zero, List.set_cons_succ]); first | done | rfl))); clear hK K
  refine Kr.seqR (by rfl) (fun K hK => ?_)
  go_simp
  obtain ⟨y4, hy⟩ : ∃ y, y3.alloc (.cells #[.slice pm nm cm] 24) = y := ⟨_, rfl⟩
  obtain ⟨bm, hb⟩ : ∃ b, y3.heap.size = b := ⟨_, rfl⟩
  rw [hy, hb]
  replace H := H.alloc hy hb rfl
  clear hy hb
  (refine Kr.outS hK (a' := ?_) ?_ ?_; rotate_left; (focus ((try simp only [Act.put, List.getElem_toArray, List.getElem_cons_zero, List.getElem_cons_succ, List.setIfInBounds_toArray, List.set_cons_zero, List.set_cons_succ]); first | done | rfl))); clear hK K
  (refine Kr.seqQ (v := ?_) (a' := ?_) (by rfl) ?_ ?_ ?_; rotate_left 2; (focus (go_simp; first | done | rfl)); (focus ((try simp only [Act.put, List.getElem_toArray, List.getElem_cons_zero, List.getElem_cons_succ, List.setIfInBounds_toArray, List.set_cons_zero, List.set_cons_succ]); first | done | rfl)))
  refine Kr.seqDoneW ?_
  go_upto_region 1 with fail
  refine Kr.seqStartW ?_
  refine Kr.seqR (by rfl) (fun K hK => ?_)
  go_simp
  go_at_call 18
  refine (awake3 _).mono ?_
  rintro e y5 ⟨rfl, hg⟩
  replace H := H.grow hg
  clear hg
  (refine Kr.outS hK (a' := ?_) ?_ ?_; rotate_left; (focus ((try simp only [Act.put, List.getElem_toArray, List.getElem_cons_zero, List.getElem_cons_succ, List.setIfInBounds_toArray, List.set_cons_zero, List.set_cons_succ]); first | done | rfl))); clear hK K
  iterate 2 (refine Kr.seqQ (v := ?_) (a' := ?_) (by rfl) ?_ ?_ ?_; rotate_left 2; (focus (go_simp; first | done | rfl)); (focus ((try simp only [Act.put, List.getElem_toArray, List.getElem_cons_zero, List.getElem_cons_succ, List.setIfInBounds_toArray, List.set_cons_zero, List.set_cons_succ]); first | done | rfl)))
  have hk := H.c
  simp only [Kr.Cells] at hk
  iterate 4 (refine Kr.seqQ (v := ?_) (a' := ?_) (by rfl) ?_ ?_ ?_; rotate_left 2; (focus (go_simp; first | done | rfl)); (focus ((try simp only [Act.put, List.getElem_toArray, List.getElem_cons_zero, List.getElem_cons_succ, List.setIfInBounds_toArray, List.set_cons_zero, List.set_cons_succ]); first | done | rfl)))
  refine Kr.seqR (by rfl) (fun K hK => ?_)
  go_simp
  clear hk
  obtain ⟨y6, hy⟩ : ∃ y, y5.alloc (.cells #[.slice pa na ca, .slice pb nb cb, .slice pc nc cc, .slice pm nm cm] 24) = y := ⟨_, rfl⟩
  obtain ⟨by6, hb⟩ : ∃ b, y5.heap.size = b := ⟨_, rfl⟩
  rw [hy, hb]
  have HN : Nats y6 by6 0 [(pa, na, ca), (pb, nb, cb), (pc, nc, cc), (pm, nm, cm)] := nats_mk hy hb
  have hg : Gr y5 y6 := hy ▸ (Gr.refl _).alloc _
  replace H := H.grow hg
  clear hg hy hb
  (refine Kr.outS hK (a' := ?_) ?_ ?_; rotate_left; (focus ((try simp only [Act.put, List.getElem_toArray, List.getElem_cons_zero, List.getElem_cons_succ, List.setIfInBounds_toArray, List.set_cons_zero, List.set_cons_succ]); first | done | rfl))); clear hK K
  refine Kr.seqR (by rfl) (fun K hK => ?_)
  go_simp
  go_at_call 19
  refine (few_ok HN (by simp) HS.out).mono ?_
  rintro e y7 ⟨rfl, hg⟩
  replace H := H.grow hg
  clear hg
  clear HN
  (refine Kr.outS hK (a' := ?_) ?_ ?_; rotate_left; (focus ((try simp only [Act.put, List.getElem_toArray, List.getElem_cons_zero, List.getElem_cons_succ, List.setIfInBounds_toArray, List.set_cons_zero, List.set_cons_succ]); first | done | rfl))); clear hK K
  iterate 3 (refine Kr.seqQ (v := ?_) (a' := ?_) (by rfl) ?_ ?_ ?_; rotate_left 2; (focus (go_simp; first | done | rfl)); (focus ((try simp only [Act.put, List.getElem_toArray, List.getElem_cons_zero, List.getElem_cons_succ, List.setIfInBounds_toArray, List.set_cons_zero, List.set_cons_succ]); first | done | rfl)))
  have hk := H.c
  simp only [Kr.Cells] at hk
  iterate 4 (refine Kr.seqQ (v := ?_) (a' := ?_) (by rfl) ?_ ?_ ?_; rotate_left 2; (focus (go_simp; first | done | rfl)); (focus ((try simp only [Act.put, List.getElem_toArray, List.getElem_cons_zero, List.getElem_cons_succ, List.setIfInBounds_toArray, List.set_cons_zero, List.set_cons_succ]); first | done | rfl)))
  refine Kr.seqR (by rfl) (fun K hK => ?_)
  go_simp
  clear hk
  obtain ⟨y8, hy⟩ : ∃ y, y7.alloc (.cells #[.slice pa na ca, .slice pb nb cb, .slice pc nc cc] 24) = y := ⟨_, rfl⟩
  obtain ⟨by8, hb⟩ : ∃ b, y7.heap.size = b := ⟨_, rfl⟩
  rw [hy, hb]
  have HN : Nats y8 by8 0 [(pa, na, ca), (pb, nb, cb), (pc, nc, cc)] := nats_mk hy hb
  have hg : Gr y7 y8 := hy ▸ (Gr.refl _).alloc _
  replace H := H.grow hg
  clear hg hy hb
  (refine Kr.outS hK (a' := ?_) ?_ ?_; rotate_left; (focus ((try simp only [Act.put, List.getElem_toArray, List.getElem_cons_zero, List.getElem_cons_succ, List.setIfInBounds_toArray, List.set_cons_zero, List.set_cons_succ]); first | done | rfl))); clear hK K
  refine Kr.seqR (by rfl) (fun K hK => ?_)
  go_simp
  go_at_call 22
  refine (HF.out _ _ H.g HN).mono ?_
  rintro e y9 ⟨rfl, hg⟩
  replace H := H.grow hg
  clear hg
  clear HN
  (refine Kr.outS hK (a' := ?_) ?_ ?_; rotate_left; (focus ((try simp only [Act.put, List.getElem_toArray, List.getElem_cons_zero, List.getElem_cons_succ, List.setIfInBounds_toArray, List.set_cons_zero, List.set_cons_succ]); first | done | rfl))); clear hK K
  iterate 2 (refine Kr.seqQ (v := ?_) (a' := ?_) (by rfl) ?_ ?_ ?_; rotate_left 2; (focus (go_simp; first | done | rfl)); (focus ((try simp only [Act.put, List.getElem_toArray, List.getElem_cons_zero, List.getElem_cons_succ, List.setIfInBounds_toArray, List.set_cons_zero, List.set_cons_succ]); first | done | rfl)))
  refine Kr.seqDoneW ?_
  go_upto_region 2 with fail
  refine Kr.seqStartW ?_
  refine Kr.seqR (by rfl) (fun K hK => ?_)
  go_simp
  go_at_call 18
  refine (awake3 _).mono ?_
  rintro e y10 ⟨rfl, hg⟩
  replace H := H.grow hg
  clear hg
  (refine Kr.outS hK (a' := ?_) ?_ ?_; rotate_left; (focus ((try simp only [Act.put, List.getElem_toArray, List.getElem_cons_zero, List.getElem_cons_succ, List.setIfInBounds_toArray, List.set_cons_zero, List.set_cons_succ]); first | done | rfl))); clear hK K
  (refine Kr.seqQ (v := ?_) (a' := ?_) (by rfl) ?_ ?_ ?_; rotate_left 2; (focus (go_simp; first | done | rfl)); (focus ((try simp only [Act.put, List.getElem_toArray, List.getElem_cons_zero, List.getElem_cons_succ, List.setIfInBounds_toArray, List.set_cons_zero, List.set_cons_succ]); first | done | rfl)))
  refine Kr.seqDoneW ?_
  go_wp2
  go_ret
  exact ⟨rfl, H.g⟩
set_option linter.unusedSimpArgs false in
set_option maxRecDepth 100000 in
set_option maxHeartbeats 16000000 in
theorem ring_ok {pa : Option Addr} {na ca : Nat} {pb : Option Addr} {nb cb : Nat} {pc : Option Addr} {nc cc : Nat} {pm : Option Addr} {nm cm : Nat} {x y z m : Nat} {w : World} (hs : ∀ x ∈ [(pa, na, ca), (pb, nb, cb), (pc, nc, cc), (pm, nm, cm)], x.2.1 ≤ 32) (hf : Fst w (.agg #[.slice pm nm cm]) [(pa, na, ca), (pb, nb, cb), (pc, nc, cc)] 0) (ha : Nw w pa na ca (digs x)) (hb : Nw w pb nb cb (digs y)) (hc : Nw w pc nc cc (digs z)) (hm : Nw w pm nm cm (digs m)) (hx : x < m) (hy : y < m) (hz : z < m) (vm : m < pw 32) :
    Calls Try.prog 7 #[.agg #[.slice pa na ca], .agg #[.slice pb nb cb], .agg #[.slice pc nc cc], .agg #[.slice pm nm cm]] w fun e w' => e = .returned (.bool true) ∧ Gr w w' := by
  have HS := Lib.hid hs
  have HF := Lib.hid hf
  have HX := Lib.hid hx
  have HY := Lib.hid hy
  have HZ := Lib.hid hz
  have VM := Lib.hid vm
  clear hs hf hx hy hz vm
  have M0 : Hid (0 < m) := Lib.hid (Nat.lt_of_le_of_lt (Nat.zero_le _) HX.out)
  have H := Sta.start w
  replace H := H.num ha
  replace H := H.num hb
  replace H := H.num hc
  replace H := H.num hm
  go_enter Try.func7, Try.ntmps7
  go_upto_region 0 with fail
  refine Kr.seqStartW ?_
  refine Kr.seqR (by rfl) (fun K hK => ?_)
  go_simp
  obtain ⟨y1, hy⟩ : ∃ y, w.alloc (.cells #[.slice pa na ca] 24) = y := ⟨_, rfl⟩
  obtain ⟨ba, hb⟩ : ∃ b, w.heap.size = b := ⟨_, rfl⟩
  rw [hy, hb]
  replace H := H.alloc hy hb rfl
  clear hy hb
  (refine Kr.outS hK (a' := ?_) ?_ ?_; rotate_left; (focus ((try simp only [Act.put, List.getElem_toArray, List.getElem_cons_zero, List.getElem_cons_succ, List.setIfInBounds_toArray, List.set_cons_zero, List.set_cons_succ]); first | done | rfl))); clear hK K
  refine Kr.seqR (by rfl) (fun K hK => ?_)
  go_simp
  obtain ⟨y2, hy⟩ : ∃ y, y1.alloc (.cells #[.slice pb nb cb] 24) = y := ⟨_, rfl⟩
  obtain ⟨bb, hb⟩ : ∃ b, y1.heap.size = b := ⟨_, rfl⟩
  rw [hy, hb]
  replace H := H.alloc hy hb rfl
  clear hy hb
  (refine Kr.outS hK (a' := ?_) ?_ ?_; rotate_left; (focus ((try simp only [Act.put, List.getElem_toArray, List.getElem_cons_zero, List.getElem_cons_succ, List.setIfInBounds_toArray, List.set_cons_zero, List.set_cons_succ]); first | done | rfl))); clear hK K
  refine Kr.seqR (by rfl) (fun K hK => ?_)
  go_simp
  obtain ⟨y3, hy⟩ : ∃ y, y2.alloc (.cells #[.slice pc nc cc] 24) = y := ⟨_, rfl⟩
  obtain ⟨bc, hb⟩ : ∃ b, y2.heap.size = b := ⟨_, rfl⟩
  rw [hy, hb]
  replace H := H.alloc hy hb rfl
  clear hy hb
  (refine Kr.outS hK (a' := ?_) ?_ ?_; rotate_left; (focus ((try simp only [Act.put, List.getElem_toArray, List.getElem_cons_zero, List.getElem_cons_succ, List.setIfInBounds_toArray, List.set_cons_zero, List.set_cons_succ]); first | done | rfl))); clear hK K
  refine Kr.seqR (by rfl) (fun K hK => ?_)
  go_simp
  obtain ⟨y4, hy⟩ : ∃ y, y3.alloc (.cells #[.slice pm nm cm] 24) = y := ⟨_, rfl⟩
  obtain ⟨bm, hb⟩ : ∃ b, y3.heap.size = b := ⟨_, rfl⟩
  rw [hy, hb]
  replace H := H.alloc hy hb rfl
  clear hy hb
  (refine Kr.outS hK (a' := ?_) ?_ ?_; rotate_left; (focus ((try simp only [Act.put, List.getElem_toArray, List.getElem_cons_zero, List.getElem_cons_succ, List.setIfInBounds_toArray, List.set_cons_zero, List.set_cons_succ]); first | done | rfl))); clear hK K
  (refine Kr.seqQ (v := ?_) (a' := ?_) (by rfl) ?_ ?_ ?_; rotate_left 2; (focus (go_simp; first | done | rfl)); (focus ((try simp only [Act.put, List.getElem_toArray, List.getElem_cons_zero, List.getElem_cons_succ, List.setIfInBounds_toArray, List.set_cons_zero, List.set_cons_succ]); first | done | rfl)))
  refine Kr.seqDoneW ?_
  go_upto_region 1 with fail
  refine Kr.seqStartW ?_
  refine Kr.seqR (by rfl) (fun K hK => ?_)
  go_simp
  go_at_call 18
  refine (awake3 _).mono ?_
  rintro e y5 ⟨rfl, hg⟩
  replace H := H.grow hg
  clear hg
  (refine Kr.outS hK (a' := ?_) ?_ ?_; rotate_left; (focus ((try simp only [Act.put, List.getElem_toArray, List.getElem_cons_zero, List.getElem_cons_succ, List.setIfInBounds_toArray, List.set_cons_zero, List.set_cons_succ]); first | done | rfl))); clear hK K
  iterate 2 (refine Kr.seqQ (v := ?_) (a' := ?_) (by rfl) ?_ ?_ ?_; rotate_left 2; (focus (go_simp; first | done | rfl)); (focus ((try simp only [Act.put, List.getElem_toArray, List.getElem_cons_zero, List.getElem_cons_succ, List.setIfInBounds_toArray, List.set_cons_zero, List.set_cons_succ]); first | done | rfl)))
  have hk := H.c
  simp only [Kr.Cells] at hk
  iterate 4 (refine Kr.seqQ (v := ?_) (a' := ?_) (by rfl) ?_ ?_ ?_; rotate_left 2; (focus (go_simp; first | done | rfl)); (focus ((try simp only [Act.put, List.getElem_toArray, List.getElem_cons_zero, List.getElem_cons_succ, List.setIfInBounds_toArray, List.set_cons_zero, List.set_cons_succ]); first | done | rfl)))
  refine Kr.seqR (by rfl) (fun K hK => ?_)
  go_simp
  clear hk
  obtain ⟨y6, hy⟩ : ∃ y, y5.alloc (.cells #[.slice pa na ca, .slice pb nb cb, .slice pc nc cc, .slice pm nm cm] 24) = y := ⟨_, rfl⟩
  obtain ⟨by6, hb⟩ : ∃ b, y5.heap.size = b := ⟨_, rfl⟩
  rw [hy, hb]
  have HN : Nats y6 by6 0 [(pa, na, ca), (pb, nb, cb), (pc, nc, cc), (pm, nm, cm)] := nats_mk hy hb
  have hg : Gr y5 y6 := hy ▸ (Gr.refl _).alloc _
  replace H := H.grow hg
  clear hg hy hb
  (refine Kr.outS hK (a' := ?_) ?_ ?_; rotate_left; (focus ((try simp only [Act.put, List.getElem_toArray, List.getElem_cons_zero, List.getElem_cons_succ, List.setIfInBounds_toArray, List.set_cons_zero, List.set_cons_succ]); first | done | rfl))); clear hK K
  refine Kr.seqR (by rfl) (fun K hK => ?_)
  go_simp
  go_at_call 19
  refine (few_ok HN (by simp) HS.out).mono ?_
  rintro e y7 ⟨rfl, hg⟩
  replace H := H.grow hg
  clear hg
  clear HN
  (refine Kr.outS hK (a' := ?_) ?_ ?_; rotate_left; (focus ((try simp only [Act.put, List.getElem_toArray, List.getElem_cons_zero, List.getElem_cons_succ, List.setIfInBounds_toArray, List.set_cons_zero, List.set_cons_succ]); first | done | rfl))); clear hK K
  iterate 3 (refine Kr.seqQ (v := ?_) (a' := ?_) (by rfl) ?_ ?_ ?_; rotate_left 2; (focus (go_simp; first | done | rfl)); (focus ((try simp only [Act.put, List.getElem_toArray, List.getElem_cons_zero, List.getElem_cons_succ, List.setIfInBounds_toArray, List.set_cons_zero, List.set_cons_succ]); first | done | rfl)))
  have hk := H.c
  simp only [Kr.Cells] at hk
  iterate 4 (refine Kr.seqQ (v := ?_) (a' := ?_) (by rfl) ?_ ?_ ?_; rotate_left 2; (focus (go_simp; first | done | rfl)); (focus ((try simp only [Act.put, List.getElem_toArray, List.getElem_cons_zero, List.getElem_cons_succ, List.setIfInBounds_toArray, List.set_cons_zero, List.set_cons_succ]); first | done | rfl)))
  refine Kr.seqR (by rfl) (fun K hK => ?_)
  go_simp
  clear hk
  obtain ⟨y8, hy⟩ : ∃ y, y7.alloc (.cells #[.slice pa na ca, .slice pb nb cb, .slice pc nc cc] 24) = y := ⟨_, rfl⟩
  obtain ⟨by8, hb⟩ : ∃ b, y7.heap.size = b := ⟨_, rfl⟩
  rw [hy, hb]
  have HN : Nats y8 by8 0 [(pa, na, ca), (pb, nb, cb), (pc, nc, cc)] := nats_mk hy hb
  have hg : Gr y7 y8 := hy ▸ (Gr.refl _).alloc _
  replace H := H.grow hg
  clear hg hy hb
  (refine Kr.outS hK (a' := ?_) ?_ ?_; rotate_left; (focus ((try simp only [Act.put, List.getElem_toArray, List.getElem_cons_zero, List.getElem_cons_succ, List.setIfInBounds_toArray, List.set_cons_zero, List.set_cons_succ]); first | done | rfl))); clear hK K
  refine Kr.seqR (by rfl) (fun K hK => ?_)
  go_simp
  go_at_call 22
  refine (HF.out _ _ H.g HN).mono ?_
  rintro e y9 ⟨rfl, hg⟩
  replace H := H.grow hg
  clear hg
  clear HN
  (refine Kr.outS hK (a' := ?_) ?_ ?_; rotate_left; (focus ((try simp only [Act.put, List.getElem_toArray, List.getElem_cons_zero, List.getElem_cons_succ, List.setIfInBounds_toArray, List.set_cons_zero, List.set_cons_succ]); first | done | rfl))); clear hK K
  iterate 2 (refine Kr.seqQ (v := ?_) (a' := ?_) (by rfl) ?_ ?_ ?_; rotate_left 2; (focus (go_simp; first | done | rfl)); (focus ((try simp only [Act.put, List.getElem_toArray, List.getElem_cons_zero, List.getElem_cons_succ, List.setIfInBounds_toArray, List.set_cons_zero, List.set_cons_succ]); first | done | rfl)))
  refine Kr.seqDoneW ?_
  go_upto_region 3 with fail
  refine Kr.seqStartW ?_
  refine Kr.seqR (by rfl) (fun K hK => ?_)
  go_simp
  obtain ⟨y10, hy⟩ : ∃ y, y9.alloc (.cells #[.bool false] 4) = y := ⟨_, rfl⟩
  obtain ⟨bg, hb⟩ : ∃ b, y9.heap.size = b := ⟨_, rfl⟩
  rw [hy, hb]
  replace H := H.alloc hy hb rfl
  clear hy hb
  (refine Kr.outS hK (a' := ?_) ?_ ?_; rotate_left; (focus ((try simp only [Act.put, List.getElem_toArray, List.getElem_cons_zero, List.getElem_cons_succ, List.setIfInBounds_toArray, List.set_cons_zero, List.set_cons_succ]); first | done | rfl))); clear hK K
  have hk := H.c
  simp only [Kr.Cells] at hk
  refine Kr.seqR (by rfl) (fun K hK => ?_)
  go_simp
  clear hk
  obtain ⟨y11, hy⟩ : ∃ y, y10.setCell ⟨bg, 0, none⟩ (.bool true) = y := ⟨_, rfl⟩
  rw [hy]
  replace H := H.store 0 hy rfl rfl
  dsimp only [List.set] at H
  clear hy
  (refine Kr.outS hK (a' := ?_) ?_ ?_; rotate_left; (focus ((try simp only [Act.put, List.getElem_toArray, List.getElem_cons_zero, List.getElem_cons_succ, List.setIfInBounds_toArray, List.set_cons_zero, List.set_cons_succ]); first | done | rfl))); clear hK K
  refine Kr.seqDoneW ?_
  go_upto_region 4 with fail
  refine Kr.seqStartW ?_
  iterate 2 (refine Kr.seqQ (v := ?_) (a' := ?_) (by rfl) ?_ ?_ ?_; rotate_left 2; (focus (go_simp; first | done | rfl)); (focus ((try simp only [Act.put, List.getElem_toArray, List.getElem_cons_zero, List.getElem_cons_succ, List.setIfInBounds_toArray, List.set_cons_zero, List.set_cons_succ]); first | done | rfl)))
  refine Kr.seqDoneW ?_
  go_upto_region 5 with fail
  go_cut [11, 12] from 42 to 49 (fun s11 s12 W => ∃ (bab : Nat) (bbc : Nat) (p68 : Option Addr) (n68 c68 : Nat) (p67 : Option Addr) (n67 c67 : Nat), s11 = .pointer (some ⟨bab, 0, none⟩) ∧ s12 = .pointer (some ⟨bbc, 0, none⟩) ∧ Hid (Sta w W [(bab, 0, .slice p67 n67 c67), (bbc, 0, .slice p68 n68 c68), (bg, 0, .bool true), (bm, 0, .slice pm nm cm), (bc, 0, .slice pc nc cc), (bb, 0, .slice pb nb cb), (ba, 0, .slice pa na ca)] [N p68 n68 c68 (y * z % m), N p67 n67 c67 (x * y % m), N pm nm cm (m), N pc nc cc (z), N pb nb cb (y), N pa na ca (x)]))
  case first =>
    refine Kr.startL (fun W' => Kr.Cells W' [(ba, 0, .slice pa na ca), (bb, 0, .slice pb nb cb), (bc, 0, .slice pc nc cc)]) [] (by kernel_rfl) ?_
    have gd : Gr y11 y11.drew := (Gr.refl _).drew
    generalize y11.drew = d12 at gd ⊢
    replace H := H.grow gd
    clear gd
    (refine Kr.tPQ 0 (v := ?_) (a' := ?_) rfl (by kernel_rfl) (fun _ _ _ h => h) (by rfl) (fun _ => (H.sub [4, 3, 2] rfl)) (fun wx => ?_) ?_ ?_; rotate_left 2; (focus (go_simp; first | done | rfl)); (focus ((try simp only [Act.put, List.getElem_toArray, List.getElem_cons_zero, List.getElem_cons_succ, List.setIfInBounds_toArray, List.set_cons_zero, List.set_cons_succ]); first | done | rfl)))
    (refine Kr.tSQ 1 [] (v := ?_) (a' := ?_) rfl (by kernel_rfl) (fun _ _ _ h => h) (by rfl) (H.sub [4, 3, 2] rfl) (fun wx hSx => ?_) ?_ ?_; rotate_left 2; (focus (simp only [Kr.Cells] at hSx; go_simp; first | done | rfl)); (focus ((try simp only [Act.put, List.getElem_toArray, List.getElem_cons_zero, List.getElem_cons_succ, List.setIfInBounds_toArray, List.set_cons_zero, List.set_cons_succ]); first | done | rfl)))
    (refine Kr.tSQ 2 [] (v := ?_) (a' := ?_) rfl (by kernel_rfl) (fun _ _ _ h => h) (by rfl) (H.sub [4, 3, 2] rfl) (fun wx hSx => ?_) ?_ ?_; rotate_left 2; (focus (simp only [Kr.Cells] at hSx; go_simp; first | done | rfl)); (focus ((try simp only [Act.put, List.getElem_toArray, List.getElem_cons_zero, List.getElem_cons_succ, List.setIfInBounds_toArray, List.set_cons_zero, List.set_cons_succ]); first | done | rfl)))
    (refine Kr.tPQ 4 (v := ?_) (a' := ?_) rfl (by kernel_rfl) (fun _ _ _ h => h) (by rfl) (fun _ => (H.sub [4, 3, 2] rfl)) (fun wx => ?_) ?_ ?_; rotate_left 2; (focus (go_simp; first | done | rfl)); (focus ((try simp only [Act.put, List.getElem_toArray, List.getElem_cons_zero, List.getElem_cons_succ, List.setIfInBounds_toArray, List.set_cons_zero, List.set_cons_succ]); first | done | rfl)))
    (refine Kr.tSQ 5 [] (v := ?_) (a' := ?_) rfl (by kernel_rfl) (fun _ _ _ h => h) (by rfl) (H.sub [4, 3, 2] rfl) (fun wx hSx => ?_) ?_ ?_; rotate_left 2; (focus (simp only [Kr.Cells] at hSx; go_simp; first | done | rfl)); (focus ((try simp only [Act.put, List.getElem_toArray, List.getElem_cons_zero, List.getElem_cons_succ, List.setIfInBounds_toArray, List.set_cons_zero, List.set_cons_succ]); first | done | rfl)))
    (refine Kr.tSQ 6 [] (v := ?_) (a' := ?_) rfl (by kernel_rfl) (fun _ _ _ h => h) (by rfl) (H.sub [4, 3, 2] rfl) (fun wx hSx => ?_) ?_ ?_; rotate_left 2; (focus (simp only [Kr.Cells] at hSx; go_simp; first | done | rfl)); (focus ((try simp only [Act.put, List.getElem_toArray, List.getElem_cons_zero, List.getElem_cons_succ, List.setIfInBounds_toArray, List.set_cons_zero, List.set_cons_succ]); first | done | rfl)))
    refine Kr.readyL (rs := [3, 8, 9]) (by kernel_rfl) (by simp) ?_
    refine Kr.AllL.cons rfl (fun K hK => ?_) ?_
    · go_simp
      go_at_call 40
      refine (ring1_Mul (z := x * y % m) H 1 0 rfl rfl (H.nw 3 rfl) (H.nw 2 rfl) (H.nw 0 rfl) VM.out (Nat.mod_lt _ M0.out) (fun W1 h1 h2 h3 => mMul_v h1 h2 h3 HX.out HY.out VM.out)).mono ?_
      rintro e y13 ⟨p13, n13, c13, rfl, HH⟩
      clear H
      have H := HH
      clear HH
      (refine Kr.outL hK (a' := ?_) ?_ (fun _ => (H.sub [4, 3, 2] rfl)) ?_; rotate_left; (focus ((try simp only [Act.put, List.getElem_toArray, List.getElem_cons_zero, List.getElem_cons_succ, List.setIfInBounds_toArray, List.set_cons_zero, List.set_cons_succ]); first | done | rfl))); clear hK K
      refine Kr.readyL (rs := [7, 8, 9]) (by kernel_rfl) (by simp) ?_
      refine Kr.AllL.cons rfl (fun K hK => ?_) ?_
      · go_simp
        go_at_call 40
        refine (ring1_Mul (z := y * z % m) H 1 0 rfl rfl (H.nw 3 rfl) (H.nw 2 rfl) (H.nw 1 rfl) VM.out (Nat.mod_lt _ M0.out) (fun W1 h1 h2 h3 => mMul_v h1 h2 h3 HY.out HZ.out VM.out)).mono ?_
        rintro e y14 ⟨p14, n14, c14, rfl, HH⟩
        clear H
        have H := HH
        clear HH
        (refine Kr.outL hK (a' := ?_) ?_ (fun _ => (H.sub [4, 3, 2] rfl)) ?_; rotate_left; (focus ((try simp only [Act.put, List.getElem_toArray, List.getElem_cons_zero, List.getElem_cons_succ, List.setIfInBounds_toArray, List.set_cons_zero, List.set_cons_succ]); first | done | rfl))); clear hK K
        refine Kr.readyL (rs := [8, 9]) (by kernel_rfl) (by simp) ?_
        refine Kr.AllL.cons rfl (fun K hK => ?_) ?_
        · go_simp
          obtain ⟨y15, hy⟩ : ∃ y, y14.alloc (.cells #[.slice none 0 0] 24) = y := ⟨_, rfl⟩
          obtain ⟨bab, hb⟩ : ∃ b, y14.heap.size = b := ⟨_, rfl⟩
          rw [hy, hb]
          replace H := H.alloc hy hb rfl
          clear hy hb
          (refine Kr.outL hK (a' := ?_) ?_ (fun _ => (H.sub [5, 4, 3] rfl)) ?_; rotate_left; (focus ((try simp only [Act.put, List.getElem_toArray, List.getElem_cons_zero, List.getElem_cons_succ, List.setIfInBounds_toArray, List.set_cons_zero, List.set_cons_succ]); first | done | rfl))); clear hK K
          refine Kr.readyL (rs := [9]) (by kernel_rfl) (by simp) ?_
          refine Kr.AllL.cons rfl (fun K hK => ?_) Kr.AllL.nil
          go_simp
          obtain ⟨y16, hy⟩ : ∃ y, y15.alloc (.cells #[.slice none 0 0] 24) = y := ⟨_, rfl⟩
          obtain ⟨bbc, hb⟩ : ∃ b, y15.heap.size = b := ⟨_, rfl⟩
          rw [hy, hb]
          replace H := H.alloc hy hb rfl
          clear hy hb
          (refine Kr.outL hK (a' := ?_) ?_ (fun _ => (H.sub [6, 5, 4] rfl)) ?_; rotate_left; (focus ((try simp only [Act.put, List.getElem_toArray, List.getElem_cons_zero, List.getElem_cons_succ, List.setIfInBounds_toArray, List.set_cons_zero, List.set_cons_succ]); first | done | rfl))); clear hK K
          refine Kr.readyL (rs := [10]) (by kernel_rfl) (by simp) ?_
          refine Kr.AllL.cons rfl (fun K hK => ?_) Kr.AllL.nil
          have hk := H.c
          simp only [Kr.Cells] at hk
          go_simp
          clear hk
          obtain ⟨y17, hy⟩ : ∃ y, y16.setCell ⟨bab, 0, none⟩ (.slice p13 n13 c13) = y := ⟨_, rfl⟩
          rw [hy]
          replace H := H.store 1 hy rfl rfl
          dsimp only [List.set] at H
          clear hy
          (refine Kr.outL hK (a' := ?_) ?_ (fun _ => (H.sub [6, 5, 4] rfl)) ?_; rotate_left; (focus ((try simp only [Act.put, List.getElem_toArray, List.getElem_cons_zero, List.getElem_cons_succ, List.setIfInBounds_toArray, List.set_cons_zero, List.set_cons_succ]); first | done | rfl))); clear hK K
          refine Kr.readyL (rs := [11]) (by kernel_rfl) (by simp) ?_
          refine Kr.AllL.cons rfl (fun K hK => ?_) Kr.AllL.nil
          have hk := H.c
          simp only [Kr.Cells] at hk
          go_simp
          clear hk
          obtain ⟨y18, hy⟩ : ∃ y, y17.setCell ⟨bbc, 0, none⟩ (.slice p14 n14 c14) = y := ⟨_, rfl⟩
          rw [hy]
          replace H := H.store 0 hy rfl rfl
          dsimp only [List.set] at H
          clear hy
          (refine Kr.outL hK (a' := ?_) ?_ (fun _ => (H.sub [6, 5, 4] rfl)) ?_; rotate_left; (focus ((try simp only [Act.put, List.getElem_toArray, List.getElem_cons_zero, List.getElem_cons_succ, List.setIfInBounds_toArray, List.set_cons_zero, List.set_cons_succ]); first | done | rfl))); clear hK K
          refine Kr.doneL (by kernel_rfl) ?_ _
          go_wp2_with fail
          go_meet
          exact ⟨_, _, _, _, _, _, _, _, rfl, rfl, Lib.hid (H.pickC [1, 0, 2, 3, 4, 5, 6] (by decide) rfl)⟩
        refine Kr.AllL.cons rfl (fun K hK => ?_) Kr.AllL.nil
        go_simp
        obtain ⟨y19, hy⟩ : ∃ y, y14.alloc (.cells #[.slice none 0 0] 24) = y := ⟨_, rfl⟩
        obtain ⟨bbc, hb⟩ : ∃ b, y14.heap.size = b := ⟨_, rfl⟩
        rw [hy, hb]
        replace H := H.alloc hy hb rfl
        clear hy hb
        (refine Kr.outL hK (a' := ?_) ?_ (fun _ => (H.sub [5, 4, 3] rfl)) ?_; rotate_left; (focus ((try simp only [Act.put, List.getElem_toArray, List.getElem_cons_zero, List.getElem_cons_succ, List.setIfInBounds_toArray, List.set_cons_zero, List.set_cons_succ]); first | done | rfl))); clear hK K
        refine Kr.readyL (rs := [8]) (by kernel_rfl) (by simp) ?_
        refine Kr.AllL.cons rfl (fun K hK => ?_) Kr.AllL.nil
        go_simp
        obtain ⟨y20, hy⟩ : ∃ y, y19.alloc (.cells #[.slice none 0 0] 24) = y := ⟨_, rfl⟩
        obtain ⟨bab, hb⟩ : ∃ b, y19.heap.size = b := ⟨_, rfl⟩
        rw [hy, hb]
        replace H := H.alloc hy hb rfl
        clear hy hb
        (refine Kr.outL hK (a' := ?_) ?_ (fun _ => (H.sub [6, 5, 4] rfl)) ?_; rotate_left; (focus ((try simp only [Act.put, List.getElem_toArray, List.getElem_cons_zero, List.getElem_cons_succ, List.setIfInBounds_toArray, List.set_cons_zero, List.set_cons_succ]); first | done | rfl))); clear hK K
        refine Kr.readyL (rs := [10]) (by kernel_rfl) (by simp) ?_
        refine Kr.AllL.cons rfl (fun K hK => ?_) Kr.AllL.nil
        have hk := H.c
        simp only [Kr.Cells] at hk
        go_simp
        clear hk
        obtain ⟨y21, hy⟩ : ∃ y, y20.setCell ⟨bab, 0, none⟩ (.slice p13 n13 c13) = y := ⟨_, rfl⟩
        rw [hy]
        replace H := H.store 0 hy rfl rfl
        dsimp only [List.set] at H
        clear hy
        (refine Kr.outL hK (a' := ?_) ?_ (fun _ => (H.sub [6, 5, 4] rfl)) ?_; rotate_left; (focus ((try simp only [Act.put, List.getElem_toArray, List.getElem_cons_zero, List.getElem_cons_succ, List.setIfInBounds_toArray, List.set_cons_zero, List.set_cons_succ]); first | done | rfl))); clear hK K
        refine Kr.readyL (rs := [11]) (by kernel_rfl) (by simp) ?_
        refine Kr.AllL.cons rfl (fun K hK => ?_) Kr.AllL.nil
        have hk := H.c
        simp only [Kr.Cells] at hk
        go_simp
        clear hk
        obtain ⟨y22, hy⟩ : ∃ y, y21.setCell ⟨bbc, 0, none⟩ (.slice p14 n14 c14) = y := ⟨_, rfl⟩
        rw [hy]
        replace H := H.store 1 hy rfl rfl
        dsimp only [List.set] at H
        clear hy
        (refine Kr.outL hK (a' := ?_) ?_ (fun _ => (H.sub [6, 5, 4] rfl)) ?_; rotate_left; (focus ((try simp only [Act.put, List.getElem_toArray, List.getElem_cons_zero, List.getElem_cons_succ, List.setIfInBounds_toArray, List.set_cons_zero, List.set_cons_succ]); first | done | rfl))); clear hK K
        refine Kr.doneL (by kernel_rfl) ?_ _
        go_wp2_with fail
        go_meet
        exact ⟨_, _, _, _, _, _, _, _, rfl, rfl, Lib.hid H⟩
      refine Kr.AllL.cons rfl (fun K hK => ?_) ?_
      · go_simp
        obtain ⟨y23, hy⟩ : ∃ y, y13.alloc (.cells #[.slice none 0 0] 24) = y := ⟨_, rfl⟩
        obtain ⟨bab, hb⟩ : ∃ b, y13.heap.size = b := ⟨_, rfl⟩
        rw [hy, hb]
        replace H := H.alloc hy hb rfl
        clear hy hb
        (refine Kr.outL hK (a' := ?_) ?_ (fun _ => (H.sub [5, 4, 3] rfl)) ?_; rotate_left; (focus ((try simp only [Act.put, List.getElem_toArray, List.getElem_cons_zero, List.getElem_cons_succ, List.setIfInBounds_toArray, List.set_cons_zero, List.set_cons_succ]); first | done | rfl))); clear hK K
        refine Kr.readyL (rs := [7, 9]) (by kernel_rfl) (by simp) ?_
        refine Kr.AllL.cons rfl (fun K hK => ?_) ?_
        · go_simp
          go_at_call 40
          refine (ring1_Mul (z := y * z % m) H 2 1 rfl rfl (H.nw 3 rfl) (H.nw 2 rfl) (H.nw 1 rfl) VM.out (Nat.mod_lt _ M0.out) (fun W1 h1 h2 h3 => mMul_v h1 h2 h3 HY.out HZ.out VM.out)).mono ?_
          rintro e y24 ⟨p24, n24, c24, rfl, HH⟩
          clear H
          have H := HH
          clear HH
          (refine Kr.outL hK (a' := ?_) ?_ (fun _ => (H.sub [5, 4, 3] rfl)) ?_; rotate_left; (focus ((try simp only [Act.put, List.getElem_toArray, List.getElem_cons_zero, List.getElem_cons_succ, List.setIfInBounds_toArray, List.set_cons_zero, List.set_cons_succ]); first | done | rfl))); clear hK K
          refine Kr.readyL (rs := [9]) (by kernel_rfl) (by simp) ?_
          refine Kr.AllL.cons rfl (fun K hK => ?_) Kr.AllL.nil
          go_simp
          obtain ⟨y25, hy⟩ : ∃ y, y24.alloc (.cells #[.slice none 0 0] 24) = y := ⟨_, rfl⟩
          obtain ⟨bbc, hb⟩ : ∃ b, y24.heap.size = b := ⟨_, rfl⟩
          rw [hy, hb]
          replace H := H.alloc hy hb rfl
          clear hy hb
          (refine Kr.outL hK (a' := ?_) ?_ (fun _ => (H.sub [6, 5, 4] rfl)) ?_; rotate_left; (focus ((try simp only [Act.put, List.getElem_toArray, List.getElem_cons_zero, List.getElem_cons_succ, List.setIfInBounds_toArray, List.set_cons_zero, List.set_cons_succ]); first | done | rfl))); clear hK K
          refine Kr.readyL (rs := [10]) (by kernel_rfl) (by simp) ?_
          refine Kr.AllL.cons rfl (fun K hK => ?_) Kr.AllL.nil
          have hk := H.c
          simp only [Kr.Cells] at hk
          go_simp
          clear hk
          obtain ⟨y26, hy⟩ : ∃ y, y25.setCell ⟨bab, 0, none⟩ (.slice p13 n13 c13) = y := ⟨_, rfl⟩
          rw [hy]
          replace H := H.store 1 hy rfl rfl
          dsimp only [List.set] at H
          clear hy
          (refine Kr.outL hK (a' := ?_) ?_ (fun _ => (H.sub [6, 5, 4] rfl)) ?_; rotate_left; (focus ((try simp only [Act.put, List.getElem_toArray, List.getElem_cons_zero, List.getElem_cons_succ, List.setIfInBounds_toArray, List.set_cons_zero, List.set_cons_succ]); first | done | rfl))); clear hK K
          refine Kr.readyL (rs := [11]) (by kernel_rfl) (by simp) ?_
          refine Kr.AllL.cons rfl (fun K hK => ?_) Kr.AllL.nil
          have hk := H.c
          simp only [Kr.Cells] at hk
          go_simp
          clear hk
          obtain ⟨y27, hy⟩ : ∃ y, y26.setCell ⟨bbc, 0, none⟩ (.slice p24 n24 c24) = y := ⟨_, rfl⟩
          rw [hy]
          replace H := H.store 0 hy rfl rfl
          dsimp only [List.set] at H
          clear hy
          (refine Kr.outL hK (a' := ?_) ?_ (fun _ => (H.sub [6, 5, 4] rfl)) ?_; rotate_left; (focus ((try simp only [Act.put, List.getElem_toArray, List.getElem_cons_zero, List.getElem_cons_succ, List.setIfInBounds_toArray, List.set_cons_zero, List.set_cons_succ]); first | done | rfl))); clear hK K
          refine Kr.doneL (by kernel_rfl) ?_ _
          go_wp2_with fail
          go_meet
          exact ⟨_, _, _, _, _, _, _, _, rfl, rfl, Lib.hid (H.pickC [1, 0, 2, 3, 4, 5, 6] (by decide) rfl)⟩
        refine Kr.AllL.cons rfl (fun K hK => ?_) Kr.AllL.nil
        go_simp
        obtain ⟨y28, hy⟩ : ∃ y, y23.alloc (.cells #[.slice none 0 0] 24) = y := ⟨_, rfl⟩
        obtain ⟨bbc, hb⟩ : ∃ b, y23.heap.size = b := ⟨_, rfl⟩
        rw [hy, hb]
        replace H := H.alloc hy hb rfl
        clear hy hb
        (refine Kr.outL hK (a' := ?_) ?_ (fun _ => (H.sub [6, 5, 4] rfl)) ?_; rotate_left; (focus ((try simp only [Act.put, List.getElem_toArray, List.getElem_cons_zero, List.getElem_cons_succ, List.setIfInBounds_toArray, List.set_cons_zero, List.set_cons_succ]); first | done | rfl))); clear hK K
        refine Kr.readyL (rs := [7]) (by kernel_rfl) (by simp) ?_
        refine Kr.AllL.cons rfl (fun K hK => ?_) Kr.AllL.nil
        go_simp
        go_at_call 40
        refine (ring1_Mul (z := y * z % m) H 3 2 rfl rfl (H.nw 3 rfl) (H.nw 2 rfl) (H.nw 1 rfl) VM.out (Nat.mod_lt _ M0.out) (fun W1 h1 h2 h3 => mMul_v h1 h2 h3 HY.out HZ.out VM.out)).mono ?_
        rintro e y29 ⟨p29, n29, c29, rfl, HH⟩
        clear H
        have H := HH
        clear HH
        (refine Kr.outL hK (a' := ?_) ?_ (fun _ => (H.sub [6, 5, 4] rfl)) ?_; rotate_left; (focus ((try simp only [Act.put, List.getElem_toArray, List.getElem_cons_zero, List.getElem_cons_succ, List.setIfInBounds_toArray, List.set_cons_zero, List.set_cons_succ]); first | done | rfl))); clear hK K
        refine Kr.readyL (rs := [10]) (by kernel_rfl) (by simp) ?_
        refine Kr.AllL.cons rfl (fun K hK => ?_) Kr.AllL.nil
        have hk := H.c
        simp only [Kr.Cells] at hk
        go_simp
        clear hk
        obtain ⟨y30, hy⟩ : ∃ y, y29.setCell ⟨bab, 0, none⟩ (.slice p13 n13 c13) = y := ⟨_, rfl⟩
        rw [hy]
        replace H := H.store 1 hy rfl rfl
        dsimp only [List.set] at H
        clear hy
        (refine Kr.outL hK (a' := ?_) ?_ (fun _ => (H.sub [6, 5, 4] rfl)) ?_; rotate_left; (focus ((try simp only [Act.put, List.getElem_toArray, List.getElem_cons_zero, List.getElem_cons_succ, List.setIfInBounds_toArray, List.set_cons_zero, List.set_cons_succ]); first | done | rfl))); clear hK K
        refine Kr.readyL (rs := [11]) (by kernel_rfl) (by simp) ?_
        refine Kr.AllL.cons rfl (fun K hK => ?_) Kr.AllL.nil
        have hk := H.c
        simp only [Kr.Cells] at hk
        go_simp
        clear hk
        obtain ⟨y31, hy⟩ : ∃ y, y30.setCell ⟨bbc, 0, none⟩ (.slice p29 n29 c29) = y := ⟨_, rfl⟩
        rw [hy]
        replace H := H.store 0 hy rfl rfl
        dsimp only [List.set] at H
        clear hy
        (refine Kr.outL hK (a' := ?_) ?_ (fun _ => (H.sub [6, 5, 4] rfl)) ?_; rotate_left; (focus ((try simp only [Act.put, List.getElem_toArray, List.getElem_cons_zero, List.getElem_cons_succ, List.setIfInBounds_toArray, List.set_cons_zero, List.set_cons_succ]); first | done | rfl))); clear hK K
        refine Kr.doneL (by kernel_rfl) ?_ _
        go_wp2_with fail
        go_meet
        exact ⟨_, _, _, _, _, _, _, _, rfl, rfl, Lib.hid (H.pickC [1, 0, 2, 3, 4, 5, 6] (by decide) rfl)⟩
      refine Kr.AllL.cons rfl (fun K hK => ?_) Kr.AllL.nil
      go_simp
      obtain ⟨y32, hy⟩ : ∃ y, y13.alloc (.cells #[.slice none 0 0] 24) = y := ⟨_, rfl⟩
      obtain ⟨bbc, hb⟩ : ∃ b, y13.heap.size = b := ⟨_, rfl⟩
      rw [hy, hb]
      replace H := H.alloc hy hb rfl
      clear hy hb
      (refine Kr.outL hK (a' := ?_) ?_ (fun _ => (H.sub [5, 4, 3] rfl)) ?_; rotate_left; (focus ((try simp only [Act.put, List.getElem_toArray, List.getElem_cons_zero, List.getElem_cons_succ, List.setIfInBounds_toArray, List.set_cons_zero, List.set_cons_succ]); first | done | rfl))); clear hK K
      refine Kr.readyL (rs := [7, 8]) (by kernel_rfl) (by simp) ?_
      refine Kr.AllL.cons rfl (fun K hK => ?_) ?_
      · go_simp
        go_at_call 40
        refine (ring1_Mul (z := y * z % m) H 2 1 rfl rfl (H.nw 3 rfl) (H.nw 2 rfl) (H.nw 1 rfl) VM.out (Nat.mod_lt _ M0.out) (fun W1 h1 h2 h3 => mMul_v h1 h2 h3 HY.out HZ.out VM.out)).mono ?_
        rintro e y33 ⟨p33, n33, c33, rfl, HH⟩
        clear H
        have H := HH
        clear HH
        (refine Kr.outL hK (a' := ?_) ?_ (fun _ => (H.sub [5, 4, 3] rfl)) ?_; rotate_left; (focus ((try simp only [Act.put, List.getElem_toArray, List.getElem_cons_zero, List.getElem_cons_succ, List.setIfInBounds_toArray, List.set_cons_zero, List.set_cons_succ]); first | done | rfl))); clear hK K
        refine Kr.readyL (rs := [8]) (by kernel_rfl) (by simp) ?_
        refine Kr.AllL.cons rfl (fun K hK => ?_) Kr.AllL.nil
        go_simp
        obtain ⟨y34, hy⟩ : ∃ y, y33.alloc (.cells #[.slice none 0 0] 24) = y := ⟨_, rfl⟩
        obtain ⟨bab, hb⟩ : ∃ b, y33.heap.size = b := ⟨_, rfl⟩
        rw [hy, hb]
        replace H := H.alloc hy hb rfl
        clear hy hb
        (refine Kr.outL hK (a' := ?_) ?_ (fun _ => (H.sub [6, 5, 4] rfl)) ?_; rotate_left; (focus ((try simp only [Act.put, List.getElem_toArray, List.getElem_cons_zero, List.getElem_cons_succ, List.setIfInBounds_toArray, List.set_cons_zero, List.set_cons_succ]); first | done | rfl))); clear hK K
        refine Kr.readyL (rs := [10]) (by kernel_rfl) (by simp) ?_
        refine Kr.AllL.cons rfl (fun K hK => ?_) Kr.AllL.nil
        have hk := H.c
        simp only [Kr.Cells] at hk
        go_simp
        clear hk
        obtain ⟨y35, hy⟩ : ∃ y, y34.setCell ⟨bab, 0, none⟩ (.slice p13 n13 c13) = y := ⟨_, rfl⟩
        rw [hy]
        replace H := H.store 0 hy rfl rfl
        dsimp only [List.set] at H
        clear hy
        (refine Kr.outL hK (a' := ?_) ?_ (fun _ => (H.sub [6, 5, 4] rfl)) ?_; rotate_left; (focus ((try simp only [Act.put, List.getElem_toArray, List.getElem_cons_zero, List.getElem_cons_succ, List.setIfInBounds_toArray, List.set_cons_zero, List.set_cons_succ]); first | done | rfl))); clear hK K
        refine Kr.readyL (rs := [11]) (by kernel_rfl) (by simp) ?_
        refine Kr.AllL.cons rfl (fun K hK => ?_) Kr.AllL.nil
        have hk := H.c
        simp only [Kr.Cells] at hk
        go_simp
        clear hk
        obtain ⟨y36, hy⟩ : ∃ y, y35.setCell ⟨bbc, 0, none⟩ (.slice p33 n33 c33) = y := ⟨_, rfl⟩
        rw [hy]
        replace H := H.store 1 hy rfl rfl
        dsimp only [List.set] at H
        clear hy
        (refine Kr.outL hK (a' := ?_) ?_ (fun _ => (H.sub [6, 5, 4] rfl)) ?_; rotate_left; (focus ((try simp only [Act.put, List.getElem_toArray, List.getElem_cons_zero, List.getElem_cons_succ, List.setIfInBounds_toArray, List.set_cons_zero, List.set_cons_succ]); first | done | rfl))); clear hK K
        refine Kr.doneL (by kernel_rfl) ?_ _
        go_wp2_with fail
        go_meet
        exact ⟨_, _, _, _, _, _, _, _, rfl, rfl, Lib.hid H⟩
      refine Kr.AllL.cons rfl (fun K hK => ?_) Kr.AllL.nil
      go_simp
      obtain ⟨y37, hy⟩ : ∃ y, y32.alloc (.cells #[.slice none 0 0] 24) = y := ⟨_, rfl⟩
      obtain ⟨bab, hb⟩ : ∃ b, y32.heap.size = b := ⟨_, rfl⟩
      rw [hy, hb]
      replace H := H.alloc hy hb rfl
      clear hy hb
      (refine Kr.outL hK (a' := ?_) ?_ (fun _ => (H.sub [6, 5, 4] rfl)) ?_; rotate_left; (focus ((try simp only [Act.put, List.getElem_toArray, List.getElem_cons_zero, List.getElem_cons_succ, List.setIfInBounds_toArray, List.set_cons_zero, List.set_cons_succ]); first | done | rfl))); clear hK K
      refine Kr.readyL (rs := [7]) (by kernel_rfl) (by simp) ?_
      refine Kr.AllL.cons rfl (fun K hK => ?_) Kr.AllL.nil
      go_simp
      go_at_call 40
      refine (ring1_Mul (z := y * z % m) H 3 2 rfl rfl (H.nw 3 rfl) (H.nw 2 rfl) (H.nw 1 rfl) VM.out (Nat.mod_lt _ M0.out) (fun W1 h1 h2 h3 => mMul_v h1 h2 h3 HY.out HZ.out VM.out)).mono ?_
      rintro e y38 ⟨p38, n38, c38, rfl, HH⟩
      clear H
      have H := HH
      clear HH
      (refine Kr.outL hK (a' := ?_) ?_ (fun _ => (H.sub [6, 5, 4] rfl)) ?_; rotate_left; (focus ((try simp only [Act.put, List.getElem_toArray, List.getElem_cons_zero, List.getElem_cons_succ, List.setIfInBounds_toArray, List.set_cons_zero, List.set_cons_succ]); first | done | rfl))); clear hK K
      refine Kr.readyL (rs := [10]) (by kernel_rfl) (by simp) ?_
      refine Kr.AllL.cons rfl (fun K hK => ?_) Kr.AllL.nil
      have hk := H.c
      simp only [Kr.Cells] at hk
      go_simp
      clear hk
      obtain ⟨y39, hy⟩ : ∃ y, y38.setCell ⟨bab, 0, none⟩ (.slice p13 n13 c13) = y := ⟨_, rfl⟩
      rw [hy]
      replace H := H.store 0 hy rfl rfl
      dsimp only [List.set] at H
      clear hy
      (refine Kr.outL hK (a' := ?_) ?_ (fun _ => (H.sub [6, 5, 4] rfl)) ?_; rotate_left; (focus ((try simp only [Act.put, List.getElem_toArray, List.getElem_cons_zero, List.getElem_cons_succ, List.setIfInBounds_toArray, List.set_cons_zero, List.set_cons_succ]); first | done | rfl))); clear hK K
      refine Kr.readyL (rs := [11]) (by kernel_rfl) (by simp) ?_
      refine Kr.AllL.cons rfl (fun K hK => ?_) Kr.AllL.nil
      have hk := H.c
      simp only [Kr.Cells] at hk
      go_simp
      clear hk
      obtain ⟨y40, hy⟩ : ∃ y, y39.setCell ⟨bbc, 0, none⟩ (.slice p38 n38 c38) = y := ⟨_, rfl⟩
      rw [hy]
      replace H := H.store 1 hy rfl rfl
      dsimp only [List.set] at H
      clear hy
      (refine Kr.outL hK (a' := ?_) ?_ (fun _ => (H.sub [6, 5, 4] rfl)) ?_; rotate_left; (focus ((try simp only [Act.put, List.getElem_toArray, List.getElem_cons_zero, List.getElem_cons_succ, List.setIfInBounds_toArray, List.set_cons_zero, List.set_cons_succ]); first | done | rfl))); clear hK K
      refine Kr.doneL (by kernel_rfl) ?_ _
      go_wp2_with fail
      go_meet
      exact ⟨_, _, _, _, _, _, _, _, rfl, rfl, Lib.hid H⟩
    refine Kr.AllL.cons rfl (fun K hK => ?_) ?_
    · go_simp
      obtain ⟨y41, hy⟩ : ∃ y, d12.alloc (.cells #[.slice none 0 0] 24) = y := ⟨_, rfl⟩
      obtain ⟨bab, hb⟩ : ∃ b, d12.heap.size = b := ⟨_, rfl⟩
      rw [hy, hb]
      replace H := H.alloc hy hb rfl
      clear hy hb
      (refine Kr.outL hK (a' := ?_) ?_ (fun _ => (H.sub [5, 4, 3] rfl)) ?_; rotate_left; (focus ((try simp only [Act.put, List.getElem_toArray, List.getElem_cons_zero, List.getElem_cons_succ, List.setIfInBounds_toArray, List.set_cons_zero, List.set_cons_succ]); first | done | rfl))); clear hK K
      refine Kr.readyL (rs := [3, 9]) (by kernel_rfl) (by simp) ?_
      refine Kr.AllL.cons rfl (fun K hK => ?_) ?_
      · go_simp
        go_at_call 40
        refine (ring1_Mul (z := x * y % m) H 2 1 rfl rfl (H.nw 3 rfl) (H.nw 2 rfl) (H.nw 0 rfl) VM.out (Nat.mod_lt _ M0.out) (fun W1 h1 h2 h3 => mMul_v h1 h2 h3 HX.out HY.out VM.out)).mono ?_
        rintro e y42 ⟨p42, n42, c42, rfl, HH⟩
        clear H
        have H := HH
        clear HH
        (refine Kr.outL hK (a' := ?_) ?_ (fun _ => (H.sub [5, 4, 3] rfl)) ?_; rotate_left; (focus ((try simp only [Act.put, List.getElem_toArray, List.getElem_cons_zero, List.getElem_cons_succ, List.setIfInBounds_toArray, List.set_cons_zero, List.set_cons_succ]); first | done | rfl))); clear hK K
        refine Kr.readyL (rs := [7, 9]) (by kernel_rfl) (by simp) ?_
        refine Kr.AllL.cons rfl (fun K hK => ?_) ?_
        · go_simp
          go_at_call 40
          refine (ring1_Mul (z := y * z % m) H 2 1 rfl rfl (H.nw 3 rfl) (H.nw 2 rfl) (H.nw 1 rfl) VM.out (Nat.mod_lt _ M0.out) (fun W1 h1 h2 h3 => mMul_v h1 h2 h3 HY.out HZ.out VM.out)).mono ?_
          rintro e y43 ⟨p43, n43, c43, rfl, HH⟩
          clear H
          have H := HH
          clear HH
          (refine Kr.outL hK (a' := ?_) ?_ (fun _ => (H.sub [5, 4, 3] rfl)) ?_; rotate_left; (focus ((try simp only [Act.put, List.getElem_toArray, List.getElem_cons_zero, List.getElem_cons_succ, List.setIfInBounds_toArray, List.set_cons_zero, List.set_cons_succ]); first | done | rfl))); clear hK K
          refine Kr.readyL (rs := [9]) (by kernel_rfl) (by simp) ?_
          refine Kr.AllL.cons rfl (fun K hK => ?_) Kr.AllL.nil
          go_simp
          obtain ⟨y44, hy⟩ : ∃ y, y43.alloc (.cells #[.slice none 0 0] 24) = y := ⟨_, rfl⟩
          obtain ⟨bbc, hb⟩ : ∃ b, y43.heap.size = b := ⟨_, rfl⟩
          rw [hy, hb]
          replace H := H.alloc hy hb rfl
          clear hy hb
          (refine Kr.outL hK (a' := ?_) ?_ (fun _ => (H.sub [6, 5, 4] rfl)) ?_; rotate_left; (focus ((try simp only [Act.put, List.getElem_toArray, List.getElem_cons_zero, List.getElem_cons_succ, List.setIfInBounds_toArray, List.set_cons_zero, List.set_cons_succ]); first | done | rfl))); clear hK K
          refine Kr.readyL (rs := [10]) (by kernel_rfl) (by simp) ?_
          refine Kr.AllL.cons rfl (fun K hK => ?_) Kr.AllL.nil
          have hk := H.c
          simp only [Kr.Cells] at hk
          go_simp
          clear hk
          obtain ⟨y45, hy⟩ : ∃ y, y44.setCell ⟨bab, 0, none⟩ (.slice p42 n42 c42) = y := ⟨_, rfl⟩
          rw [hy]
          replace H := H.store 1 hy rfl rfl
          dsimp only [List.set] at H
          clear hy
          (refine Kr.outL hK (a' := ?_) ?_ (fun _ => (H.sub [6, 5, 4] rfl)) ?_; rotate_left; (focus ((try simp only [Act.put, List.getElem_toArray, List.getElem_cons_zero, List.getElem_cons_succ, List.setIfInBounds_toArray, List.set_cons_zero, List.set_cons_succ]); first | done | rfl))); clear hK K
          refine Kr.readyL (rs := [11]) (by kernel_rfl) (by simp) ?_
          refine Kr.AllL.cons rfl (fun K hK => ?_) Kr.AllL.nil
          have hk := H.c
          simp only [Kr.Cells] at hk
          go_simp
          clear hk
          obtain ⟨y46, hy⟩ : ∃ y, y45.setCell ⟨bbc, 0, none⟩ (.slice p43 n43 c43) = y := ⟨_, rfl⟩
          rw [hy]
          replace H := H.store 0 hy rfl rfl
          dsimp only [List.set] at H
          clear hy
          (refine Kr.outL hK (a' := ?_) ?_ (fun _ => (H.sub [6, 5, 4] rfl)) ?_; rotate_left; (focus ((try simp only [Act.put, List.getElem_toArray, List.getElem_cons_zero, List.getElem_cons_succ, List.setIfInBounds_toArray, List.set_cons_zero, List.set_cons_succ]); first | done | rfl))); clear hK K
          refine Kr.doneL (by kernel_rfl) ?_ _
          go_wp2_with fail
          go_meet
          exact ⟨_, _, _, _, _, _, _, _, rfl, rfl, Lib.hid (H.pickC [1, 0, 2, 3, 4, 5, 6] (by decide) rfl)⟩
        refine Kr.AllL.cons rfl (fun K hK => ?_) Kr.AllL.nil
        go_simp
        obtain ⟨y47, hy⟩ : ∃ y, y42.alloc (.cells #[.slice none 0 0] 24) = y := ⟨_, rfl⟩
        obtain ⟨bbc, hb⟩ : ∃ b, y42.heap.size = b := ⟨_, rfl⟩
        rw [hy, hb]
        replace H := H.alloc hy hb rfl
        clear hy hb
        (refine Kr.outL hK (a' := ?_) ?_ (fun _ => (H.sub [6, 5, 4] rfl)) ?_; rotate_left; (focus ((try simp only [Act.put, List.getElem_toArray, List.getElem_cons_zero, List.getElem_cons_succ, List.setIfInBounds_toArray, List.set_cons_zero, List.set_cons_succ]); first | done | rfl))); clear hK K
        refine Kr.readyL (rs := [7]) (by kernel_rfl) (by simp) ?_
        refine Kr.AllL.cons rfl (fun K hK => ?_) Kr.AllL.nil
        go_simp
        go_at_call 40
        refine (ring1_Mul (z := y * z % m) H 3 2 rfl rfl (H.nw 3 rfl) (H.nw 2 rfl) (H.nw 1 rfl) VM.out (Nat.mod_lt _ M0.out) (fun W1 h1 h2 h3 => mMul_v h1 h2 h3 HY.out HZ.out VM.out)).mono ?_
        rintro e y48 ⟨p48, n48, c48, rfl, HH⟩
        clear H
        have H := HH
        clear HH
        (refine Kr.outL hK (a' := ?_) ?_ (fun _ => (H.sub [6, 5, 4] rfl)) ?_; rotate_left; (focus ((try simp only [Act.put, List.getElem_toArray, List.getElem_cons_zero, List.getElem_cons_succ, List.setIfInBounds_toArray, List.set_cons_zero, List.set_cons_succ]); first | done | rfl))); clear hK K
        refine Kr.readyL (rs := [10]) (by kernel_rfl) (by simp) ?_
        refine Kr.AllL.cons rfl (fun K hK => ?_) Kr.AllL.nil
        have hk := H.c
        simp only [Kr.Cells] at hk
        go_simp
        clear hk
        obtain ⟨y49, hy⟩ : ∃ y, y48.setCell ⟨bab, 0, none⟩ (.slice p42 n42 c42) = y := ⟨_, rfl⟩
        rw [hy]
        replace H := H.store 1 hy rfl rfl
        dsimp only [List.set] at H
        clear hy
        (refine Kr.outL hK (a' := ?_) ?_ (fun _ => (H.sub [6, 5, 4] rfl)) ?_; rotate_left; (focus ((try simp only [Act.put, List.getElem_toArray, List.getElem_cons_zero, List.getElem_cons_succ, List.setIfInBounds_toArray, List.set_cons_zero, List.set_cons_succ]); first | done | rfl))); clear hK K
        refine Kr.readyL (rs := [11]) (by kernel_rfl) (by simp) ?_
        refine Kr.AllL.cons rfl (fun K hK => ?_) Kr.AllL.nil
        have hk := H.c
        simp only [Kr.Cells] at hk
        go_simp
        clear hk
        obtain ⟨y50, hy⟩ : ∃ y, y49.setCell ⟨bbc, 0, none⟩ (.slice p48 n48 c48) = y := ⟨_, rfl⟩
        rw [hy]
        replace H := H.store 0 hy rfl rfl
        dsimp only [List.set] at H
        clear hy
        (refine Kr.outL hK (a' := ?_) ?_ (fun _ => (H.sub [6, 5, 4] rfl)) ?_; rotate_left; (focus ((try simp only [Act.put, List.getElem_toArray, List.getElem_cons_zero, List.getElem_cons_succ, List.setIfInBounds_toArray, List.set_cons_zero, List.set_cons_succ]); first | done | rfl))); clear hK K
        refine Kr.doneL (by kernel_rfl) ?_ _
        go_wp2_with fail
        go_meet
        exact ⟨_, _, _, _, _, _, _, _, rfl, rfl, Lib.hid (H.pickC [1, 0, 2, 3, 4, 5, 6] (by decide) rfl)⟩
      refine Kr.AllL.cons rfl (fun K hK => ?_) Kr.AllL.nil
      go_simp
      obtain ⟨y51, hy⟩ : ∃ y, y41.alloc (.cells #[.slice none 0 0] 24) = y := ⟨_, rfl⟩
      obtain ⟨bbc, hb⟩ : ∃ b, y41.heap.size = b := ⟨_, rfl⟩
      rw [hy, hb]
      replace H := H.alloc hy hb rfl
      clear hy hb
      (refine Kr.outL hK (a' := ?_) ?_ (fun _ => (H.sub [6, 5, 4] rfl)) ?_; rotate_left; (focus ((try simp only [Act.put, List.getElem_toArray, List.getElem_cons_zero, List.getElem_cons_succ, List.setIfInBounds_toArray, List.set_cons_zero, List.set_cons_succ]); first | done | rfl))); clear hK K
      refine Kr.readyL (rs := [3]) (by kernel_rfl) (by simp) ?_
      refine Kr.AllL.cons rfl (fun K hK => ?_) Kr.AllL.nil
      go_simp
      go_at_call 40
      refine (ring1_Mul (z := x * y % m) H 3 2 rfl rfl (H.nw 3 rfl) (H.nw 2 rfl) (H.nw 0 rfl) VM.out (Nat.mod_lt _ M0.out) (fun W1 h1 h2 h3 => mMul_v h1 h2 h3 HX.out HY.out VM.out)).mono ?_
      rintro e y52 ⟨p52, n52, c52, rfl, HH⟩
      clear H
      have H := HH
      clear HH
      (refine Kr.outL hK (a' := ?_) ?_ (fun _ => (H.sub [6, 5, 4] rfl)) ?_; rotate_left; (focus ((try simp only [Act.put, List.getElem_toArray, List.getElem_cons_zero, List.getElem_cons_succ, List.setIfInBounds_toArray, List.set_cons_zero, List.set_cons_succ]); first | done | rfl))); clear hK K
      refine Kr.readyL (rs := [7]) (by kernel_rfl) (by simp) ?_
      refine Kr.AllL.cons rfl (fun K hK => ?_) Kr.AllL.nil
      go_simp
      go_at_call 40
      refine (ring1_Mul (z := y * z % m) H 3 2 rfl rfl (H.nw 3 rfl) (H.nw 2 rfl) (H.nw 1 rfl) VM.out (Nat.mod_lt _ M0.out) (fun W1 h1 h2 h3 => mMul_v h1 h2 h3 HY.out HZ.out VM.out)).mono ?_
      rintro e y53 ⟨p53, n53, c53, rfl, HH⟩
      clear H
      have H := HH
      clear HH
      (refine Kr.outL hK (a' := ?_) ?_ (fun _ => (H.sub [6, 5, 4] rfl)) ?_; rotate_left; (focus ((try simp only [Act.put, List.getElem_toArray, List.getElem_cons_zero, List.getElem_cons_succ, List.setIfInBounds_toArray, List.set_cons_zero, List.set_cons_succ]); first | done | rfl))); clear hK K
      refine Kr.readyL (rs := [10]) (by kernel_rfl) (by simp) ?_
      refine Kr.AllL.cons rfl (fun K hK => ?_) Kr.AllL.nil
      have hk := H.c
      simp only [Kr.Cells] at hk
      go_simp
      clear hk
      obtain ⟨y54, hy⟩ : ∃ y, y53.setCell ⟨bab, 0, none⟩ (.slice p52 n52 c52) = y := ⟨_, rfl⟩
      rw [hy]
      replace H := H.store 1 hy rfl rfl
      dsimp only [List.set] at H
      clear hy
      (refine Kr.outL hK (a' := ?_) ?_ (fun _ => (H.sub [6, 5, 4] rfl)) ?_; rotate_left; (focus ((try simp only [Act.put, List.getElem_toArray, List.getElem_cons_zero, List.getElem_cons_succ, List.setIfInBounds_toArray, List.set_cons_zero, List.set_cons_succ]); first | done | rfl))); clear hK K
      refine Kr.readyL (rs := [11]) (by kernel_rfl) (by simp) ?_
      refine Kr.AllL.cons rfl (fun K hK => ?_) Kr.AllL.nil
      have hk := H.c
      simp only [Kr.Cells] at hk
      go_simp
      clear hk
      obtain ⟨y55, hy⟩ : ∃ y, y54.setCell ⟨bbc, 0, none⟩ (.slice p53 n53 c53) = y := ⟨_, rfl⟩
      rw [hy]
      replace H := H.store 0 hy rfl rfl
      dsimp only [List.set] at H
      clear hy
      (refine Kr.outL hK (a' := ?_) ?_ (fun _ => (H.sub [6, 5, 4] rfl)) ?_; rotate_left; (focus ((try simp only [Act.put, List.getElem_toArray, List.getElem_cons_zero, List.getElem_cons_succ, List.setIfInBounds_toArray, List.set_cons_zero, List.set_cons_succ]); first | done | rfl))); clear hK K
      refine Kr.doneL (by kernel_rfl) ?_ _
      go_wp2_with fail
      go_meet
      exact ⟨_, _, _, _, _, _, _, _, rfl, rfl, Lib.hid (H.pickC [1, 0, 2, 3, 4, 5, 6] (by decide) rfl)⟩
    refine Kr.AllL.cons rfl (fun K hK => ?_) Kr.AllL.nil
    go_simp
    obtain ⟨y56, hy⟩ : ∃ y, d12.alloc (.cells #[.slice none 0 0] 24) = y := ⟨_, rfl⟩
    obtain ⟨bbc, hb⟩ : ∃ b, d12.heap.size = b := ⟨_, rfl⟩
    rw [hy, hb]
    replace H := H.alloc hy hb rfl
    clear hy hb
    (refine Kr.outL hK (a' := ?_) ?_ (fun _ => (H.sub [5, 4, 3] rfl)) ?_; rotate_left; (focus ((try simp only [Act.put, List.getElem_toArray, List.getElem_cons_zero, List.getElem_cons_succ, List.setIfInBounds_toArray, List.set_cons_zero, List.set_cons_succ]); first | done | rfl))); clear hK K
    refine Kr.readyL (rs := [3, 8]) (by kernel_rfl) (by simp) ?_
    refine Kr.AllL.cons rfl (fun K hK => ?_) ?_
    · go_simp
      go_at_call 40
      refine (ring1_Mul (z := x * y % m) H 2 1 rfl rfl (H.nw 3 rfl) (H.nw 2 rfl) (H.nw 0 rfl) VM.out (Nat.mod_lt _ M0.out) (fun W1 h1 h2 h3 => mMul_v h1 h2 h3 HX.out HY.out VM.out)).mono ?_
      rintro e y57 ⟨p57, n57, c57, rfl, HH⟩
      clear H
      have H := HH
      clear HH
      (refine Kr.outL hK (a' := ?_) ?_ (fun _ => (H.sub [5, 4, 3] rfl)) ?_; rotate_left; (focus ((try simp only [Act.put, List.getElem_toArray, List.getElem_cons_zero, List.getElem_cons_succ, List.setIfInBounds_toArray, List.set_cons_zero, List.set_cons_succ]); first | done | rfl))); clear hK K
      refine Kr.readyL (rs := [7, 8]) (by kernel_rfl) (by simp) ?_
      refine Kr.AllL.cons rfl (fun K hK => ?_) ?_
      · go_simp
        go_at_call 40
        refine (ring1_Mul (z := y * z % m) H 2 1 rfl rfl (H.nw 3 rfl) (H.nw 2 rfl) (H.nw 1 rfl) VM.out (Nat.mod_lt _ M0.out) (fun W1 h1 h2 h3 => mMul_v h1 h2 h3 HY.out HZ.out VM.out)).mono ?_
        rintro e y58 ⟨p58, n58, c58, rfl, HH⟩
        clear H
        have H := HH
        clear HH
        (refine Kr.outL hK (a' := ?_) ?_ (fun _ => (H.sub [5, 4, 3] rfl)) ?_; rotate_left; (focus ((try simp only [Act.put, List.getElem_toArray, List.getElem_cons_zero, List.getElem_cons_succ, List.setIfInBounds_toArray, List.set_cons_zero, List.set_cons_succ]); first | done | rfl))); clear hK K
        refine Kr.readyL (rs := [8]) (by kernel_rfl) (by simp) ?_
        refine Kr.AllL.cons rfl (fun K hK => ?_) Kr.AllL.nil
        go_simp
        obtain ⟨y59, hy⟩ : ∃ y, y58.alloc (.cells #[.slice none 0 0] 24) = y := ⟨_, rfl⟩
        obtain ⟨bab, hb⟩ : ∃ b, y58.heap.size = b := ⟨_, rfl⟩
        rw [hy, hb]
        replace H := H.alloc hy hb rfl
        clear hy hb
        (refine Kr.outL hK (a' := ?_) ?_ (fun _ => (H.sub [6, 5, 4] rfl)) ?_; rotate_left; (focus ((try simp only [Act.put, List.getElem_toArray, List.getElem_cons_zero, List.getElem_cons_succ, List.setIfInBounds_toArray, List.set_cons_zero, List.set_cons_succ]); first | done | rfl))); clear hK K
        refine Kr.readyL (rs := [10]) (by kernel_rfl) (by simp) ?_
        refine Kr.AllL.cons rfl (fun K hK => ?_) Kr.AllL.nil
        have hk := H.c
        simp only [Kr.Cells] at hk
        go_simp
        clear hk
        obtain ⟨y60, hy⟩ : ∃ y, y59.setCell ⟨bab, 0, none⟩ (.slice p57 n57 c57) = y := ⟨_, rfl⟩
        rw [hy]
        replace H := H.store 0 hy rfl rfl
        dsimp only [List.set] at H
        clear hy
        (refine Kr.outL hK (a' := ?_) ?_ (fun _ => (H.sub [6, 5, 4] rfl)) ?_; rotate_left; (focus ((try simp only [Act.put, List.getElem_toArray, List.getElem_cons_zero, List.getElem_cons_succ, List.setIfInBounds_toArray, List.set_cons_zero, List.set_cons_succ]); first | done | rfl))); clear hK K
        refine Kr.readyL (rs := [11]) (by kernel_rfl) (by simp) ?_
        refine Kr.AllL.cons rfl (fun K hK => ?_) Kr.AllL.nil
        have hk := H.c
        simp only [Kr.Cells] at hk
        go_simp
        clear hk
        obtain ⟨y61, hy⟩ : ∃ y, y60.setCell ⟨bbc, 0, none⟩ (.slice p58 n58 c58) = y := ⟨_, rfl⟩
        rw [hy]
        replace H := H.store 1 hy rfl rfl
        dsimp only [List.set] at H
        clear hy
        (refine Kr.outL hK (a' := ?_) ?_ (fun _ => (H.sub [6, 5, 4] rfl)) ?_; rotate_left; (focus ((try simp only [Act.put, List.getElem_toArray, List.getElem_cons_zero, List.getElem_cons_succ, List.setIfInBounds_toArray, List.set_cons_zero, List.set_cons_succ]); first | done | rfl))); clear hK K
        refine Kr.doneL (by kernel_rfl) ?_ _
        go_wp2_with fail
        go_meet
        exact ⟨_, _, _, _, _, _, _, _, rfl, rfl, Lib.hid H⟩
      refine Kr.AllL.cons rfl (fun K hK => ?_) Kr.AllL.nil
      go_simp
      obtain ⟨y62, hy⟩ : ∃ y, y57.alloc (.cells #[.slice none 0 0] 24) = y := ⟨_, rfl⟩
      obtain ⟨bab, hb⟩ : ∃ b, y57.heap.size = b := ⟨_, rfl⟩
      rw [hy, hb]
      replace H := H.alloc hy hb rfl
      clear hy hb
      (refine Kr.outL hK (a' := ?_) ?_ (fun _ => (H.sub [6, 5, 4] rfl)) ?_; rotate_left; (focus ((try simp only [Act.put, List.getElem_toArray, List.getElem_cons_zero, List.getElem_cons_succ, List.setIfInBounds_toArray, List.set_cons_zero, List.set_cons_succ]); first | done | rfl))); clear hK K
      refine Kr.readyL (rs := [7]) (by kernel_rfl) (by simp) ?_
      refine Kr.AllL.cons rfl (fun K hK => ?_) Kr.AllL.nil
      go_simp
      go_at_call 40
      refine (ring1_Mul (z := y * z % m) H 3 2 rfl rfl (H.nw 3 rfl) (H.nw 2 rfl) (H.nw 1 rfl) VM.out (Nat.mod_lt _ M0.out) (fun W1 h1 h2 h3 => mMul_v h1 h2 h3 HY.out HZ.out VM.out)).mono ?_
      rintro e y63 ⟨p63, n63, c63, rfl, HH⟩
      clear H
      have H := HH
      clear HH
      (refine Kr.outL hK (a' := ?_) ?_ (fun _ => (H.sub [6, 5, 4] rfl)) ?_; rotate_left; (focus ((try simp only [Act.put, List.getElem_toArray, List.getElem_cons_zero, List.getElem_cons_succ, List.setIfInBounds_toArray, List.set_cons_zero, List.set_cons_succ]); first | done | rfl))); clear hK K
      refine Kr.readyL (rs := [10]) (by kernel_rfl) (by simp) ?_
      refine Kr.AllL.cons rfl (fun K hK => ?_) Kr.AllL.nil
      have hk := H.c
      simp only [Kr.Cells] at hk
      go_simp
      clear hk
      obtain ⟨y64, hy⟩ : ∃ y, y63.setCell ⟨bab, 0, none⟩ (.slice p57 n57 c57) = y := ⟨_, rfl⟩
      rw [hy]
      replace H := H.store 0 hy rfl rfl
      dsimp only [List.set] at H
      clear hy
      (refine Kr.outL hK (a' := ?_) ?_ (fun _ => (H.sub [6, 5, 4] rfl)) ?_; rotate_left; (focus ((try simp only [Act.put, List.getElem_toArray, List.getElem_cons_zero, List.getElem_cons_succ, List.setIfInBounds_toArray, List.set_cons_zero, List.set_cons_succ]); first | done | rfl))); clear hK K
      refine Kr.readyL (rs := [11]) (by kernel_rfl) (by simp) ?_
      refine Kr.AllL.cons rfl (fun K hK => ?_) Kr.AllL.nil
      have hk := H.c
      simp only [Kr.Cells] at hk
      go_simp
      clear hk
      obtain ⟨y65, hy⟩ : ∃ y, y64.setCell ⟨bbc, 0, none⟩ (.slice p63 n63 c63) = y := ⟨_, rfl⟩
      rw [hy]
      replace H := H.store 1 hy rfl rfl
      dsimp only [List.set] at H
      clear hy
      (refine Kr.outL hK (a' := ?_) ?_ (fun _ => (H.sub [6, 5, 4] rfl)) ?_; rotate_left; (focus ((try simp only [Act.put, List.getElem_toArray, List.getElem_cons_zero, List.getElem_cons_succ, List.setIfInBounds_toArray, List.set_cons_zero, List.set_cons_succ]); first | done | rfl))); clear hK K
      refine Kr.doneL (by kernel_rfl) ?_ _
      go_wp2_with fail
      go_meet
      exact ⟨_, _, _, _, _, _, _, _, rfl, rfl, Lib.hid H⟩
    refine Kr.AllL.cons rfl (fun K hK => ?_) Kr.AllL.nil
    go_simp
    obtain ⟨y66, hy⟩ : ∃ y, y56.alloc (.cells #[.slice none 0 0] 24) = y := ⟨_, rfl⟩
    obtain ⟨bab, hb⟩ : ∃ b, y56.heap.size = b := ⟨_, rfl⟩
    rw [hy, hb]
    replace H := H.alloc hy hb rfl
    clear hy hb
    (refine Kr.outL hK (a' := ?_) ?_ (fun _ => (H.sub [6, 5, 4] rfl)) ?_; rotate_left; (focus ((try simp only [Act.put, List.getElem_toArray, List.getElem_cons_zero, List.getElem_cons_succ, List.setIfInBounds_toArray, List.set_cons_zero, List.set_cons_succ]); first | done | rfl))); clear hK K
    refine Kr.readyL (rs := [3]) (by kernel_rfl) (by simp) ?_
    refine Kr.AllL.cons rfl (fun K hK => ?_) Kr.AllL.nil
    go_simp
    go_at_call 40
    refine (ring1_Mul (z := x * y % m) H 3 2 rfl rfl (H.nw 3 rfl) (H.nw 2 rfl) (H.nw 0 rfl) VM.out (Nat.mod_lt _ M0.out) (fun W1 h1 h2 h3 => mMul_v h1 h2 h3 HX.out HY.out VM.out)).mono ?_
    rintro e y67 ⟨p67, n67, c67, rfl, HH⟩
    clear H
    have H := HH
    clear HH
    (refine Kr.outL hK (a' := ?_) ?_ (fun _ => (H.sub [6, 5, 4] rfl)) ?_; rotate_left; (focus ((try simp only [Act.put, List.getElem_toArray, List.getElem_cons_zero, List.getElem_cons_succ, List.setIfInBounds_toArray, List.set_cons_zero, List.set_cons_succ]); first | done | rfl))); clear hK K
    refine Kr.readyL (rs := [7]) (by kernel_rfl) (by simp) ?_
    refine Kr.AllL.cons rfl (fun K hK => ?_) Kr.AllL.nil
    go_simp
    go_at_call 40
    refine (ring1_Mul (z := y * z % m) H 3 2 rfl rfl (H.nw 3 rfl) (H.nw 2 rfl) (H.nw 1 rfl) VM.out (Nat.mod_lt _ M0.out) (fun W1 h1 h2 h3 => mMul_v h1 h2 h3 HY.out HZ.out VM.out)).mono ?_
    rintro e y68 ⟨p68, n68, c68, rfl, HH⟩
    clear H
    have H := HH
    clear HH
    (refine Kr.outL hK (a' := ?_) ?_ (fun _ => (H.sub [6, 5, 4] rfl)) ?_; rotate_left; (focus ((try simp only [Act.put, List.getElem_toArray, List.getElem_cons_zero, List.getElem_cons_succ, List.setIfInBounds_toArray, List.set_cons_zero, List.set_cons_succ]); first | done | rfl))); clear hK K
    refine Kr.readyL (rs := [10]) (by kernel_rfl) (by simp) ?_
    refine Kr.AllL.cons rfl (fun K hK => ?_) Kr.AllL.nil
    have hk := H.c
    simp only [Kr.Cells] at hk
    go_simp
    clear hk
    obtain ⟨y69, hy⟩ : ∃ y, y68.setCell ⟨bab, 0, none⟩ (.slice p67 n67 c67) = y := ⟨_, rfl⟩
    rw [hy]
    replace H := H.store 0 hy rfl rfl
    dsimp only [List.set] at H
    clear hy
    (refine Kr.outL hK (a' := ?_) ?_ (fun _ => (H.sub [6, 5, 4] rfl)) ?_; rotate_left; (focus ((try simp only [Act.put, List.getElem_toArray, List.getElem_cons_zero, List.getElem_cons_succ, List.setIfInBounds_toArray, List.set_cons_zero, List.set_cons_succ]); first | done | rfl))); clear hK K
    refine Kr.readyL (rs := [11]) (by kernel_rfl) (by simp) ?_
    refine Kr.AllL.cons rfl (fun K hK => ?_) Kr.AllL.nil
    have hk := H.c
    simp only [Kr.Cells] at hk
    go_simp
    clear hk
    obtain ⟨y70, hy⟩ : ∃ y, y69.setCell ⟨bbc, 0, none⟩ (.slice p68 n68 c68) = y := ⟨_, rfl⟩
    rw [hy]
    replace H := H.store 1 hy rfl rfl
    dsimp only [List.set] at H
    clear hy
    (refine Kr.outL hK (a' := ?_) ?_ (fun _ => (H.sub [6, 5, 4] rfl)) ?_; rotate_left; (focus ((try simp only [Act.put, List.getElem_toArray, List.getElem_cons_zero, List.getElem_cons_succ, List.setIfInBounds_toArray, List.set_cons_zero, List.set_cons_succ]); first | done | rfl))); clear hK K
    refine Kr.doneL (by kernel_rfl) ?_ _
    go_wp2_with fail
    go_meet
    exact ⟨_, _, _, _, _, _, _, _, rfl, rfl, Lib.hid H⟩
  case rest =>
    clear H
    obtain ⟨bab, bbc, p68, n68, c68, p67, n67, c67, rfl, rfl, HH⟩ := hcut
    have H := HH.out
    clear HH
    go_upto_region 6 with fail
    refine Kr.seqStartW ?_
    (refine Kr.seqQ (v := ?_) (a' := ?_) (by rfl) ?_ ?_ ?_; rotate_left 2; (focus (go_simp; first | done | rfl)); (focus ((try simp only [Act.put, List.getElem_toArray, List.getElem_cons_zero, List.getElem_cons_succ, List.setIfInBounds_toArray, List.set_cons_zero, List.set_cons_succ]); first | done | rfl)))
    have hk := H.c
    simp only [Kr.Cells] at hk
    iterate 2 (refine Kr.seqQ (v := ?_) (a' := ?_) (by rfl) ?_ ?_ ?_; rotate_left 2; (focus (go_simp; first | done | rfl)); (focus ((try simp only [Act.put, List.getElem_toArray, List.getElem_cons_zero, List.getElem_cons_succ, List.setIfInBounds_toArray, List.set_cons_zero, List.set_cons_succ]); first | done | rfl)))
    refine Kr.seqR (by rfl) (fun K hK => ?_)
    go_simp
    go_at_call 40
    clear hk
    refine (ring1_Add (z := (x + y) % m) H 3 2 rfl rfl (H.nw 5 rfl) (H.nw 4 rfl) (H.nw 2 rfl) VM.out (Nat.mod_lt _ M0.out) (fun W1 h1 h2 h3 => mAdd_v h1 h2 h3 HX.out HY.out VM.out)).mono ?_
    rintro e y71 ⟨p71, n71, c71, rfl, HH⟩
    clear H
    have H := HH
    clear HH
    (refine Kr.outS hK (a' := ?_) ?_ ?_; rotate_left; (focus ((try simp only [Act.put, List.getElem_toArray, List.getElem_cons_zero, List.getElem_cons_succ, List.setIfInBounds_toArray, List.set_cons_zero, List.set_cons_succ]); first | done | rfl))); clear hK K
    refine Kr.seqR (by rfl) (fun K hK => ?_)
    go_simp
    obtain ⟨y72, hy⟩ : ∃ y, y71.alloc (.cells #[.slice none 0 0] 24) = y := ⟨_, rfl⟩
    obtain ⟨bs, hb⟩ : ∃ b, y71.heap.size = b := ⟨_, rfl⟩
    rw [hy, hb]
    replace H := H.alloc hy hb rfl
    clear hy hb
    (refine Kr.outS hK (a' := ?_) ?_ ?_; rotate_left; (focus ((try simp only [Act.put, List.getElem_toArray, List.getElem_cons_zero, List.getElem_cons_succ, List.setIfInBounds_toArray, List.set_cons_zero, List.set_cons_succ]); first | done | rfl))); clear hK K
    have hk := H.c
    simp only [Kr.Cells] at hk
    refine Kr.seqR (by rfl) (fun K hK => ?_)
    go_simp
    clear hk
    obtain ⟨y73, hy⟩ : ∃ y, y72.setCell ⟨bs, 0, none⟩ (.slice p71 n71 c71) = y := ⟨_, rfl⟩
    rw [hy]
    replace H := H.store 0 hy rfl rfl
    dsimp only [List.set] at H
    clear hy
    (refine Kr.outS hK (a' := ?_) ?_ ?_; rotate_left; (focus ((try simp only [Act.put, List.getElem_toArray, List.getElem_cons_zero, List.getElem_cons_succ, List.setIfInBounds_toArray, List.set_cons_zero, List.set_cons_succ]); first | done | rfl))); clear hK K
    refine Kr.seqDoneW ?_
    go_upto_region 7 with fail
    refine Kr.seqStartW ?_
    have hk := H.c
    simp only [Kr.Cells] at hk
    iterate 2 (refine Kr.seqQ (v := ?_) (a' := ?_) (by rfl) ?_ ?_ ?_; rotate_left 2; (focus (go_simp; first | done | rfl)); (focus ((try simp only [Act.put, List.getElem_toArray, List.getElem_cons_zero, List.getElem_cons_succ, List.setIfInBounds_toArray, List.set_cons_zero, List.set_cons_succ]); first | done | rfl)))
    clear hk
    refine Kr.seqDoneW ?_
    go_upto_region 9 with fail
    refine Kr.seqStartW ?_
    (refine Kr.seqQ (v := ?_) (a' := ?_) (by rfl) ?_ ?_ ?_; rotate_left 2; (focus (go_simp; first | done | rfl)); (focus ((try simp only [Act.put, List.getElem_toArray, List.getElem_cons_zero, List.getElem_cons_succ, List.setIfInBounds_toArray, List.set_cons_zero, List.set_cons_succ]); first | done | rfl)))
    have hk := H.c
    simp only [Kr.Cells] at hk
    iterate 2 (refine Kr.seqQ (v := ?_) (a' := ?_) (by rfl) ?_ ?_ ?_; rotate_left 2; (focus (go_simp; first | done | rfl)); (focus ((try simp only [Act.put, List.getElem_toArray, List.getElem_cons_zero, List.getElem_cons_succ, List.setIfInBounds_toArray, List.set_cons_zero, List.set_cons_succ]); first | done | rfl)))
    refine Kr.seqR (by rfl) (fun K hK => ?_)
    go_simp
    go_at_call 40
    clear hk
    refine (ring1_Mul (z := x * y % m * z % m) H 4 3 rfl rfl (H.nw 2 rfl) (H.nw 4 rfl) (H.nw 3 rfl) VM.out (Nat.mod_lt _ M0.out) (fun W1 h1 h2 h3 => mMul_v h1 h2 h3 (Nat.mod_lt _ M0.out) HZ.out VM.out)).mono ?_
    rintro e y74 ⟨p74, n74, c74, rfl, HH⟩
    clear H
    have H := HH
    clear HH
    (refine Kr.outS hK (a' := ?_) ?_ ?_; rotate_left; (focus ((try simp only [Act.put, List.getElem_toArray, List.getElem_cons_zero, List.getElem_cons_succ, List.setIfInBounds_toArray, List.set_cons_zero, List.set_cons_succ]); first | done | rfl))); clear hK K
    refine Kr.seqR (by rfl) (fun K hK => ?_)
    go_simp
    obtain ⟨y75, hy⟩ : ∃ y, y74.alloc (.cells #[.slice none 0 0] 24) = y := ⟨_, rfl⟩
    obtain ⟨bo, hb⟩ : ∃ b, y74.heap.size = b := ⟨_, rfl⟩
    rw [hy, hb]
    replace H := H.alloc hy hb rfl
    clear hy hb
    (refine Kr.outS hK (a' := ?_) ?_ ?_; rotate_left; (focus ((try simp only [Act.put, List.getElem_toArray, List.getElem_cons_zero, List.getElem_cons_succ, List.setIfInBounds_toArray, List.set_cons_zero, List.set_cons_succ]); first | done | rfl))); clear hK K
    have hk := H.c
    simp only [Kr.Cells] at hk
    refine Kr.seqR (by rfl) (fun K hK => ?_)
    go_simp
    clear hk
    obtain ⟨y76, hy⟩ : ∃ y, y75.setCell ⟨bo, 0, none⟩ (.slice p74 n74 c74) = y := ⟨_, rfl⟩
    rw [hy]
    replace H := H.store 0 hy rfl rfl
    dsimp only [List.set] at H
    clear hy
    (refine Kr.outS hK (a' := ?_) ?_ ?_; rotate_left; (focus ((try simp only [Act.put, List.getElem_toArray, List.getElem_cons_zero, List.getElem_cons_succ, List.setIfInBounds_toArray, List.set_cons_zero, List.set_cons_succ]); first | done | rfl))); clear hK K
    refine Kr.seqDoneW ?_
    go_upto_region 10 with fail
    refine Kr.seqStartW ?_
    (refine Kr.seqQ (v := ?_) (a' := ?_) (by rfl) ?_ ?_ ?_; rotate_left 2; (focus (go_simp; first | done | rfl)); (focus ((try simp only [Act.put, List.getElem_toArray, List.getElem_cons_zero, List.getElem_cons_succ, List.setIfInBounds_toArray, List.set_cons_zero, List.set_cons_succ]); first | done | rfl)))
    have hk := H.c
    simp only [Kr.Cells] at hk
    iterate 2 (refine Kr.seqQ (v := ?_) (a' := ?_) (by rfl) ?_ ?_ ?_; rotate_left 2; (focus (go_simp; first | done | rfl)); (focus ((try simp only [Act.put, List.getElem_toArray, List.getElem_cons_zero, List.getElem_cons_succ, List.setIfInBounds_toArray, List.set_cons_zero, List.set_cons_succ]); first | done | rfl)))
    refine Kr.seqR (by rfl) (fun K hK => ?_)
    go_simp
    go_at_call 40
    clear hk
    refine (ring1_Mul (z := x * (y * z % m) % m) H 5 4 rfl rfl (H.nw 7 rfl) (H.nw 2 rfl) (H.nw 4 rfl) VM.out (Nat.mod_lt _ M0.out) (fun W1 h1 h2 h3 => mMul_v h1 h2 h3 HX.out (Nat.mod_lt _ M0.out) VM.out)).mono ?_
    rintro e y77 ⟨p77, n77, c77, rfl, HH⟩
    clear H
    have H := HH
    clear HH
    (refine Kr.outS hK (a' := ?_) ?_ ?_; rotate_left; (focus ((try simp only [Act.put, List.getElem_toArray, List.getElem_cons_zero, List.getElem_cons_succ, List.setIfInBounds_toArray, List.set_cons_zero, List.set_cons_succ]); first | done | rfl))); clear hK K
    refine Kr.seqR (by rfl) (fun K hK => ?_)
    go_simp
    obtain ⟨y78, hy⟩ : ∃ y, y77.alloc (.cells #[.slice none 0 0] 24) = y := ⟨_, rfl⟩
    obtain ⟨bt, hb⟩ : ∃ b, y77.heap.size = b := ⟨_, rfl⟩
    rw [hy, hb]
    replace H := H.alloc hy hb rfl
    clear hy hb
    (refine Kr.outS hK (a' := ?_) ?_ ?_; rotate_left; (focus ((try simp only [Act.put, List.getElem_toArray, List.getElem_cons_zero, List.getElem_cons_succ, List.setIfInBounds_toArray, List.set_cons_zero, List.set_cons_succ]); first | done | rfl))); clear hK K
    have hk := H.c
    simp only [Kr.Cells] at hk
    refine Kr.seqR (by rfl) (fun K hK => ?_)
    go_simp
    clear hk
    obtain ⟨y79, hy⟩ : ∃ y, y78.setCell ⟨bt, 0, none⟩ (.slice p77 n77 c77) = y := ⟨_, rfl⟩
    rw [hy]
    replace H := H.store 0 hy rfl rfl
    dsimp only [List.set] at H
    clear hy
    (refine Kr.outS hK (a' := ?_) ?_ ?_; rotate_left; (focus ((try simp only [Act.put, List.getElem_toArray, List.getElem_cons_zero, List.getElem_cons_succ, List.setIfInBounds_toArray, List.set_cons_zero, List.set_cons_succ]); first | done | rfl))); clear hK K
    refine Kr.seqDoneW ?_
    go_upto_region 11 with fail
    refine Kr.seqStartW ?_
    (refine Kr.seqQ (v := ?_) (a' := ?_) (by rfl) ?_ ?_ ?_; rotate_left 2; (focus (go_simp; first | done | rfl)); (focus ((try simp only [Act.put, List.getElem_toArray, List.getElem_cons_zero, List.getElem_cons_succ, List.setIfInBounds_toArray, List.set_cons_zero, List.set_cons_succ]); first | done | rfl)))
    have hk := H.c
    simp only [Kr.Cells] at hk
    iterate 2 (refine Kr.seqQ (v := ?_) (a' := ?_) (by rfl) ?_ ?_ ?_; rotate_left 2; (focus (go_simp; first | done | rfl)); (focus ((try simp only [Act.put, List.getElem_toArray, List.getElem_cons_zero, List.getElem_cons_succ, List.setIfInBounds_toArray, List.set_cons_zero, List.set_cons_succ]); first | done | rfl)))
    refine Kr.seqR (by rfl) (fun K hK => ?_)
    go_simp
    go_at_call 40
    clear hk
    refine (ring1_Mul (z := (x + y) % m * z % m) H 6 5 rfl rfl (H.nw 2 rfl) (H.nw 6 rfl) (H.nw 5 rfl) VM.out (Nat.mod_lt _ M0.out) (fun W1 h1 h2 h3 => mMul_v h1 h2 h3 (Nat.mod_lt _ M0.out) HZ.out VM.out)).mono ?_
    rintro e y80 ⟨p80, n80, c80, rfl, HH⟩
    clear H
    have H := HH
    clear HH
    (refine Kr.outS hK (a' := ?_) ?_ ?_; rotate_left; (focus ((try simp only [Act.put, List.getElem_toArray, List.getElem_cons_zero, List.getElem_cons_succ, List.setIfInBounds_toArray, List.set_cons_zero, List.set_cons_succ]); first | done | rfl))); clear hK K
    refine Kr.seqR (by rfl) (fun K hK => ?_)
    go_simp
    obtain ⟨y81, hy⟩ : ∃ y, y80.alloc (.cells #[.slice none 0 0] 24) = y := ⟨_, rfl⟩
    obtain ⟨bl, hb⟩ : ∃ b, y80.heap.size = b := ⟨_, rfl⟩
    rw [hy, hb]
    replace H := H.alloc hy hb rfl
    clear hy hb
    (refine Kr.outS hK (a' := ?_) ?_ ?_; rotate_left; (focus ((try simp only [Act.put, List.getElem_toArray, List.getElem_cons_zero, List.getElem_cons_succ, List.setIfInBounds_toArray, List.set_cons_zero, List.set_cons_succ]); first | done | rfl))); clear hK K
    have hk := H.c
    simp only [Kr.Cells] at hk
    refine Kr.seqR (by rfl) (fun K hK => ?_)
    go_simp
    clear hk
    obtain ⟨y82, hy⟩ : ∃ y, y81.setCell ⟨bl, 0, none⟩ (.slice p80 n80 c80) = y := ⟨_, rfl⟩
    rw [hy]
    replace H := H.store 0 hy rfl rfl
    dsimp only [List.set] at H
    clear hy
    (refine Kr.outS hK (a' := ?_) ?_ ?_; rotate_left; (focus ((try simp only [Act.put, List.getElem_toArray, List.getElem_cons_zero, List.getElem_cons_succ, List.setIfInBounds_toArray, List.set_cons_zero, List.set_cons_succ]); first | done | rfl))); clear hK K
    refine Kr.seqDoneW ?_
    go_upto_region 12 with fail
    go_cut [17] from 68 to 74 (fun s17 W => ∃ (bq : Nat) (p93 : Option Addr) (n93 c93 : Nat) (p92 : Option Addr) (n92 c92 : Nat), s17 = .pointer (some ⟨bq, 0, none⟩) ∧ Hid (Sta w W [(bq, 0, .slice p93 n93 c93), (bl, 0, .slice p80 n80 c80), (bt, 0, .slice p77 n77 c77), (bo, 0, .slice p74 n74 c74), (bs, 0, .slice p71 n71 c71), (bab, 0, .slice p67 n67 c67), (bbc, 0, .slice p68 n68 c68), (bg, 0, .bool true), (bm, 0, .slice pm nm cm), (bc, 0, .slice pc nc cc), (bb, 0, .slice pb nb cb), (ba, 0, .slice pa na ca)] [N p93 n93 c93 ((x * z % m + y * z % m) % m), N p92 n92 c92 (x * z % m), N p80 n80 c80 ((x + y) % m * z % m), N p77 n77 c77 (x * (y * z % m) % m), N p74 n74 c74 (x * y % m * z % m), N p71 n71 c71 ((x + y) % m), N p68 n68 c68 (y * z % m), N p67 n67 c67 (x * y % m), N pm nm cm (m), N pc nc cc (z), N pb nb cb (y), N pa na ca (x)]))
    case first =>
      refine Kr.startL (fun W' => Kr.Cells W' [(ba, 0, .slice pa na ca), (bc, 0, .slice pc nc cc), (bbc, 0, .slice p68 n68 c68)]) [] (by kernel_rfl) ?_
      have gd : Gr y82 y82.drew := (Gr.refl _).drew
      generalize y82.drew = d83 at gd ⊢
      replace H := H.grow gd
      clear gd
      (refine Kr.tPQ 0 (v := ?_) (a' := ?_) rfl (by kernel_rfl) (fun _ _ _ h => h) (by rfl) (fun _ => (H.sub [10, 8, 5] rfl)) (fun wx => ?_) ?_ ?_; rotate_left 2; (focus (go_simp; first | done | rfl)); (focus ((try simp only [Act.put, List.getElem_toArray, List.getElem_cons_zero, List.getElem_cons_succ, List.setIfInBounds_toArray, List.set_cons_zero, List.set_cons_succ]); first | done | rfl)))
      (refine Kr.tPQ 1 (v := ?_) (a' := ?_) rfl (by kernel_rfl) (fun _ _ _ h => h) (by rfl) (fun _ => (H.sub [10, 8, 5] rfl)) (fun wx => ?_) ?_ ?_; rotate_left 2; (focus (go_simp; first | done | rfl)); (focus ((try simp only [Act.put, List.getElem_toArray, List.getElem_cons_zero, List.getElem_cons_succ, List.setIfInBounds_toArray, List.set_cons_zero, List.set_cons_succ]); first | done | rfl)))
      (refine Kr.tSQ 2 [] (v := ?_) (a' := ?_) rfl (by kernel_rfl) (fun _ _ _ h => h) (by rfl) (H.sub [10, 8, 5] rfl) (fun wx hSx => ?_) ?_ ?_; rotate_left 2; (focus (simp only [Kr.Cells] at hSx; go_simp; first | done | rfl)); (focus ((try simp only [Act.put, List.getElem_toArray, List.getElem_cons_zero, List.getElem_cons_succ, List.setIfInBounds_toArray, List.set_cons_zero, List.set_cons_succ]); first | done | rfl)))
      (refine Kr.tSQ 3 [] (v := ?_) (a' := ?_) rfl (by kernel_rfl) (fun _ _ _ h => h) (by rfl) (H.sub [10, 8, 5] rfl) (fun wx hSx => ?_) ?_ ?_; rotate_left 2; (focus (simp only [Kr.Cells] at hSx; go_simp; first | done | rfl)); (focus ((try simp only [Act.put, List.getElem_toArray, List.getElem_cons_zero, List.getElem_cons_succ, List.setIfInBounds_toArray, List.set_cons_zero, List.set_cons_succ]); first | done | rfl)))
      (refine Kr.tSQ 5 [] (v := ?_) (a' := ?_) rfl (by kernel_rfl) (fun _ _ _ h => h) (by rfl) (H.sub [10, 8, 5] rfl) (fun wx hSx => ?_) ?_ ?_; rotate_left 2; (focus (simp only [Kr.Cells] at hSx; go_simp; first | done | rfl)); (focus ((try simp only [Act.put, List.getElem_toArray, List.getElem_cons_zero, List.getElem_cons_succ, List.setIfInBounds_toArray, List.set_cons_zero, List.set_cons_succ]); first | done | rfl)))
      refine Kr.readyL (rs := [4, 7]) (by kernel_rfl) (by simp) ?_
      refine Kr.AllL.cons rfl (fun K hK => ?_) ?_
      · go_simp
        go_at_call 40
        refine (ring1_Mul (z := x * z % m) H 7 6 rfl rfl (H.nw 9 rfl) (H.nw 7 rfl) (H.nw 6 rfl) VM.out (Nat.mod_lt _ M0.out) (fun W1 h1 h2 h3 => mMul_v h1 h2 h3 HX.out HZ.out VM.out)).mono ?_
        rintro e y84 ⟨p84, n84, c84, rfl, HH⟩
        clear H
        have H := HH
        clear HH
        (refine Kr.outL hK (a' := ?_) ?_ (fun _ => (H.sub [10, 8, 5] rfl)) ?_; rotate_left; (focus ((try simp only [Act.put, List.getElem_toArray, List.getElem_cons_zero, List.getElem_cons_succ, List.setIfInBounds_toArray, List.set_cons_zero, List.set_cons_succ]); first | done | rfl))); clear hK K
        refine Kr.readyL (rs := [6, 7]) (by kernel_rfl) (by simp) ?_
        refine Kr.AllL.cons rfl (fun K hK => ?_) ?_
        · go_simp
          go_at_call 40
          refine (ring1_Add (z := (x * z % m + y * z % m) % m) H 7 6 rfl rfl (H.nw 0 rfl) (H.nw 5 rfl) (H.nw 7 rfl) VM.out (Nat.mod_lt _ M0.out) (fun W1 h1 h2 h3 => mAdd_v h1 h2 h3 (Nat.mod_lt _ M0.out) (Nat.mod_lt _ M0.out) VM.out)).mono ?_
          rintro e y85 ⟨p85, n85, c85, rfl, HH⟩
          clear H
          have H := HH
          clear HH
          (refine Kr.outL hK (a' := ?_) ?_ (fun _ => (H.sub [10, 8, 5] rfl)) ?_; rotate_left; (focus ((try simp only [Act.put, List.getElem_toArray, List.getElem_cons_zero, List.getElem_cons_succ, List.setIfInBounds_toArray, List.set_cons_zero, List.set_cons_succ]); first | done | rfl))); clear hK K
          refine Kr.readyL (rs := [7]) (by kernel_rfl) (by simp) ?_
          refine Kr.AllL.cons rfl (fun K hK => ?_) Kr.AllL.nil
          go_simp
          obtain ⟨y86, hy⟩ : ∃ y, y85.alloc (.cells #[.slice none 0 0] 24) = y := ⟨_, rfl⟩
          obtain ⟨bq, hb⟩ : ∃ b, y85.heap.size = b := ⟨_, rfl⟩
          rw [hy, hb]
          replace H := H.alloc hy hb rfl
          clear hy hb
          (refine Kr.outL hK (a' := ?_) ?_ (fun _ => (H.sub [11, 9, 6] rfl)) ?_; rotate_left; (focus ((try simp only [Act.put, List.getElem_toArray, List.getElem_cons_zero, List.getElem_cons_succ, List.setIfInBounds_toArray, List.set_cons_zero, List.set_cons_succ]); first | done | rfl))); clear hK K
          refine Kr.readyL (rs := [8]) (by kernel_rfl) (by simp) ?_
          refine Kr.AllL.cons rfl (fun K hK => ?_) Kr.AllL.nil
          have hk := H.c
          simp only [Kr.Cells] at hk
          go_simp
          clear hk
          obtain ⟨y87, hy⟩ : ∃ y, y86.setCell ⟨bq, 0, none⟩ (.slice p85 n85 c85) = y := ⟨_, rfl⟩
          rw [hy]
          replace H := H.store 0 hy rfl rfl
          dsimp only [List.set] at H
          clear hy
          (refine Kr.outL hK (a' := ?_) ?_ (fun _ => (H.sub [11, 9, 6] rfl)) ?_; rotate_left; (focus ((try simp only [Act.put, List.getElem_toArray, List.getElem_cons_zero, List.getElem_cons_succ, List.setIfInBounds_toArray, List.set_cons_zero, List.set_cons_succ]); first | done | rfl))); clear hK K
          refine Kr.doneL (by kernel_rfl) ?_ _
          go_wp2_with fail
          go_meet
          exact ⟨_, _, _, _, _, _, _, rfl, Lib.hid H⟩
        refine Kr.AllL.cons rfl (fun K hK => ?_) Kr.AllL.nil
        go_simp
        obtain ⟨y88, hy⟩ : ∃ y, y84.alloc (.cells #[.slice none 0 0] 24) = y := ⟨_, rfl⟩
        obtain ⟨bq, hb⟩ : ∃ b, y84.heap.size = b := ⟨_, rfl⟩
        rw [hy, hb]
        replace H := H.alloc hy hb rfl
        clear hy hb
        (refine Kr.outL hK (a' := ?_) ?_ (fun _ => (H.sub [11, 9, 6] rfl)) ?_; rotate_left; (focus ((try simp only [Act.put, List.getElem_toArray, List.getElem_cons_zero, List.getElem_cons_succ, List.setIfInBounds_toArray, List.set_cons_zero, List.set_cons_succ]); first | done | rfl))); clear hK K
        refine Kr.readyL (rs := [6]) (by kernel_rfl) (by simp) ?_
        refine Kr.AllL.cons rfl (fun K hK => ?_) Kr.AllL.nil
        go_simp
        go_at_call 40
        refine (ring1_Add (z := (x * z % m + y * z % m) % m) H 8 7 rfl rfl (H.nw 0 rfl) (H.nw 5 rfl) (H.nw 7 rfl) VM.out (Nat.mod_lt _ M0.out) (fun W1 h1 h2 h3 => mAdd_v h1 h2 h3 (Nat.mod_lt _ M0.out) (Nat.mod_lt _ M0.out) VM.out)).mono ?_
        rintro e y89 ⟨p89, n89, c89, rfl, HH⟩
        clear H
        have H := HH
        clear HH
        (refine Kr.outL hK (a' := ?_) ?_ (fun _ => (H.sub [11, 9, 6] rfl)) ?_; rotate_left; (focus ((try simp only [Act.put, List.getElem_toArray, List.getElem_cons_zero, List.getElem_cons_succ, List.setIfInBounds_toArray, List.set_cons_zero, List.set_cons_succ]); first | done | rfl))); clear hK K
        refine Kr.readyL (rs := [8]) (by kernel_rfl) (by simp) ?_
        refine Kr.AllL.cons rfl (fun K hK => ?_) Kr.AllL.nil
        have hk := H.c
        simp only [Kr.Cells] at hk
        go_simp
        clear hk
        obtain ⟨y90, hy⟩ : ∃ y, y89.setCell ⟨bq, 0, none⟩ (.slice p89 n89 c89) = y := ⟨_, rfl⟩
        rw [hy]
        replace H := H.store 0 hy rfl rfl
        dsimp only [List.set] at H
        clear hy
        (refine Kr.outL hK (a' := ?_) ?_ (fun _ => (H.sub [11, 9, 6] rfl)) ?_; rotate_left; (focus ((try simp only [Act.put, List.getElem_toArray, List.getElem_cons_zero, List.getElem_cons_succ, List.setIfInBounds_toArray, List.set_cons_zero, List.set_cons_succ]); first | done | rfl))); clear hK K
        refine Kr.doneL (by kernel_rfl) ?_ _
        go_wp2_with fail
        go_meet
        exact ⟨_, _, _, _, _, _, _, rfl, Lib.hid H⟩
      refine Kr.AllL.cons rfl (fun K hK => ?_) Kr.AllL.nil
      go_simp
      obtain ⟨y91, hy⟩ : ∃ y, d83.alloc (.cells #[.slice none 0 0] 24) = y := ⟨_, rfl⟩
      obtain ⟨bq, hb⟩ : ∃ b, d83.heap.size = b := ⟨_, rfl⟩
      rw [hy, hb]
      replace H := H.alloc hy hb rfl
      clear hy hb
      (refine Kr.outL hK (a' := ?_) ?_ (fun _ => (H.sub [11, 9, 6] rfl)) ?_; rotate_left; (focus ((try simp only [Act.put, List.getElem_toArray, List.getElem_cons_zero, List.getElem_cons_succ, List.setIfInBounds_toArray, List.set_cons_zero, List.set_cons_succ]); first | done | rfl))); clear hK K
      refine Kr.readyL (rs := [4]) (by kernel_rfl) (by simp) ?_
      refine Kr.AllL.cons rfl (fun K hK => ?_) Kr.AllL.nil
      go_simp
      go_at_call 40
      refine (ring1_Mul (z := x * z % m) H 8 7 rfl rfl (H.nw 9 rfl) (H.nw 7 rfl) (H.nw 6 rfl) VM.out (Nat.mod_lt _ M0.out) (fun W1 h1 h2 h3 => mMul_v h1 h2 h3 HX.out HZ.out VM.out)).mono ?_
      rintro e y92 ⟨p92, n92, c92, rfl, HH⟩
      clear H
      have H := HH
      clear HH
      (refine Kr.outL hK (a' := ?_) ?_ (fun _ => (H.sub [11, 9, 6] rfl)) ?_; rotate_left; (focus ((try simp only [Act.put, List.getElem_toArray, List.getElem_cons_zero, List.getElem_cons_succ, List.setIfInBounds_toArray, List.set_cons_zero, List.set_cons_succ]); first | done | rfl))); clear hK K
      refine Kr.readyL (rs := [6]) (by kernel_rfl) (by simp) ?_
      refine Kr.AllL.cons rfl (fun K hK => ?_) Kr.AllL.nil
      go_simp
      go_at_call 40
      refine (ring1_Add (z := (x * z % m + y * z % m) % m) H 8 7 rfl rfl (H.nw 0 rfl) (H.nw 5 rfl) (H.nw 7 rfl) VM.out (Nat.mod_lt _ M0.out) (fun W1 h1 h2 h3 => mAdd_v h1 h2 h3 (Nat.mod_lt _ M0.out) (Nat.mod_lt _ M0.out) VM.out)).mono ?_
      rintro e y93 ⟨p93, n93, c93, rfl, HH⟩
      clear H
      have H := HH
      clear HH
      (refine Kr.outL hK (a' := ?_) ?_ (fun _ => (H.sub [11, 9, 6] rfl)) ?_; rotate_left; (focus ((try simp only [Act.put, List.getElem_toArray, List.getElem_cons_zero, List.getElem_cons_succ, List.setIfInBounds_toArray, List.set_cons_zero, List.set_cons_succ]); first | done | rfl))); clear hK K
      refine Kr.readyL (rs := [8]) (by kernel_rfl) (by simp) ?_
      refine Kr.AllL.cons rfl (fun K hK => ?_) Kr.AllL.nil
      have hk := H.c
      simp only [Kr.Cells] at hk
      go_simp
      clear hk
      obtain ⟨y94, hy⟩ : ∃ y, y93.setCell ⟨bq, 0, none⟩ (.slice p93 n93 c93) = y := ⟨_, rfl⟩
      rw [hy]
      replace H := H.store 0 hy rfl rfl
      dsimp only [List.set] at H
      clear hy
      (refine Kr.outL hK (a' := ?_) ?_ (fun _ => (H.sub [11, 9, 6] rfl)) ?_; rotate_left; (focus ((try simp only [Act.put, List.getElem_toArray, List.getElem_cons_zero, List.getElem_cons_succ, List.setIfInBounds_toArray, List.set_cons_zero, List.set_cons_succ]); first | done | rfl))); clear hK K
      refine Kr.doneL (by kernel_rfl) ?_ _
      go_wp2_with fail
      go_meet
      exact ⟨_, _, _, _, _, _, _, rfl, Lib.hid H⟩
    case rest =>
      clear H
      obtain ⟨bq, p93, n93, c93, p92, n92, c92, rfl, HH⟩ := hcut
      have H := HH.out
      clear HH
      go_upto_region 13 with fail
      refine Kr.seqStartW ?_
      (refine Kr.seqQ (v := ?_) (a' := ?_) (by rfl) ?_ ?_ ?_; rotate_left 2; (focus (go_simp; first | done | rfl)); (focus ((try simp only [Act.put, List.getElem_toArray, List.getElem_cons_zero, List.getElem_cons_succ, List.setIfInBounds_toArray, List.set_cons_zero, List.set_cons_succ]); first | done | rfl)))
      have hk := H.c
      simp only [Kr.Cells] at hk
      iterate 2 (refine Kr.seqQ (v := ?_) (a' := ?_) (by rfl) ?_ ?_ ?_; rotate_left 2; (focus (go_simp; first | done | rfl)); (focus ((try simp only [Act.put, List.getElem_toArray, List.getElem_cons_zero, List.getElem_cons_succ, List.setIfInBounds_toArray, List.set_cons_zero, List.set_cons_succ]); first | done | rfl)))
      refine Kr.seqR (by rfl) (fun K hK => ?_)
      go_simp
      go_at_call 40
      clear hk
      refine (ring1_Sub (z := ((x + y) % m + m - y) % m) H 8 7 rfl rfl (H.nw 5 rfl) (H.nw 10 rfl) (H.nw 8 rfl) VM.out (Nat.mod_lt _ M0.out) (fun W1 h1 h2 h3 => mSub_v h1 h2 h3 (Nat.mod_lt _ M0.out) HY.out VM.out)).mono ?_
      rintro e y95 ⟨p95, n95, c95, rfl, HH⟩
      clear H
      have H := HH
      clear HH
      (refine Kr.outS hK (a' := ?_) ?_ ?_; rotate_left; (focus ((try simp only [Act.put, List.getElem_toArray, List.getElem_cons_zero, List.getElem_cons_succ, List.setIfInBounds_toArray, List.set_cons_zero, List.set_cons_succ]); first | done | rfl))); clear hK K
      refine Kr.seqR (by rfl) (fun K hK => ?_)
      go_simp
      obtain ⟨y96, hy⟩ : ∃ y, y95.alloc (.cells #[.slice none 0 0] 24) = y := ⟨_, rfl⟩
      obtain ⟨bk, hb⟩ : ∃ b, y95.heap.size = b := ⟨_, rfl⟩
      rw [hy, hb]
      replace H := H.alloc hy hb rfl
      clear hy hb
      (refine Kr.outS hK (a' := ?_) ?_ ?_; rotate_left; (focus ((try simp only [Act.put, List.getElem_toArray, List.getElem_cons_zero, List.getElem_cons_succ, List.setIfInBounds_toArray, List.set_cons_zero, List.set_cons_succ]); first | done | rfl))); clear hK K
      have hk := H.c
      simp only [Kr.Cells] at hk
      refine Kr.seqR (by rfl) (fun K hK => ?_)
      go_simp
      clear hk
      obtain ⟨y97, hy⟩ : ∃ y, y96.setCell ⟨bk, 0, none⟩ (.slice p95 n95 c95) = y := ⟨_, rfl⟩
      rw [hy]
      replace H := H.store 0 hy rfl rfl
      dsimp only [List.set] at H
      clear hy
      (refine Kr.outS hK (a' := ?_) ?_ ?_; rotate_left; (focus ((try simp only [Act.put, List.getElem_toArray, List.getElem_cons_zero, List.getElem_cons_succ, List.setIfInBounds_toArray, List.set_cons_zero, List.set_cons_succ]); first | done | rfl))); clear hK K
      refine Kr.seqDoneW ?_
      go_upto_region 14 with fail
      refine Kr.seqStartW ?_
      (refine Kr.seqQ (v := ?_) (a' := ?_) (by rfl) ?_ ?_ ?_; rotate_left 2; (focus (go_simp; first | done | rfl)); (focus ((try simp only [Act.put, List.getElem_toArray, List.getElem_cons_zero, List.getElem_cons_succ, List.setIfInBounds_toArray, List.set_cons_zero, List.set_cons_succ]); first | done | rfl)))
      have hk := H.c
      simp only [Kr.Cells] at hk
      iterate 2 (refine Kr.seqQ (v := ?_) (a' := ?_) (by rfl) ?_ ?_ ?_; rotate_left 2; (focus (go_simp; first | done | rfl)); (focus ((try simp only [Act.put, List.getElem_toArray, List.getElem_cons_zero, List.getElem_cons_succ, List.setIfInBounds_toArray, List.set_cons_zero, List.set_cons_succ]); first | done | rfl)))
      refine Kr.seqR (by rfl) (fun K hK => ?_)
      go_simp
      go_at_call 40
      clear hk
      refine (ring1_Sub (z := (x + m - x) % m) H 9 8 rfl rfl (H.nw 12 rfl) (H.nw 12 rfl) (H.nw 9 rfl) VM.out (Nat.mod_lt _ M0.out) (fun W1 h1 h2 h3 => mSub_v h1 h2 h3 HX.out HX.out VM.out)).mono ?_
      rintro e y98 ⟨p98, n98, c98, rfl, HH⟩
      clear H
      have H := HH
      clear HH
      obtain rfl : n98 = 0 := by have h := (H.nw 0 rfl).len; rw [rg_zero, digs_zero] at h; exact h.symm
      (refine Kr.outS hK (a' := ?_) ?_ ?_; rotate_left; (focus ((try simp only [Act.put, List.getElem_toArray, List.getElem_cons_zero, List.getElem_cons_succ, List.setIfInBounds_toArray, List.set_cons_zero, List.set_cons_succ]); first | done | rfl))); clear hK K
      refine Kr.seqR (by rfl) (fun K hK => ?_)
      go_simp
      obtain ⟨y99, hy⟩ : ∃ y, y98.alloc (.cells #[.slice none 0 0] 24) = y := ⟨_, rfl⟩
      obtain ⟨bz, hb⟩ : ∃ b, y98.heap.size = b := ⟨_, rfl⟩
      rw [hy, hb]
      replace H := H.alloc hy hb rfl
      clear hy hb
      (refine Kr.outS hK (a' := ?_) ?_ ?_; rotate_left; (focus ((try simp only [Act.put, List.getElem_toArray, List.getElem_cons_zero, List.getElem_cons_succ, List.setIfInBounds_toArray, List.set_cons_zero, List.set_cons_succ]); first | done | rfl))); clear hK K
      have hk := H.c
      simp only [Kr.Cells] at hk
      refine Kr.seqR (by rfl) (fun K hK => ?_)
      go_simp
      clear hk
      obtain ⟨y100, hy⟩ : ∃ y, y99.setCell ⟨bz, 0, none⟩ (.slice p98 0 c98) = y := ⟨_, rfl⟩
      rw [hy]
      replace H := H.store 0 hy rfl rfl
      dsimp only [List.set] at H
      clear hy
      (refine Kr.outS hK (a' := ?_) ?_ ?_; rotate_left; (focus ((try simp only [Act.put, List.getElem_toArray, List.getElem_cons_zero, List.getElem_cons_succ, List.setIfInBounds_toArray, List.set_cons_zero, List.set_cons_succ]); first | done | rfl))); clear hK K
      refine Kr.seqDoneW ?_
      go_upto_region 15 with fail
      refine Kr.startL (fun W' => Kr.Cells W' [(bg, 0, .bool true), (bo, 0, .slice p74 n74 c74), (bt, 0, .slice p77 n77 c77), (bl, 0, .slice p80 n80 c80), (bq, 0, .slice p93 n93 c93), (bk, 0, .slice p95 n95 c95), (ba, 0, .slice pa na ca), (bz, 0, .slice p98 0 c98), (bab, 0, .slice p67 n67 c67), (bb, 0, .slice pb nb cb), (bs, 0, .slice p71 n71 c71)]) [] (by kernel_rfl) ?_
      have gd : Gr y100 y100.drew := (Gr.refl _).drew
      generalize y100.drew = d101 at gd ⊢
      replace H := H.grow gd
      clear gd
      (refine Kr.tSQ 0 [] (v := ?_) (a' := ?_) rfl (by kernel_rfl) (fun _ _ _ h => h) (by rfl) (H.sub [9, 5, 4, 3, 2, 1, 13, 0, 7, 12, 6] rfl) (fun wx hSx => ?_) ?_ ?_; rotate_left 2; (focus (simp only [Kr.Cells] at hSx; go_simp; first | done | rfl)); (focus ((try simp only [Act.put, List.getElem_toArray, List.getElem_cons_zero, List.getElem_cons_succ, List.setIfInBounds_toArray, List.set_cons_zero, List.set_cons_succ]); first | done | rfl)))
      (refine Kr.tPQ 1 (v := ?_) (a' := ?_) rfl (by kernel_rfl) (fun _ _ _ h => h) (by rfl) (fun _ => (H.sub [9, 5, 4, 3, 2, 1, 13, 0, 7, 12, 6] rfl)) (fun wx => ?_) ?_ ?_; rotate_left 2; (focus (go_simp; first | done | rfl)); (focus ((try simp only [Act.put, List.getElem_toArray, List.getElem_cons_zero, List.getElem_cons_succ, List.setIfInBounds_toArray, List.set_cons_zero, List.set_cons_succ]); first | done | rfl)))
      (refine Kr.tSQ 2 [] (v := ?_) (a' := ?_) rfl (by kernel_rfl) (fun _ _ _ h => h) (by rfl) (H.sub [9, 5, 4, 3, 2, 1, 13, 0, 7, 12, 6] rfl) (fun wx hSx => ?_) ?_ ?_; rotate_left 2; (focus (simp only [Kr.Cells] at hSx; go_simp; first | done | rfl)); (focus ((try simp only [Act.put, List.getElem_toArray, List.getElem_cons_zero, List.getElem_cons_succ, List.setIfInBounds_toArray, List.set_cons_zero, List.set_cons_succ]); first | done | rfl)))
      (refine Kr.tSQ 3 [] (v := ?_) (a' := ?_) rfl (by kernel_rfl) (fun _ _ _ h => h) (by rfl) (H.sub [9, 5, 4, 3, 2, 1, 13, 0, 7, 12, 6] rfl) (fun wx hSx => ?_) ?_ ?_; rotate_left 2; (focus (simp only [Kr.Cells] at hSx; go_simp; first | done | rfl)); (focus ((try simp only [Act.put, List.getElem_toArray, List.getElem_cons_zero, List.getElem_cons_succ, List.setIfInBounds_toArray, List.set_cons_zero, List.set_cons_succ]); first | done | rfl)))
      refine Kr.readyL (rs := [4]) (by kernel_rfl) (by simp) ?_
      refine Kr.AllL.cons rfl (fun K hK => ?_) Kr.AllL.nil
      go_simp
      go_at_call 23
      refine (same3_v (H.nw 6 rfl) (H.nw 5 rfl)).mono ?_
      rintro e y102 ⟨rfl, hg⟩
      rw [decide_eq_true (rg_one ..)]
      replace H := H.grow hg
      clear hg
      (refine Kr.outL hK (a' := ?_) ?_ (fun _ => (H.sub [9, 5, 4, 3, 2, 1, 13, 0, 7, 12, 6] rfl)) ?_; rotate_left; (focus ((try simp only [Act.put, List.getElem_toArray, List.getElem_cons_zero, List.getElem_cons_succ, List.setIfInBounds_toArray, List.set_cons_zero, List.set_cons_succ]); first | done | rfl))); clear hK K
      (refine Kr.tPQ 5 (v := ?_) (a' := ?_) rfl (by kernel_rfl) (fun _ _ _ h => h) (by rfl) (fun _ => (H.sub [9, 5, 4, 3, 2, 1, 13, 0, 7, 12, 6] rfl)) (fun wx => ?_) ?_ ?_; rotate_left 2; (focus (go_simp; first | done | rfl)); (focus ((try simp only [Act.put, List.getElem_toArray, List.getElem_cons_zero, List.getElem_cons_succ, List.setIfInBounds_toArray, List.set_cons_zero, List.set_cons_succ]); first | done | rfl)))
      (refine Kr.tPQ 6 (v := ?_) (a' := ?_) rfl (by kernel_rfl) (fun _ _ _ h => h) (by rfl) (fun _ => (H.sub [9, 5, 4, 3, 2, 1, 13, 0, 7, 12, 6] rfl)) (fun wx => ?_) ?_ ?_; rotate_left 2; (focus (go_simp; first | done | rfl)); (focus ((try simp only [Act.put, List.getElem_toArray, List.getElem_cons_zero, List.getElem_cons_succ, List.setIfInBounds_toArray, List.set_cons_zero, List.set_cons_succ]); first | done | rfl)))
      (refine Kr.tSQ 7 [] (v := ?_) (a' := ?_) rfl (by kernel_rfl) (fun _ _ _ h => h) (by rfl) (H.sub [9, 5, 4, 3, 2, 1, 13, 0, 7, 12, 6] rfl) (fun wx hSx => ?_) ?_ ?_; rotate_left 2; (focus (simp only [Kr.Cells] at hSx; go_simp; first | done | rfl)); (focus ((try simp only [Act.put, List.getElem_toArray, List.getElem_cons_zero, List.getElem_cons_succ, List.setIfInBounds_toArray, List.set_cons_zero, List.set_cons_succ]); first | done | rfl)))
      (refine Kr.tSQ 8 [] (v := ?_) (a' := ?_) rfl (by kernel_rfl) (fun _ _ _ h => h) (by rfl) (H.sub [9, 5, 4, 3, 2, 1, 13, 0, 7, 12, 6] rfl) (fun wx hSx => ?_) ?_ ?_; rotate_left 2; (focus (simp only [Kr.Cells] at hSx; go_simp; first | done | rfl)); (focus ((try simp only [Act.put, List.getElem_toArray, List.getElem_cons_zero, List.getElem_cons_succ, List.setIfInBounds_toArray, List.set_cons_zero, List.set_cons_succ]); first | done | rfl)))
      refine Kr.readyL (rs := [9]) (by kernel_rfl) (by simp) ?_
      refine Kr.AllL.cons rfl (fun K hK => ?_) Kr.AllL.nil
      go_simp
      go_at_call 23
      refine (same3_v (H.nw 4 rfl) (H.nw 2 rfl)).mono ?_
      rintro e y103 ⟨rfl, hg⟩
      rw [decide_eq_true (rg_left ..)]
      replace H := H.grow hg
      clear hg
      (refine Kr.outL hK (a' := ?_) ?_ (fun _ => (H.sub [9, 5, 4, 3, 2, 1, 13, 0, 7, 12, 6] rfl)) ?_; rotate_left; (focus ((try simp only [Act.put, List.getElem_toArray, List.getElem_cons_zero, List.getElem_cons_succ, List.setIfInBounds_toArray, List.set_cons_zero, List.set_cons_succ]); first | done | rfl))); clear hK K
      (refine Kr.tPQ 10 (v := ?_) (a' := ?_) rfl (by kernel_rfl) (fun _ _ _ h => h) (by rfl) (fun _ => (H.sub [9, 5, 4, 3, 2, 1, 13, 0, 7, 12, 6] rfl)) (fun wx => ?_) ?_ ?_; rotate_left 2; (focus (go_simp; first | done | rfl)); (focus ((try simp only [Act.put, List.getElem_toArray, List.getElem_cons_zero, List.getElem_cons_succ, List.setIfInBounds_toArray, List.set_cons_zero, List.set_cons_succ]); first | done | rfl)))
      (refine Kr.tPQ 11 (v := ?_) (a' := ?_) rfl (by kernel_rfl) (fun _ _ _ h => h) (by rfl) (fun _ => (H.sub [9, 5, 4, 3, 2, 1, 13, 0, 7, 12, 6] rfl)) (fun wx => ?_) ?_ ?_; rotate_left 2; (focus (go_simp; first | done | rfl)); (focus ((try simp only [Act.put, List.getElem_toArray, List.getElem_cons_zero, List.getElem_cons_succ, List.setIfInBounds_toArray, List.set_cons_zero, List.set_cons_succ]); first | done | rfl)))
      (refine Kr.tSQ 12 [] (v := ?_) (a' := ?_) rfl (by kernel_rfl) (fun _ _ _ h => h) (by rfl) (H.sub [9, 5, 4, 3, 2, 1, 13, 0, 7, 12, 6] rfl) (fun wx hSx => ?_) ?_ ?_; rotate_left 2; (focus (simp only [Kr.Cells] at hSx; go_simp; first | done | rfl)); (focus ((try simp only [Act.put, List.getElem_toArray, List.getElem_cons_zero, List.getElem_cons_succ, List.setIfInBounds_toArray, List.set_cons_zero, List.set_cons_succ]); first | done | rfl)))
      (refine Kr.tSQ 13 [] (v := ?_) (a' := ?_) rfl (by kernel_rfl) (fun _ _ _ h => h) (by rfl) (H.sub [9, 5, 4, 3, 2, 1, 13, 0, 7, 12, 6] rfl) (fun wx hSx => ?_) ?_ ?_; rotate_left 2; (focus (simp only [Kr.Cells] at hSx; go_simp; first | done | rfl)); (focus ((try simp only [Act.put, List.getElem_toArray, List.getElem_cons_zero, List.getElem_cons_succ, List.setIfInBounds_toArray, List.set_cons_zero, List.set_cons_succ]); first | done | rfl)))
      refine Kr.readyL (rs := [14]) (by kernel_rfl) (by simp) ?_
      refine Kr.AllL.cons rfl (fun K hK => ?_) Kr.AllL.nil
      go_simp
      go_at_call 23
      refine (same3_v (H.nw 1 rfl) (H.nw 13 rfl)).mono ?_
      rintro e y104 ⟨rfl, hg⟩
      rw [decide_eq_true (rg_back HX.out HY.out)]
      replace H := H.grow hg
      clear hg
      (refine Kr.outL hK (a' := ?_) ?_ (fun _ => (H.sub [9, 5, 4, 3, 2, 1, 13, 0, 7, 12, 6] rfl)) ?_; rotate_left; (focus ((try simp only [Act.put, List.getElem_toArray, List.getElem_cons_zero, List.getElem_cons_succ, List.setIfInBounds_toArray, List.set_cons_zero, List.set_cons_succ]); first | done | rfl))); clear hK K
      (refine Kr.tPQ 15 (v := ?_) (a' := ?_) rfl (by kernel_rfl) (fun _ _ _ h => h) (by rfl) (fun _ => (H.sub [9, 5, 4, 3, 2, 1, 13, 0, 7, 12, 6] rfl)) (fun wx => ?_) ?_ ?_; rotate_left 2; (focus (go_simp; first | done | rfl)); (focus ((try simp only [Act.put, List.getElem_toArray, List.getElem_cons_zero, List.getElem_cons_succ, List.setIfInBounds_toArray, List.set_cons_zero, List.set_cons_succ]); first | done | rfl)))
      (refine Kr.tPQ 16 (v := ?_) (a' := ?_) rfl (by kernel_rfl) (fun _ _ _ h => h) (by rfl) (fun _ => (H.sub [9, 5, 4, 3, 2, 1, 13, 0, 7, 12, 6] rfl)) (fun wx => ?_) ?_ ?_; rotate_left 2; (focus (go_simp; first | done | rfl)); (focus ((try simp only [Act.put, List.getElem_toArray, List.getElem_cons_zero, List.getElem_cons_succ, List.setIfInBounds_toArray, List.set_cons_zero, List.set_cons_succ]); first | done | rfl)))
      (refine Kr.tPQ 17 (v := ?_) (a' := ?_) rfl (by kernel_rfl) (fun _ _ _ h => h) (by rfl) (fun _ => (H.sub [9, 5, 4, 3, 2, 1, 13, 0, 7, 12, 6] rfl)) (fun wx => ?_) ?_ ?_; rotate_left 2; (focus (go_simp; first | done | rfl)); (focus ((try simp only [Act.put, List.getElem_toArray, List.getElem_cons_zero, List.getElem_cons_succ, List.setIfInBounds_toArray, List.set_cons_zero, List.set_cons_succ]); first | done | rfl)))
      (refine Kr.tSQ 18 [] (v := ?_) (a' := ?_) rfl (by kernel_rfl) (fun _ _ _ h => h) (by rfl) (H.sub [9, 5, 4, 3, 2, 1, 13, 0, 7, 12, 6] rfl) (fun wx hSx => ?_) ?_ ?_; rotate_left 2; (focus (simp only [Kr.Cells] at hSx; go_simp; first | done | rfl)); (focus ((try simp only [Act.put, List.getElem_toArray, List.getElem_cons_zero, List.getElem_cons_succ, List.setIfInBounds_toArray, List.set_cons_zero, List.set_cons_succ]); first | done | rfl)))
      (refine Kr.tPQ 19 (v := ?_) (a' := ?_) rfl (by kernel_rfl) (fun _ _ _ h => h) (by rfl) (fun _ => (H.sub [9, 5, 4, 3, 2, 1, 13, 0, 7, 12, 6] rfl)) (fun wx => ?_) ?_ ?_; rotate_left 2; (focus (go_simp; first | done | rfl)); (focus ((try simp only [Act.put, List.getElem_toArray, List.getElem_cons_zero, List.getElem_cons_succ, List.setIfInBounds_toArray, List.set_cons_zero, List.set_cons_succ]); first | done | rfl)))
      (refine Kr.tPQ 20 (v := ?_) (a' := ?_) rfl (by kernel_rfl) (fun _ _ _ h => h) (by rfl) (fun _ => (H.sub [9, 5, 4, 3, 2, 1, 13, 0, 7, 12, 6] rfl)) (fun wx => ?_) ?_ ?_; rotate_left 2; (focus (go_simp; first | done | rfl)); (focus ((try simp only [Act.put, List.getElem_toArray, List.getElem_cons_zero, List.getElem_cons_succ, List.setIfInBounds_toArray, List.set_cons_zero, List.set_cons_succ]); first | done | rfl)))
      (refine Kr.tPQ 21 (v := ?_) (a' := ?_) rfl (by kernel_rfl) (fun _ _ _ h => h) (by rfl) (fun _ => (H.sub [9, 5, 4, 3, 2, 1, 13, 0, 7, 12, 6] rfl)) (fun wx => ?_) ?_ ?_; rotate_left 2; (focus (go_simp; first | done | rfl)); (focus ((try simp only [Act.put, List.getElem_toArray, List.getElem_cons_zero, List.getElem_cons_succ, List.setIfInBounds_toArray, List.set_cons_zero, List.set_cons_succ]); first | done | rfl)))
      (refine Kr.tPQ 22 (v := ?_) (a' := ?_) rfl (by kernel_rfl) (fun _ _ _ h => h) (by rfl) (fun _ => (H.sub [9, 5, 4, 3, 2, 1, 13, 0, 7, 12, 6] rfl)) (fun wx => ?_) ?_ ?_; rotate_left 2; (focus (go_simp; first | done | rfl)); (focus ((try simp only [Act.put, List.getElem_toArray, List.getElem_cons_zero, List.getElem_cons_succ, List.setIfInBounds_toArray, List.set_cons_zero, List.set_cons_succ]); first | done | rfl)))
      (refine Kr.tSQ 23 [] (v := ?_) (a' := ?_) rfl (by kernel_rfl) (fun _ _ _ h => h) (by rfl) (H.sub [9, 5, 4, 3, 2, 1, 13, 0, 7, 12, 6] rfl) (fun wx hSx => ?_) ?_ ?_; rotate_left 2; (focus (simp only [Kr.Cells] at hSx; go_simp; first | done | rfl)); (focus ((try simp only [Act.put, List.getElem_toArray, List.getElem_cons_zero, List.getElem_cons_succ, List.setIfInBounds_toArray, List.set_cons_zero, List.set_cons_succ]); first | done | rfl)))
      (refine Kr.tPQ 24 (v := ?_) (a' := ?_) rfl (by kernel_rfl) (fun _ _ _ h => h) (by rfl) (fun _ => (H.sub [9, 5, 4, 3, 2, 1, 13, 0, 7, 12, 6] rfl)) (fun wx => ?_) ?_ ?_; rotate_left 2; (focus (go_simp; first | done | rfl)); (focus ((try simp only [Act.put, List.getElem_toArray, List.getElem_cons_zero, List.getElem_cons_succ, List.setIfInBounds_toArray, List.set_cons_zero, List.set_cons_succ]); first | done | rfl)))
      (refine Kr.tSQ 25 [] (v := ?_) (a' := ?_) rfl (by kernel_rfl) (fun _ _ _ h => h) (by rfl) (H.sub [9, 5, 4, 3, 2, 1, 13, 0, 7, 12, 6] rfl) (fun wx hSx => ?_) ?_ ?_; rotate_left 2; (focus (simp only [Kr.Cells] at hSx; go_simp; first | done | rfl)); (focus ((try simp only [Act.put, List.getElem_toArray, List.getElem_cons_zero, List.getElem_cons_succ, List.setIfInBounds_toArray, List.set_cons_zero, List.set_cons_succ]); first | done | rfl)))
      (refine Kr.tSQ 26 [] (v := ?_) (a' := ?_) rfl (by kernel_rfl) (fun _ _ _ h => h) (by rfl) (H.sub [9, 5, 4, 3, 2, 1, 13, 0, 7, 12, 6] rfl) (fun wx hSx => ?_) ?_ ?_; rotate_left 2; (focus (simp only [Kr.Cells] at hSx; go_simp; first | done | rfl)); (focus ((try simp only [Act.put, List.getElem_toArray, List.getElem_cons_zero, List.getElem_cons_succ, List.setIfInBounds_toArray, List.set_cons_zero, List.set_cons_succ]); first | done | rfl)))
      refine Kr.readyL (rs := [27]) (by kernel_rfl) (by simp) ?_
      refine Kr.AllL.cons rfl (fun K hK => ?_) Kr.AllL.nil
      go_simp
      go_at_call 40
      refine (ring1_Mul (z := y * x % m) H 10 9 rfl rfl (H.nw 12 rfl) (H.nw 13 rfl) (H.nw 10 rfl) VM.out (Nat.mod_lt _ M0.out) (fun W1 h1 h2 h3 => mMul_v h1 h2 h3 HY.out HX.out VM.out)).mono ?_
      rintro e y105 ⟨p105, n105, c105, rfl, HH⟩
      clear H
      have H := HH
      clear HH
      (refine Kr.outL hK (a' := ?_) ?_ (fun _ => (H.sub [9, 5, 4, 3, 2, 1, 13, 0, 7, 12, 6] rfl)) ?_; rotate_left; (focus ((try simp only [Act.put, List.getElem_toArray, List.getElem_cons_zero, List.getElem_cons_succ, List.setIfInBounds_toArray, List.set_cons_zero, List.set_cons_succ]); first | done | rfl))); clear hK K
      refine Kr.readyL (rs := [28]) (by kernel_rfl) (by simp) ?_
      refine Kr.AllL.cons rfl (fun K hK => ?_) Kr.AllL.nil
      go_simp
      go_at_call 23
      refine (same3_v (H.nw 10 rfl) (H.nw 0 rfl)).mono ?_
      rintro e y106 ⟨rfl, hg⟩
      rw [decide_eq_true (by rw [Nat.mul_comm])]
      replace H := H.grow hg
      clear hg
      (refine Kr.outL hK (a' := ?_) ?_ (fun _ => (H.sub [9, 5, 4, 3, 2, 1, 13, 0, 7, 12, 6] rfl)) ?_; rotate_left; (focus ((try simp only [Act.put, List.getElem_toArray, List.getElem_cons_zero, List.getElem_cons_succ, List.setIfInBounds_toArray, List.set_cons_zero, List.set_cons_succ]); first | done | rfl))); clear hK K
      (refine Kr.tPQ 29 (v := ?_) (a' := ?_) rfl (by kernel_rfl) (fun _ _ _ h => h) (by rfl) (fun _ => (H.sub [9, 5, 4, 3, 2, 1, 13, 0, 7, 12, 6] rfl)) (fun wx => ?_) ?_ ?_; rotate_left 2; (focus (go_simp; first | done | rfl)); (focus ((try simp only [Act.put, List.getElem_toArray, List.getElem_cons_zero, List.getElem_cons_succ, List.setIfInBounds_toArray, List.set_cons_zero, List.set_cons_succ]); first | done | rfl)))
      (refine Kr.tPQ 30 (v := ?_) (a' := ?_) rfl (by kernel_rfl) (fun _ _ _ h => h) (by rfl) (fun _ => (H.sub [9, 5, 4, 3, 2, 1, 13, 0, 7, 12, 6] rfl)) (fun wx => ?_) ?_ ?_; rotate_left 2; (focus (go_simp; first | done | rfl)); (focus ((try simp only [Act.put, List.getElem_toArray, List.getElem_cons_zero, List.getElem_cons_succ, List.setIfInBounds_toArray, List.set_cons_zero, List.set_cons_succ]); first | done | rfl)))
      (refine Kr.tSQ 31 [] (v := ?_) (a' := ?_) rfl (by kernel_rfl) (fun _ _ _ h => h) (by rfl) (H.sub [9, 5, 4, 3, 2, 1, 13, 0, 7, 12, 6] rfl) (fun wx hSx => ?_) ?_ ?_; rotate_left 2; (focus (simp only [Kr.Cells] at hSx; go_simp; first | done | rfl)); (focus ((try simp only [Act.put, List.getElem_toArray, List.getElem_cons_zero, List.getElem_cons_succ, List.setIfInBounds_toArray, List.set_cons_zero, List.set_cons_succ]); first | done | rfl)))
      (refine Kr.tPQ 32 (v := ?_) (a' := ?_) rfl (by kernel_rfl) (fun _ _ _ h => h) (by rfl) (fun _ => (H.sub [9, 5, 4, 3, 2, 1, 13, 0, 7, 12, 6] rfl)) (fun wx => ?_) ?_ ?_; rotate_left 2; (focus (go_simp; first | done | rfl)); (focus ((try simp only [Act.put, List.getElem_toArray, List.getElem_cons_zero, List.getElem_cons_succ, List.setIfInBounds_toArray, List.set_cons_zero, List.set_cons_succ]); first | done | rfl)))
      (refine Kr.tSQ 33 [] (v := ?_) (a' := ?_) rfl (by kernel_rfl) (fun _ _ _ h => h) (by rfl) (H.sub [9, 5, 4, 3, 2, 1, 13, 0, 7, 12, 6] rfl) (fun wx hSx => ?_) ?_ ?_; rotate_left 2; (focus (simp only [Kr.Cells] at hSx; go_simp; first | done | rfl)); (focus ((try simp only [Act.put, List.getElem_toArray, List.getElem_cons_zero, List.getElem_cons_succ, List.setIfInBounds_toArray, List.set_cons_zero, List.set_cons_succ]); first | done | rfl)))
      (refine Kr.tSQ 34 [] (v := ?_) (a' := ?_) rfl (by kernel_rfl) (fun _ _ _ h => h) (by rfl) (H.sub [9, 5, 4, 3, 2, 1, 13, 0, 7, 12, 6] rfl) (fun wx hSx => ?_) ?_ ?_; rotate_left 2; (focus (simp only [Kr.Cells] at hSx; go_simp; first | done | rfl)); (focus ((try simp only [Act.put, List.getElem_toArray, List.getElem_cons_zero, List.getElem_cons_succ, List.setIfInBounds_toArray, List.set_cons_zero, List.set_cons_succ]); first | done | rfl)))
      refine Kr.readyL (rs := [35]) (by kernel_rfl) (by simp) ?_
      refine Kr.AllL.cons rfl (fun K hK => ?_) Kr.AllL.nil
      go_simp
      go_at_call 40
      refine (ring1_Add (z := (y + x) % m) H 10 9 rfl rfl (H.nw 13 rfl) (H.nw 14 rfl) (H.nw 11 rfl) VM.out (Nat.mod_lt _ M0.out) (fun W1 h1 h2 h3 => mAdd_v h1 h2 h3 HY.out HX.out VM.out)).mono ?_
      rintro e y107 ⟨p107, n107, c107, rfl, HH⟩
      clear H
      have H := HH
      clear HH
      (refine Kr.outL hK (a' := ?_) ?_ (fun _ => (H.sub [9, 5, 4, 3, 2, 1, 13, 0, 7, 12, 6] rfl)) ?_; rotate_left; (focus ((try simp only [Act.put, List.getElem_toArray, List.getElem_cons_zero, List.getElem_cons_succ, List.setIfInBounds_toArray, List.set_cons_zero, List.set_cons_succ]); first | done | rfl))); clear hK K
      refine Kr.readyL (rs := [36]) (by kernel_rfl) (by simp) ?_
      refine Kr.AllL.cons rfl (fun K hK => ?_) Kr.AllL.nil
      go_simp
      go_at_call 23
      refine (same3_v (H.nw 9 rfl) (H.nw 0 rfl)).mono ?_
      rintro e y108 ⟨rfl, hg⟩
      rw [decide_eq_true (by rw [Nat.add_comm])]
      replace H := H.grow hg
      clear hg
      (refine Kr.outL hK (a' := ?_) ?_ (fun _ => (H.sub [9, 5, 4, 3, 2, 1, 13, 0, 7, 12, 6] rfl)) ?_; rotate_left; (focus ((try simp only [Act.put, List.getElem_toArray, List.getElem_cons_zero, List.getElem_cons_succ, List.setIfInBounds_toArray, List.set_cons_zero, List.set_cons_succ]); first | done | rfl))); clear hK K
      (refine Kr.tPQ 37 (v := ?_) (a' := ?_) rfl (by kernel_rfl) (fun _ _ _ h => h) (by rfl) (fun _ => (H.sub [9, 5, 4, 3, 2, 1, 13, 0, 7, 12, 6] rfl)) (fun wx => ?_) ?_ ?_; rotate_left 2; (focus (go_simp; first | done | rfl)); (focus ((try simp only [Act.put, List.getElem_toArray, List.getElem_cons_zero, List.getElem_cons_succ, List.setIfInBounds_toArray, List.set_cons_zero, List.set_cons_succ]); first | done | rfl)))
      (refine Kr.tPQ 38 (v := ?_) (a' := ?_) rfl (by kernel_rfl) (fun _ _ _ h => h) (by rfl) (fun _ => (H.sub [9, 5, 4, 3, 2, 1, 13, 0, 7, 12, 6] rfl)) (fun wx => ?_) ?_ ?_; rotate_left 2; (focus (go_simp; first | done | rfl)); (focus ((try simp only [Act.put, List.getElem_toArray, List.getElem_cons_zero, List.getElem_cons_succ, List.setIfInBounds_toArray, List.set_cons_zero, List.set_cons_succ]); first | done | rfl)))
      (refine Kr.tSQ 39 [] (v := ?_) (a' := ?_) rfl (by kernel_rfl) (fun _ _ _ h => h) (by rfl) (H.sub [9, 5, 4, 3, 2, 1, 13, 0, 7, 12, 6] rfl) (fun wx hSx => ?_) ?_ ?_; rotate_left 2; (focus (simp only [Kr.Cells] at hSx; go_simp; first | done | rfl)); (focus ((try simp only [Act.put, List.getElem_toArray, List.getElem_cons_zero, List.getElem_cons_succ, List.setIfInBounds_toArray, List.set_cons_zero, List.set_cons_succ]); first | done | rfl)))
      (refine Kr.tPQ 40 (v := ?_) (a' := ?_) rfl (by kernel_rfl) (fun _ _ _ h => h) (by rfl) (fun _ => (H.sub [9, 5, 4, 3, 2, 1, 13, 0, 7, 12, 6] rfl)) (fun wx => ?_) ?_ ?_; rotate_left 2; (focus (go_simp; first | done | rfl)); (focus ((try simp only [Act.put, List.getElem_toArray, List.getElem_cons_zero, List.getElem_cons_succ, List.setIfInBounds_toArray, List.set_cons_zero, List.set_cons_succ]); first | done | rfl)))
      (refine Kr.tPQ 41 (v := ?_) (a' := ?_) rfl (by kernel_rfl) (fun _ _ _ h => h) (by rfl) (fun _ => (H.sub [9, 5, 4, 3, 2, 1, 13, 0, 7, 12, 6] rfl)) (fun wx => ?_) ?_ ?_; rotate_left 2; (focus (go_simp; first | done | rfl)); (focus ((try simp only [Act.put, List.getElem_toArray, List.getElem_cons_zero, List.getElem_cons_succ, List.setIfInBounds_toArray, List.set_cons_zero, List.set_cons_succ]); first | done | rfl)))
      refine Kr.doneL (by kernel_rfl) ?_ _
      go_wp2
      go_ret
      exact ⟨rfl, H.g⟩
theorem NatmodRing (w : World) (pa : Option Addr) (na ca : Nat) (pb : Option Addr) (nb cb : Nat) (pc : Option Addr) (nc cc : Nat) (pm : Option Addr) (nm cm : Nat) (h1 : Nin w pa na ca) (h2 : Nin w pb nb cb) (h3 : Nin w pc nc cc) (h4 : Nin w pm nm cm) :
    Calls Try.prog 7 #[.agg #[.slice pa na ca], .agg #[.slice pb nb cb], .agg #[.slice pc nc cc], .agg #[.slice pm nm cm]] w fun e w' => e = .returned (.bool true) ∧ Gr w w' := by
  by_cases g : ∃ x ∈ [(pa, na, ca), (pb, nb, cb), (pc, nc, cc), (pm, nm, cm)], 32 < x.2.1
  · exact ring_g g
  have hs : ∀ x ∈ [(pa, na, ca), (pb, nb, cb), (pc, nc, cc), (pm, nm, cm)], x.2.1 ≤ 32 := fun x hx => Nat.le_of_not_lt fun h => g ⟨x, hx, h⟩
  have ea : na ≤ 32 := hs (pa, na, ca) (by simp)
  have eb : nb ≤ 32 := hs (pb, nb, cb) (by simp)
  have ec : nc ≤ 32 := hs (pc, nc, cc) (by simp)
  have em : nm ≤ 32 := hs (pm, nm, cm) (by simp)
  obtain ⟨la, ha⟩ := h1.nw (by omega)
  obtain ⟨lb, hb⟩ := h2.nw (by omega)
  obtain ⟨lc, hc⟩ := h3.nw (by omega)
  obtain ⟨lm, hm⟩ := h4.nw (by omega)
  obtain ⟨k, hf, hk | ⟨rfl, x, y, z, m, rfl, rfl, rfl, rfl, hx, hy, hz, vm⟩⟩ := code3 ha hb hc hm
  · exact ring_err hs hf hk
  · exact ring_ok hs hf ha hb hc hm hx hy hz vm
end Go.Proofs.Ytlciocebbckdcaa.Ml
