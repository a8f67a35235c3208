/- The reader: fail. -/
import Derived.Test.YtlollhmheakcfaaDoorQBg
import Derived.Deep.Cut
import Derived.Laws.Tables
namespace Go.Proofs.YtlollhmheakcfaaDoor.Dg
open Go Go.RowKit Go.Proofs.YtlollhmheakcfaaDoor.Ne Go.Proofs.YtlollhmheakcfaaDoor.Kr

/-- What grows, but for one block. -/
structure GrX (br : Nat) (w W : World) : Prop where
  os : W.os = w.os
  tape : W.tape = w.tape
  output : W.output = w.output
  size : w.heap.size ≤ W.heap.size
  block : ∀ k, k < w.heap.size → k ≠ br → W.heap[k]? = w.heap[k]?
theorem GrX.refl (br : Nat) (w : World) : GrX br w w := ⟨rfl, rfl, rfl, Nat.le_refl _, fun _ _ _ => rfl⟩
theorem GrX.of {br : Nat} {w W : World} (g : Gr w W) : GrX br w W := ⟨g.os, g.tape, g.output, g.size, fun k h _ => g.block k h⟩
theorem GrX.trans {br : Nat} {a b c : World} (h : GrX br a b) (k : GrX br b c) : GrX br a c := ⟨k.os.trans h.os, k.tape.trans h.tape, k.output.trans h.output, Nat.le_trans h.size k.size, fun j hj hn => (k.block j (Nat.lt_of_lt_of_le hj h.size) hn).trans (h.block j hj hn)⟩
theorem GrX.gr {br : Nat} {w0 w W : World} (h : Gr w0 w) (k : GrX br w W) (hb : w0.heap.size ≤ br) : Gr w0 W := ⟨k.os.trans h.os, k.tape.trans h.tape, k.output.trans h.output, Nat.le_trans h.size k.size, fun j hj => (k.block j (Nat.lt_of_lt_of_le hj h.size) (by omega)).trans (h.block j hj)⟩
structure OwX (br : Nat) (w W : World) (rs : List Blk) : Prop where
  g : GrX br w W
  r : ∀ x ∈ rs, W.heap[x.1]? = some (.cells x.2.2.toArray x.2.1 (0, 0))
  low : ∀ x ∈ rs, w.heap.size ≤ x.1 ∨ x.1 = br
  ne : rs.Pairwise (fun x y => x.1 ≠ y.1)
section
variable {br : Nat} {w W y : World} {rs : List Blk}
theorem OwX.start {T : TypeId} {l : List Value} (h : w.heap[br]? = some (.cells l.toArray T (0, 0))) : OwX br w w [(br, T, l)] := by
  refine ⟨GrX.refl _ _, fun x hx => ?_, fun x hx => ?_, List.pairwise_singleton _ _⟩
  · rcases List.mem_cons.1 hx with rfl | hx
    · exact h
    · cases hx
  · rcases List.mem_cons.1 hx with rfl | hx
    · exact .inr rfl
    · cases hx
theorem OwX.lt (H : OwX br w W rs) {x : Blk} (hx : x ∈ rs) : x.1 < W.heap.size := lt_of_heap (H.r x hx)
theorem OwX.grow (H : OwX br w W rs) (g : Gr W y) : OwX br w y rs := ⟨H.g.trans (GrX.of g), fun x hx => (g.block x.1 (H.lt hx)).trans (H.r x hx), H.low, H.ne⟩
theorem OwX.alloc (H : OwX br w W rs) {l : List Value} {T : TypeId} {b : Nat} (hy : W.alloc (.cells l.toArray T) = y) (hb : W.heap.size = b) : OwX br w y ((b, T, l) :: rs) := by
  have hg : Gr W y := by rw [← hy]; exact (Gr.refl _).alloc _
  have H2 := H.grow hg
  refine ⟨H2.g, fun x hx => ?_, fun x hx => ?_, List.Pairwise.cons (fun x hx e => ?_) H.ne⟩
  · rcases List.mem_cons.1 hx with rfl | hx
    · rw [← hy, ← hb]; exact heap_alloc_last _ _
    · exact H2.r x hx
  · rcases List.mem_cons.1 hx with rfl | hx
    · refine .inl ?_
      show w.heap.size ≤ b
      rw [← hb]; exact H.g.size
    · exact H.low x hx
  · have := H.lt hx
    have e2 : b = x.1 := e
    omega
theorem OwX.at (H : OwX br w W rs) (i : Nat) {b : Nat} {T : TypeId} {l : List Value} (h : rs[i]? = some (b, T, l)) : W.heap[b]? = some (.cells l.toArray T (0, 0)) := H.r _ (List.mem_of_getElem? h)
theorem OwX.cell (H : OwX br w W rs) (i : Nat) {b : Nat} {T : TypeId} {l : List Value} (h : rs[i]? = some (b, T, l)) {j : Nat} {v : Value} (hv : l[j]? = some v) : W.cell? ⟨b, j, none⟩ = some v := by
  rw [cell_of_row W b j _ _ _ (H.at i h)]; simpa using hv
theorem OwX.frozen (H : OwX br w W rs) (i : Nat) {b : Nat} {T : TypeId} {l : List Value} (h : rs[i]? = some (b, T, l)) (j : Nat) : W.frozen? ⟨b, j, none⟩ = false := by
  simp [World.frozen?, H.at i h]
theorem OwX.put (H : OwX br w W rs) (i : Nat) {b : Nat} {T : TypeId} {l l' : List Value} (hy : W.setRow b l'.toArray = y) (h : rs[i]? = some (b, T, l)) : OwX br w y (rs.set i (b, T, l')) := by
  subst hy
  have hx := H.low _ (List.mem_of_getElem? h)
  have hb := H.at i h
  have hs : ∀ k, k ≠ b → (W.setRow b l'.toArray).heap[k]? = W.heap[k]? := fun k hk => by
    simp only [World.setRow, Array.getElem?_modify, if_neg (Ne.symm hk)]
  have hb' : (W.setRow b l'.toArray).heap[b]? = some (.cells l'.toArray T (0, 0)) := setRow_heap W b l.toArray l'.toArray T (0, 0) hb
  refine ⟨⟨H.g.os, H.g.tape, H.g.output, ?_, fun k hk hkb => ?_⟩, fun x hx2 => ?_, fun x hx2 => ?_, ow_set_ne i h H.ne⟩
  · have : (W.setRow b l'.toArray).heap.size = W.heap.size := by simp [World.setRow]
    rw [this]; exact H.g.size
  · rw [hs k (by
      have hx : w.heap.size ≤ b ∨ b = br := hx
      omega)]
    exact H.g.block k hk hkb
  · obtain ⟨j, hj⟩ := List.getElem?_of_mem hx2
    rw [List.getElem?_set] at hj
    by_cases hji : i = j
    · rw [if_pos hji] at hj
      by_cases hl : i < rs.length
      · rw [if_pos hl] at hj
        cases hj
        exact hb'
      · rw [if_neg hl] at hj; cases hj
    · rw [if_neg hji] at hj
      rw [hs x.1 (fun e => ow_ne H.ne h hj hji e.symm)]
      exact H.r x (List.mem_of_getElem? hj)
  · rcases List.mem_or_eq_of_mem_set hx2 with hx2 | rfl
    · exact H.low x hx2
    · exact hx
theorem OwX.set (H : OwX br w W rs) (i j : Nat) {b : Nat} {T : TypeId} {l : List Value} {v : Value} (hy : W.setCell ⟨b, j, none⟩ v = y) (h : rs[i]? = some (b, T, l)) : OwX br w y (rs.set i (b, T, l.set j v)) := by
  refine H.put i ?_ h
  rw [← hy, setCell_eq_setRow W b j l.toArray T (0, 0) v (H.at i h)]
  simp
theorem OwX.drop (H : OwX br w W rs) (n : Nat) : OwX br w W (rs.drop n) := ⟨H.g, fun x hx => H.r x (List.mem_of_mem_drop hx), fun x hx => H.low x (List.mem_of_mem_drop hx), H.ne.drop⟩
/-- A call that may write the block. -/
theorem OwX.call (H : OwX br w W rs) (i : Nat) {T : TypeId} {l l' : List Value} (h : rs[i]? = some (br, T, l)) (g : GrX br W y) (hh : y.heap[br]? = some (.cells l'.toArray T (0, 0))) : OwX br w y (rs.set i (br, T, l')) := by
  refine ⟨H.g.trans g, fun x hx2 => ?_, fun x hx2 => ?_, ow_set_ne i h H.ne⟩
  · obtain ⟨j, hj⟩ := List.getElem?_of_mem hx2
    rw [List.getElem?_set] at hj
    by_cases hji : i = j
    · rw [if_pos hji] at hj
      by_cases hl : i < rs.length
      · rw [if_pos hl] at hj
        cases hj
        exact hh
      · rw [if_neg hl] at hj; cases hj
    · rw [if_neg hji] at hj
      have hm := List.mem_of_getElem? hj
      rw [g.block x.1 (H.lt hm) (fun e => ow_ne H.ne h hj hji e.symm)]
      exact H.r x hm
  · rcases List.mem_or_eq_of_mem_set hx2 with hx2 | rfl
    · exact H.low x hx2
    · exact .inr rfl
theorem OwX.grown {row : Option Nat} (H : OwX br w W rs) (g : W.grownBy y row) (hr : ∀ k, row = some k → w.heap.size ≤ k ∧ ∀ x ∈ rs, x.1 ≠ k) : OwX br w y rs := by
  refine ⟨⟨g.os.trans H.g.os, g.tape.trans H.g.tape, g.output.trans H.g.output, Nat.le_trans H.g.size g.size, fun k hk hkb => ?_⟩, fun x hx => ?_, H.low, H.ne⟩
  · rw [g.block k (Nat.lt_of_lt_of_le hk H.g.size) (fun e => by have := (hr k e.symm).1; omega)]
    exact H.g.block k hk hkb
  · rw [g.block x.1 (H.lt hx) (fun e => (hr _ e.symm).2 x hx rfl)]
    exact H.r x hx
end
/-- These bytes lie in no such block. -/
def Off (br : Nat) (p : Option Addr) : Prop := ∀ a, p = some a → a.block ≠ br
theorem SrcB.growX {br : Nat} {p : Option Addr} {l : List (BitVec 8)} {w W : World} (h : SrcB p l w) (hne : Off br p) (g : GrX br w W) : SrcB p l W := by
  refine h.imp id (fun ⟨b, off, e, h⟩ => ⟨b, off, e, fun j x hx => ?_⟩)
  have h1 := h j x hx
  have hb : b < w.heap.size := by
    rcases Nat.lt_or_ge b w.heap.size with h' | h'
    · exact h'
    · simp [World.cell?, Array.getElem?_eq_none h'] at h1
  exact (World.cell?_of_block (a := ⟨b, off + j, none⟩) (g.block b hb (hne _ e))).trans h1
theorem ldErr {w : World} {a : Addr} {n : Int} (h : w.cell? a = some (.int .i64 n)) : (Instr.loadAt 28 (.pointer (some a))).run Tryd.prog w = .ok (.int .i64 n) w := by
  go_simp
theorem stErr {w : World} {a : Addr} {x : Int} {v : Value} (h : w.cell? a = some v) (hf : w.frozen? a = false) : (Instr.storeAt 28 (.pointer (some a)) (.int .i64 x)).run Tryd.prog w = .ok () (w.setCell a (.int .i64 x)) := by
  go_simp
theorem stInt {w : World} {a : Addr} {x : Int} {v : Value} (h : w.cell? a = some v) (hf : w.frozen? a = false) : (Instr.storeAt 3 (.pointer (some a)) (.int .i64 x)).run Tryd.prog w = .ok () (w.setCell a (.int .i64 x)) := by
  go_simp
def cutA (b off c a : Nat) : Addr := if c = a then ⟨b, off, none⟩ else ⟨b, off + a, none⟩
theorem slAB {w : World} {b off n c a e k : Nat} (h : a + k = e) (h1 : e ≤ c) (h3 : e < 9223372036854775808) : (Instr.sliceAt 22 (.slice (some ⟨b, off, none⟩) n c) (some (.int .i64 (a : Int))) (some (.int .i64 (e : Int))) none).run Tryd.prog w = .ok (.slice (some (cutA b off c a)) k (c - a)) w := by
  have h4 : (0 : Int) ≤ (e : Int) := by omega
  have h5 : (e : Int) ≤ (c : Int) := by omega
  have h6 : (0 : Int) ≤ (a : Int) := by omega
  have h8 : e - a = k := by omega
  have h10 : a ≤ e := by omega
  have h11 : e ≤ c := by omega
  have h12 : (a : Int) ≤ (e : Int) := by omega
  unfold cutA
  clear h h1 h3
  by_cases h7 : c = a
  · obtain rfl : c = a := h7
    obtain rfl : e = c := by omega
    obtain rfl : 0 = k := by omega
    clear h4 h5 h8 h10 h11 h12
    go_simp
  · have h9 : ¬ c - a = 0 := by omega
    go_simp
theorem srcB_cut {b off c a k n : Nat} {l : List (BitVec 8)} {W : World} (h : SrcB (some ⟨b, off, none⟩) l W) (hl : l.length = n) (hn : n ≤ c) (hk : a + k ≤ n) : SrcB (some (cutA b off c a)) ((l.drop a).take k) W := by
  rcases h with h | ⟨b2, off2, e, h⟩
  · subst h; exact .inl (by simp)
  · cases e
    unfold cutA
    by_cases hc : c = a
    · rw [if_pos hc]
      exact .inl (by obtain rfl : k = 0 := by omega
                     exact List.take_zero)
    · rw [if_neg hc]
      refine .inr ⟨b, off + a, rfl, fun j x hx => ?_⟩
      rw [List.getElem?_take] at hx
      split at hx
      · rw [List.getElem?_drop] at hx
        rw [Nat.add_assoc]
        exact h _ _ hx
      · cases hx
theorem off_cut {br b off c a : Nat} (h : Off br (some ⟨b, off, none⟩)) : Off br (some (cutA b off c a)) := fun ad e => by
  have h1 := h _ rfl
  have e2 := Option.some.inj e
  rw [← e2]
  unfold cutA
  split <;> exact h1
/-- The reader. -/
def rdr (v : Value) (pos e : Int) : List Value := [v, .int .i64 pos, .int .i64 e]

set_option linter.unusedSimpArgs false in
set_option maxRecDepth 100000 in
set_option maxHeartbeats 16000000 in
theorem fail_set {w : World} {br : Nat} {v : Value} {pos code : Int} (hr : w.heap[br]? = some (.cells (rdr (v) pos 0).toArray 60 (0, 0)))  :
    Calls Tryd.prog 41 #[.pointer (some ⟨br, 0, none⟩), .int .i64 code] w fun o w' => o = .returned (.tuple #[]) ∧ w'.heap[br]? = some (.cells (rdr (v) pos code).toArray 60 (0, 0)) ∧ GrX br w w' := by
  have H := OwX.start hr
  go_enter Tryd.func41, Tryd.ntmps41
  have C1 : decide ((0 : Int) = 0) = true := decide_eq_true (by rfl)
  go_upto_region 0 with fail
  refine Kr.seqStartW ?_
  (refine Kr.seqQ (v := ?_) (a' := ?_) (by rfl) ?_ ?_ ?_; rotate_left 2; (focus (go_simp; first | done | rfl)); (focus ((try simp only [Kr.PT]); first | done | rfl)))
  (refine Kr.seqQ (v := ?_) (a' := ?_) (by rfl) ?_ ?_ ?_; rotate_left 2; (focus (go_simp; first | done | rfl)); (focus ((try simp only [Kr.PT]); first | done | rfl)))
  (refine Kr.seqQ (v := .pointer (some ⟨br, 2, none⟩)) (a' := ?_) (by rfl) ?_ ?_ ?_; rotate_left 1; (focus (go_simp; first | done | rfl)); (focus ((try simp only [Kr.PT]); first | done | rfl)))
  (refine Kr.seqQ (v := .int .i64 0) (a' := ?_) (by rfl) ?_ ?_ ?_; rotate_left 1; (focus (exact Kr.valOf rfl (ldErr (rowCell (j := 2) (H.at 0 rfl) rfl)))); (focus ((try simp only [Kr.PT]); first | done | rfl)))
  (refine Kr.seqQ (v := .bool true) (a' := ?_) (by rfl) ?_ ?_ ?_; rotate_left 1; (focus (exact Kr.valOf rfl (eqlI C1))); (focus ((try simp only [Kr.PT]); first | done | rfl)))
  refine Kr.seqDoneW ?_
  go_upto_region 1 with fail
  refine Kr.seqStartW ?_
  (refine Kr.seqQ (v := ?_) (a' := ?_) (by rfl) ?_ ?_ ?_; rotate_left 2; (focus (go_simp; first | done | rfl)); (focus ((try simp only [Kr.PT]); first | done | rfl)))
  (refine Kr.seqQ (v := ?_) (a' := ?_) (by rfl) ?_ ?_ ?_; rotate_left 2; (focus (go_simp; first | done | rfl)); (focus ((try simp only [Kr.PT]); first | done | rfl)))
  (refine Kr.seqQ (v := ?_) (a' := ?_) (by rfl) ?_ ?_ ?_; rotate_left 2; (focus (go_simp; first | done | rfl)); (focus ((try simp only [Kr.PT]); first | done | rfl)))
  (refine Kr.seqQ (v := .pointer (some ⟨br, 2, none⟩)) (a' := ?_) (by rfl) ?_ ?_ ?_; rotate_left 1; (focus (go_simp; first | done | rfl)); (focus ((try simp only [Kr.PT]); first | done | rfl)))
  refine Kr.seqR (by rfl) (fun K hK => ?_)
  refine wp_run rfl (stErr (H.cell 0 rfl (show _ = some _ from rfl)) (H.frozen 0 rfl 2)) ?_
  obtain ⟨y1, hy⟩ : ∃ y, w.setCell ⟨br, 2, none⟩ (.int .i64 code) = y := ⟨_, rfl⟩; rw [hy]
  replace H := H.set 0 2 hy rfl; dsimp only [List.set] at H; clear hy
  rw [show (rdr (v) pos 0).set 2 (.int .i64 code) = rdr (v) pos code from rfl] at H
  (refine Kr.outS hK (a' := ?_) ?_ ?_; rotate_left; (focus ((try simp only [Kr.PT]); first | done | rfl))); clear hK K
  refine Kr.seqDoneW ?_
  go_wp2
  refine bodyPost_end (v := .tuple #[]) (by simp [results, Tryd.results41, go_sem]) rfl ⟨rfl, H.at 0 rfl, H.g⟩
set_option linter.unusedSimpArgs false in
set_option maxRecDepth 100000 in
set_option maxHeartbeats 16000000 in
theorem fail_not {w : World} {br : Nat} {v : Value} {pos e code : Int} (hr : w.heap[br]? = some (.cells (rdr (v) pos e).toArray 60 (0, 0))) (he : e ≠ 0) :
    Calls Tryd.prog 41 #[.pointer (some ⟨br, 0, none⟩), .int .i64 code] w fun o w' => o = .returned (.tuple #[]) ∧ w'.heap[br]? = some (.cells (rdr (v) pos e).toArray 60 (0, 0)) ∧ GrX br w w' := by
  have H := OwX.start hr
  go_enter Tryd.func41, Tryd.ntmps41
  have C1 : decide (e = 0) = false := decide_eq_false (by exact he)
  go_upto_region 0 with fail
  refine Kr.seqStartW ?_
  (refine Kr.seqQ (v := ?_) (a' := ?_) (by rfl) ?_ ?_ ?_; rotate_left 2; (focus (go_simp; first | done | rfl)); (focus ((try simp only [Kr.PT]); first | done | rfl)))
  (refine Kr.seqQ (v := ?_) (a' := ?_) (by rfl) ?_ ?_ ?_; rotate_left 2; (focus (go_simp; first | done | rfl)); (focus ((try simp only [Kr.PT]); first | done | rfl)))
  (refine Kr.seqQ (v := .pointer (some ⟨br, 2, none⟩)) (a' := ?_) (by rfl) ?_ ?_ ?_; rotate_left 1; (focus (go_simp; first | done | rfl)); (focus ((try simp only [Kr.PT]); first | done | rfl)))
  (refine Kr.seqQ (v := .int .i64 e) (a' := ?_) (by rfl) ?_ ?_ ?_; rotate_left 1; (focus (exact Kr.valOf rfl (ldErr (rowCell (j := 2) (H.at 0 rfl) rfl)))); (focus ((try simp only [Kr.PT]); first | done | rfl)))
  (refine Kr.seqQ (v := .bool false) (a' := ?_) (by rfl) ?_ ?_ ?_; rotate_left 1; (focus (exact Kr.valOf rfl (eqlI C1))); (focus ((try simp only [Kr.PT]); first | done | rfl)))
  refine Kr.seqDoneW ?_
  go_wp2
  refine bodyPost_end (v := .tuple #[]) (by simp [results, Tryd.results41, go_sem]) rfl ⟨rfl, H.at 0 rfl, H.g⟩
end Go.Proofs.YtlollhmheakcfaaDoor.Dg
