/- Arguments opened: a transcript; a slice of slices of integers. -/
import Derived.Test.YtldgjhmefaapeaaDoorPs3
import Derived.Test.YtldgjhmefaapeaaDoorQTe
import Derived.ChangeSlices
import Derived.ChangeSame
namespace Go.Proofs.YtldgjhmefaapeaaDoor.Dl
open Go Go.RowKit Go.Proofs.YtldgjhmefaapeaaDoor.Ne Go.Proofs.YtldgjhmefaapeaaDoor.Dg
open Go.ChangeShapes Go.WideShapes Go.ChangeAt Go.WideElems

theorem wf_i64 {n : Int} (h : (Lit.int .i64 n).wf = true) : InR n := by
  simp [Lit.wf, IntKind.min, IntKind.max, IntKind.signed, IntKind.bits] at h
  unfold InR
  omega
theorem cT : Tryd.prog.cellsOf 25 = 33 := by kernel_rfl
theorem cI : Tryd.prog.cellsOf 3 = 1 := by kernel_rfl
theorem cSI : Tryd.prog.cellsOf 43 = 1 := by kernel_rfl
theorem trod_hash {H : Type} {enc : TypeId × Value → H} {W : World} {fuel : Nat} {cs : List Value} {x : DataW H × List MemPlace}
    (hf' : DataW.trod enc Tryd.prog W 0 (fun _ => true) true fuel 23 cs = some x) : ∃ l : List (BitVec 8), l.length = 32 ∧ cs = l.map w8 := by
  obtain ⟨xs, m, rfl, hx, hlen, hn, hel⟩ := DataW.trod_array Tryd.underlying23 hf'
  rw [cH] at hlen
  rw [cU8] at hel
  obtain ⟨l, hl⟩ := list_of_all (cs := cs) (fun i hi => by
    have hi32 : i < 32 := by omega
    have h1 := hel i hi32
    rw [Nat.mul_one] at h1
    have hxj : xs[i]? = some xs[i] := List.getElem?_eq_getElem (by omega)
    rw [hxj] at h1
    obtain ⟨k, e1, _, hw⟩ := DataW.trod_int Tryd.underlying5 h1
    have h3 : (cs.drop i)[0]? = some (.int .u8 k) := by
      have : ((cs.drop i).take 1)[0]? = some (.int .u8 k) := by rw [e1]; rfl
      rwa [List.getElem?_take_of_lt (by omega)] at this
    rw [List.getElem?_drop, Nat.add_zero] at h3
    exact ⟨_, h3.trans (congrArg some (w8_of (wf_u8 hw)))⟩)
  exact ⟨l, by rw [← hlen, hl, List.length_map], hl⟩
/-- A transcript among the arguments. -/
theorem open_trans {H : Type} {enc : TypeId × Value → H} {W : World} {r : Reach} {b0 : Nat} {v : Value} {d : DataW H} {p : List MemPlace}
    (hv : Value.okWide Tryd.prog W r b0 25 v) (h : DataW.Trod enc Tryd.prog W 0 (fun _ => true) true 25 v d p) :
    ∃ (l : List (BitVec 8)) (c : Int), v = .agg (tr l c).toArray ∧ l.length = 32 ∧ InR c := by
  simp only [Value.okWide, Tryd.underlying25] at hv
  obtain ⟨cs, rfl, h2, _⟩ := hv
  obtain ⟨fuel, hf⟩ := h
  have hf' : DataW.trod enc Tryd.prog W 0 (fun _ => true) true fuel 25 cs.toList = some (d, p) := by simpa [Value.cells] using hf
  obtain ⟨y0, y1, n, _, hlen, h0, h1⟩ := trod_struct2 Tryd.underlying25 hf'
  dsimp only at h0 h1
  rw [cT] at hlen
  rw [cH, List.drop_zero] at h0
  rw [cI] at h1
  obtain ⟨l, hl, e0⟩ := trod_hash h0
  obtain ⟨k, e1, _, hw⟩ := DataW.trod_int Tryd.underlying3 h1
  refine ⟨l, k, ?_, hl, wf_i64 hw⟩
  have e2 : cs.toList = l.map w8 ++ [.int .i64 k] := by
    rw [← e0, ← e1, List.take_of_length_le (l := cs.toList.drop 32) (by rw [List.length_drop, hlen]; decide), List.take_append_drop]
  show Value.agg cs = .agg (tr l k).toArray
  unfold tr
  rw [← e2]
/-- A slice of integers. -/
def BinI (W : World) (v : Value) : Prop := ∃ (p : Option Addr) (n c : Nat) (l : List Int), v = .slice p n c ∧ l.length = n ∧ SrcG p (l.map vI) W ∧ (∀ x ∈ l, InR x) ∧ n ≤ 9223372036854775807
theorem trod_ints {H : Type} {enc : TypeId × Value → H} {W : World} {fuel : Nat} {v : Value} {x : DataW H × List MemPlace}
    (hf : DataW.trod enc Tryd.prog W 0 (fun _ => true) true fuel 43 [v] = some x) : BinI W v := by
  rcases open_ints Tryd.underlying43 Tryd.underlying3 cI hf with ⟨hc, _⟩ | ⟨a, len, cap, zs, hc, _, hl, hm, hz, _, hcell, hw⟩
  · simp only [List.cons.injEq, and_true] at hc
    exact ⟨none, 0, 0, [], hc, rfl, .inl rfl, (fun x hx => by cases hx), by decide⟩
  · simp only [List.cons.injEq, and_true] at hc
    have hz' : zs.length = cap := by simpa using hz
    have hm' : cap ≤ 9223372036854775807 := Nat.le_trans hm (by decide)
    refine ⟨some a, len, cap, zs.take len, hc, by simp; omega, ?_, fun x hx => wf_i64 (hw x (List.mem_of_mem_take hx)), by omega⟩
    rcases Nat.eq_zero_or_pos len with h0 | h0
    · subst h0
      exact .inl (by simp)
    · have hs : a.spot = none := Nl.addr_at (v := .int .i64 (zs.getD 0 0)) (by simpa [Addr.add] using hcell 0 (by omega))
      obtain ⟨b, off, sp⟩ := a
      subst hs
      refine .inr ⟨b, off, rfl, fun i x hx => ?_⟩
      rw [List.getElem?_map, Option.map_eq_some_iff] at hx
      obtain ⟨z, hx, rfl⟩ := hx
      have hi : i < len := by have := (List.getElem?_eq_some_iff.1 hx).1; simp at this; omega
      rw [List.getElem?_take, if_pos hi] at hx
      have e := hcell i (by omega)
      rw [Ne.addr_add] at e
      rw [e, List.getD_eq_getElem?_getD, hx]
      rfl
/-- A slice of slices of integers. -/
def BinII (W : World) (p : Option Addr) (n : Nat) : Prop := n ≤ 9223372036854775807 ∧ ∀ j, j < n → ∃ b off v, p = some ⟨b, off, none⟩ ∧ W.cell? ⟨b, off + j, none⟩ = some v ∧ BinI W v
theorem open_lists {H : Type} {enc : TypeId × Value → H} {W : World} {r : Reach} {b0 : Nat} {v : Value} {d : DataW H} {p : List MemPlace}
    (hv : Value.okWide Tryd.prog W r b0 40 v) (h : DataW.Trod enc Tryd.prog W 0 (fun _ => true) true 40 v d p) :
    ∃ (q : Option Addr) (n c : Nat), v = .slice q n c ∧ BinII W q n := by
  obtain ⟨a0, len0, cap0, rfl⟩ := okWide_slice Tryd.underlying40 hv
  obtain ⟨fuel, hf⟩ := h
  have hf' : DataW.trod enc Tryd.prog W 0 (fun _ => true) true fuel 40 [.slice a0 len0 cap0] = some (d, p) := by simpa [Value.cells] using hf
  rcases DataW.trod_slice Tryd.underlying40 hf' with ⟨hc, _⟩ | ⟨a, len, cap, elems, rest, n, _, hc, _, _, hl, hm, hlen, hel, _⟩
  · simp only [List.cons.injEq, and_true] at hc
    cases hc
    exact ⟨none, 0, 0, rfl, by decide, fun j hj => absurd hj (by omega)⟩
  · simp only [List.cons.injEq, and_true] at hc
    cases hc
    have hm' : cap0 ≤ 9223372036854775807 := Nat.le_trans hm (by decide)
    have each : ∀ j, j < len0 → ∃ u, W.cell? (a.add j) = some u ∧ BinI W u := by
      intro j hj
      have h1 := hel j hj
      rw [cSI, Nat.mul_one, List.getElem?_eq_getElem (show j < elems.length by omega), Option.bind_eq_some_iff] at h1
      obtain ⟨cs, hcs, hy⟩ := h1
      have hcl : ∃ u, cs = [u] := by
        unfold World.cells? at hcs
        split at hcs
        · have := mapM_some_length hcs
          match cs, this with
          | [u], _ => exact ⟨u, rfl⟩
        · cases hcs
      obtain ⟨u, rfl⟩ := hcl
      exact ⟨u, cell_of_cells?_one hcs, trod_ints hy⟩
    refine ⟨some a, len0, cap0, rfl, by omega, fun j hj => ?_⟩
    obtain ⟨u0, hu0, _⟩ := each 0 (by omega)
    have hs : a.spot = none := Nl.addr_at (v := u0) (by simpa [Addr.add] using hu0)
    obtain ⟨u, hcell, hb⟩ := each j hj
    obtain ⟨b, off, sp⟩ := a
    subst hs
    rw [Ne.addr_add] at hcell
    exact ⟨b, off, u, rfl, hcell, hb⟩
end Go.Proofs.YtldgjhmefaapeaaDoor.Dl
