/- Arguments that are rows of bytes. -/
import Derived.Test.YtlollhmheakcfaaDoorQBv
import Derived.ChangeSlices
namespace Go.Proofs.YtlollhmheakcfaaDoor.Dl
open Go Go.RowKit Go.Proofs.YtlollhmheakcfaaDoor.Ne Go.Proofs.YtlollhmheakcfaaDoor.Dg
/-- A slice of bytes among the arguments. -/
def Bin8 (W : World) (p : Option Addr) (n c : Nat) : Prop := ∃ l : List (BitVec 8), l.length = n ∧ n ≤ c ∧ (p = none → c = 0) ∧ SrcB p l W ∧ n ≤ 9223372036854775807
open Go.ChangeShapes Go.WideShapes Go.ChangeAt Go.WideElems in
set_option maxRecDepth 100000 in
theorem open_bytes {H : Type} {enc : TypeId × Value → H} {W : World} {r : Reach} {b0 : Nat} {v : Value} {d : DataW H} {p : List MemPlace}
    (hv : Value.okWide Tryd.prog W r b0 22 v) (h : DataW.Trod enc Tryd.prog W 0 (fun _ => true) true 22 v d p) :
    ∃ (q : Option Addr) (n c : Nat), v = .slice q n c ∧ Bin8 W q n c := by
  obtain ⟨a0, len0, cap0, rfl⟩ := okWide_slice Tryd.underlying22 hv
  obtain ⟨fuel, hf⟩ := h
  rcases open_ints Tryd.underlying22 Tryd.underlying5 cU8 hf with ⟨hc, _⟩ | ⟨a, len, cap, zs, hc, _, hl, hm, hz, _, hcell, hw⟩
  · simp [Value.cells] at hc
    obtain ⟨rfl, rfl, rfl⟩ := hc
    exact ⟨none, 0, 0, rfl, [], rfl, Nat.le_refl _, fun _ => rfl, .inl rfl, by decide⟩
  · simp [Value.cells] at hc
    obtain ⟨rfl, rfl, rfl⟩ := hc
    have hz' : zs.length = cap0 := by simpa using hz
    have hm' : cap0 ≤ 9223372036854775807 := Nat.le_trans hm (by decide)
    refine ⟨some a, len0, cap0, rfl, (zs.take len0).map (fun z => BitVec.ofNat 8 z.toNat), by simp; omega, hl, (fun e => by cases e), ?_, by omega⟩
    rcases Nat.eq_zero_or_pos len0 with h0 | h0
    · subst h0
      exact .inl (by simp)
    · have hs : a.spot = none := Nl.addr_at (v := .int .u8 (zs.getD 0 0)) (by simpa [Addr.add] using hcell 0 (by omega))
      obtain ⟨b, off, sp⟩ := a
      subst hs
      refine .inr ⟨b, off, rfl, fun i x hx => ?_⟩
      rw [List.getElem?_map, Option.map_eq_some_iff] at hx
      obtain ⟨z, hx, rfl⟩ := hx
      have hi : i < len0 := by have := (List.getElem?_eq_some_iff.1 hx).1; simp at this; omega
      rw [List.getElem?_take, if_pos hi] at hx
      have e := hcell i (by omega)
      rw [Ne.addr_add] at e
      rw [e, List.getD_eq_getElem?_getD, hx]
      exact congrArg some (w8_of (wf_u8 (hw z (List.mem_of_getElem? hx))))
end Go.Proofs.YtlollhmheakcfaaDoor.Dl
