/- Words in memory: 'Rd': a slice reads as these words; 'Own': it is the call's own; worlds that have grown. Natural numbers as values. -/
import Derived.Test.YtiefnhpbniaklaaNb
import Derived.Lib.SmallJoins
import Derived.Laws.CopyOwn
import Derived.StillTailTactics
import Derived.Outline
namespace Go.Proofs.Ytiefnhpbniaklaa.Ne
open Go.RowKit Go.Proofs.Ytiefnhpbniaklaa.Nm

/-- The slice that begins at p reads as the words l. -/
def Rd (w : World) (p : Option Addr) (l : List Nat) : Prop :=
  l = [] ∨ ∃ b off, p = some ⟨b, off, none⟩ ∧ ∀ i, i < l.length → w.cell? ⟨b, off + i, none⟩ = some (.int .u32 ((l[i]?.getD 0 : Nat) : Int))
theorem Rd.nil (w : World) (p : Option Addr) : Rd w p [] := .inl rfl
theorem Rd.at {w : World} {p : Option Addr} {l : List Nat} (h : Rd w p l) (h0 : 0 < l.length) :
    ∃ b off, p = some ⟨b, off, none⟩ ∧ ∀ i, i < l.length → w.cell? ⟨b, off + i, none⟩ = some (.int .u32 ((l[i]?.getD 0 : Nat) : Int)) := by
  rcases h with rfl | h
  · simp at h0
  · exact h
theorem Rd.below {w w' : World} {p : Option Addr} {l : List Nat} (h : Rd w p l) (hb : Below w.heap.size w w') : Rd w' p l := by
  rcases h with rfl | ⟨b, off, rfl, hc⟩
  · exact .inl rfl
  · refine .inr ⟨b, off, rfl, fun i hi => ?_⟩
    have := hc i hi
    exact (hb.cell (p := ⟨b, off + i, none⟩) (World.block_lt_of_cell? w _ this)).trans this
theorem Rd.drewN {w : World} {p : Option Addr} {l : List Nat} (h : Rd w p l) (n : Nat) : Rd (w.drewN n) p l := h
theorem Rd.take {w : World} {p : Option Addr} {l : List Nat} (h : Rd w p l) (k : Nat) : Rd w p (l.take k) := by
  rcases h with rfl | ⟨b, off, rfl, hc⟩
  · exact .inl (by simp)
  · refine .inr ⟨b, off, rfl, fun i hi => ?_⟩
    have h1 : i < l.length := by simp at hi; omega
    have h2 : i < k := by simp at hi; omega
    rw [hc i h1, List.getElem?_take, if_pos h2]
/-- What a step leaves of what was there. -/
def Gr (w w' : World) : Prop := Below w.heap.size w w'
theorem Gr.refl (w : World) : Gr w w := Below.refl _ _
theorem Gr.trans {a b c : World} (h : Gr a b) (k : Gr b c) : Gr a c := Below.trans h (Below.mono k h.size)
theorem Gr.alloc {a w : World} (h : Gr a w) (o : Obj) : Gr a (w.alloc o) := Below.alloc h h.size o
theorem Gr.setCell {a w : World} (h : Gr a w) {p : Addr} (hp : a.heap.size ≤ p.block) (u : Value) : Gr a (w.setCell p u) := Below.setCell h hp u
theorem Gr.drew {a w : World} (h : Gr a w) : Gr a w.drew := Below.drew h
theorem Gr.drewN {a w : World} (h : Gr a w) (n : Nat) : Gr a (w.drewN n) := ⟨h.os, h.tape, h.output, h.size, h.block⟩
theorem Gr.cell {w w' : World} (h : Gr w w') {p : Addr} {v : Value} (hc : w.cell? p = some v) : w'.cell? p = some v :=
  (Below.cell h (World.block_lt_of_cell? w p hc)).trans hc
theorem Gr.frozen {w w' : World} (h : Gr w w') {p : Addr} {v : Value} (hc : w.cell? p = some v) (hf : w.frozen? p = false) : w'.frozen? p = false :=
  (Below.frozen h (World.block_lt_of_cell? w p hc)).trans hf
theorem Gr.rd {w w' : World} (h : Gr w w') {p : Option Addr} {l : List Nat} (hr : Rd w p l) : Rd w' p l := hr.below h
theorem Gr.le {w w' : World} (h : Gr w w') : w.heap.size ≤ w'.heap.size := Below.size h

theorem _root_.Go.RowKit.Below.cell' {w w' : World} (h : Below w.heap.size w w') {p : Addr} {v : Value} (hc : w.cell? p = some v) : w'.cell? p = some v := Gr.cell h hc
theorem _root_.Go.RowKit.Below.frozen' {w w' : World} (h : Below w.heap.size w w') {p : Addr} {v : Value} (hc : w.cell? p = some v) (hf : w.frozen? p = false) : w'.frozen? p = false := Gr.frozen h hc hf
/-- The value v is a slice of words of the call's own (in blocks from B on), with these words. -/
def Own (B : Nat) (w : World) (p : Option Addr) (l : List Nat) : Prop :=
  l = [] ∨ ∃ b off, p = some ⟨b, off, none⟩ ∧ B ≤ b ∧ ∀ i, i < l.length → w.cell? ⟨b, off + i, none⟩ = some (.int .u32 ((l[i]?.getD 0 : Nat) : Int)) ∧ w.frozen? ⟨b, off + i, none⟩ = false
theorem Own.rd {B : Nat} {w : World} {p : Option Addr} {l : List Nat} (h : Own B w p l) : Rd w p l := by
  rcases h with rfl | ⟨b, off, rfl, _, hc⟩
  · exact .inl rfl
  · exact .inr ⟨b, off, rfl, fun i hi => (hc i hi).1⟩
theorem Own.mono {B B' : Nat} {w : World} {p : Option Addr} {l : List Nat} (h : Own B w p l) (hB : B' ≤ B) : Own B' w p l := by
  rcases h with rfl | ⟨b, off, rfl, hb, hc⟩
  · exact .inl rfl
  · exact .inr ⟨b, off, rfl, Nat.le_trans hB hb, hc⟩
theorem Own.grow {B : Nat} {w w' : World} {p : Option Addr} {l : List Nat} (h : Own B w p l) (g : Gr w w') : Own B w' p l := by
  rcases h with rfl | ⟨b, off, rfl, hb, hc⟩
  · exact .inl rfl
  · exact .inr ⟨b, off, rfl, hb, fun i hi => ⟨g.cell (hc i hi).1, g.frozen (hc i hi).1 (hc i hi).2⟩⟩
theorem Own.take {B : Nat} {w : World} {p : Option Addr} {l : List Nat} (h : Own B w p l) (k : Nat) : Own B w p (l.take k) := by
  rcases h with rfl | ⟨b, off, rfl, hb, hc⟩
  · exact .inl (by simp)
  · refine .inr ⟨b, off, rfl, hb, fun i hi => ?_⟩
    have h1 : i < l.length := by simp at hi; omega
    have h2 : i < k := by simp at hi; omega
    rw [List.getElem?_take, if_pos h2]
    exact hc i h1
theorem Own.nil (B : Nat) (w : World) (p : Option Addr) : Own B w p [] := .inl rfl
end Go.Proofs.Ytiefnhpbniaklaa.Ne
