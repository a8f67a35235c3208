/- Words. -/
import Derived.Test.YtilbojcghladjaaDoorQDz
import Derived.Deep.Cut
namespace Go.Proofs.YtilbojcghladjaaDoor.Dg
open Go Go.RowKit Go.Proofs.YtilbojcghladjaaDoor.Ne Go.Proofs.YtilbojcghladjaaDoor.Kr

theorem mulW {w : World} {x : BitVec 32} : (binOp .mul 51 (.int .u32 (x.toNat : Int)) (.int .u32 256)).run Tryd.prog w = .ok (.int .u32 ((x * 256#32).toNat : Int)) w := by
  have e : IntKind.u32.wrap ((x.toNat : Int) * 256) = ((x * 256#32).toNat : Int) := by
    rw [IntKind.wrap_u32', BitVec.toNat_mul]; simp
  generalize (x * 256#32).toNat = z at *
  go_simp
  first | done | exact e
/-- The first k bytes of the word with the index i. -/
def pw4 (l : List (BitVec 8)) (i : Nat) : Nat → BitVec 32
  | 0 => 0#32
  | k + 1 => pw4 l i k * 256#32 + (l.getD (4 * i + k) 0).setWidth 32
theorem pw4_word (l : List (BitVec 8)) (i : Nat) : pw4 l i 4 = wordOf l i := by
  apply BitVec.eq_of_toNat_eq
  rw [wordOf, W4_toNat]
  have e8 (x : BitVec 8) : (x.setWidth 32).toNat = x.toNat := by rw [BitVec.toNat_setWidth]; exact Nat.mod_eq_of_lt (Nat.lt_of_lt_of_le x.isLt (by decide))
  have h0 := (l.getD (4 * i) 0).isLt
  have h1 := (l.getD (4 * i + 1) 0).isLt
  have h2 := (l.getD (4 * i + 2) 0).isLt
  have h3 := (l.getD (4 * i + 3) 0).isLt
  simp only [pw4, BitVec.toNat_add, BitVec.toNat_mul, e8, Nat.add_zero]
  simp only [show (256#32 : BitVec 32).toNat = 256 from rfl, show (0#32 : BitVec 32).toNat = 0 from rfl]
  omega
theorem ixW {w : World} {b off n c j : Nat} (h : j < n) : (Instr.indexAt 63 (.slice (some ⟨b, off, none⟩) n c) (.int .i64 (j : Int))).run Tryd.prog w = .ok (.pointer (some ⟨b, off + j, none⟩)) w := by
  have h1 : (0 : Int) ≤ (j : Int) := by omega
  have h2 : (j : Int) < (n : Int) := by omega
  go_simp
theorem srcG_get {b off j : Nat} {xs : List Value} {u : Value} {W : World} (h : SrcG (some ⟨b, off, none⟩) xs W) (hu : xs[j]? = some u) : W.cell? ⟨b, off + j, none⟩ = some u := by
  rcases h with h | ⟨b2, o2, e, h⟩
  · rw [h] at hu; simp at hu
  · cases e; exact h j u hu
theorem srcG_some {p : Option Addr} {xs : List Value} {W : World} (h : SrcG p xs W) (hl : 0 < xs.length) : ∃ b off, p = some ⟨b, off, none⟩ := by
  rcases h with h | ⟨b, off, e, _⟩
  · rw [h] at hl; cases hl
  · exact ⟨b, off, e⟩
theorem one_litw (xs : List (BitVec 32)) : ∀ u ∈ xs.map w32, u.oneCell' = true := oneCell_words xs
theorem w_get {l : List (BitVec 32)} {i : Nat} {x : BitVec 32} (h : i < l.length) (hx : l.getD i 0 = x) : (l.map w32)[i]? = some (.int .u32 (x.toNat : Int)) := by
  rw [List.getElem?_map, getD_of (d := 0) h, hx]; rfl

end Go.Proofs.YtilbojcghladjaaDoor.Dg
