/- Texts. -/
import Derived.Test.YtlollhmheakcfaaDoorQBe
import Derived.Shelf.Strconv.AppendIntPublic10
import Derived.Shelf.Lay
import Derived.Ground.NamesProg
import Derived.Lib.AppendIntMem
import Derived.Deep.Cut
namespace Go.Proofs
open Go.Shelf
shelf_lay LaysM.n176 Nm 176 at Tryd as Tryd.laysAI
end Go.Proofs
namespace Go.Proofs.YtlollhmheakcfaaDoor.Dg
open Go Go.RowKit Go.Proofs.YtlollhmheakcfaaDoor.Ne Go.Proofs.YtlollhmheakcfaaDoor.Kr
/-- The table that AppendInt reads. -/
def Tab (w : World) : Prop := Lib.TabIs Tryd.prog w "internal/strconv.uint64pow10" .u64 Lib.pow10Tab
theorem Tab.grow {w W : World} (h : Tab w) (g : Gr w W) : Tab W := Lib.tabBelow_of_tabIs h W g
def itB (n : Int) : List (BitVec 8) := (Lib.itoa n).map UInt8.toBitVec
theorem itB_cells (n : Int) : (itB n).map w8 = Lib.byteCells (Lib.itoa n) := by
  simp [itB, Lib.byteCells, w8]
theorem apt_types {T : TypeId} {B : Nat} {v : Value} {xs : List Value} {W w0 : World} {rs : List Blk} (h : RowG T B v xs W) (H : Ow w0 W rs) (hrs : ∀ x ∈ rs, x.2.1 ≠ T) : Apt v rs := fun k hk x hx e => by
  rcases h.2 with ⟨h1, _⟩ | ⟨g, cap, cur, h1, _, h3, _⟩
  · rw [h1] at hk; cases hk
  · rw [h1] at hk
    have e1 : g = k := by simpa [Value.ownBlock] using hk
    have h5 := H.r x hx
    rw [e, ← e1, h3] at h5
    injection h5 with h5
    injection h5 with _ h5 _
    exact hrs x hx h5.symm
theorem appendInt_v {w0 w : World} {rs : List Blk} {v : Value} {r : List Value} {n : Int} (H : Ow w0 w rs) (HR : RowG 5 w0.heap.size v r w) (hrs : ∀ x ∈ rs, x.2.1 ≠ 5) (hT : Tab w0) (hn : InR n) (hb : r.length ≤ 99999900) :
    Calls Tryd.prog 52 #[v, .int .i64 n, .int .i64 10] w fun e w' => ∃ v2, e = .returned v2 ∧ RowG 5 w0.heap.size v2 (r ++ (itB n).map w8) w' ∧ Apt v2 rs ∧ Ow w0 w' rs := by
  have h := Any.strconv_AppendInt_10 Tryd.laysAI w0.heap.size r.length n hn.1 (by have := hn.2; omega) v r w HR H.g.size (by omega) (fun w' hb => Lib.tabBelow_of_tabIs hT w' (Below.trans H.g hb))
  refine h.mono ?_
  rintro e w' ⟨v2, rfl, h1, h2, h3⟩
  have H' : Ow w0 w' rs := ⟨Below.trans H.g h2, fun x hx => h3 _ _ (H.r x hx) (fun e => by cases e) (fun c fz e => hrs x hx (by injection e)), H.low, H.ne⟩
  have HR' : RowG 5 w0.heap.size v2 (r ++ (itB n).map w8) w' := by
    show w'.ownsRow _ _ _ _ (r ++ (itB n).map w8).length (r ++ (itB n).map w8)
    rw [itB_cells, List.length_append, Lib.byteCells_length]
    exact h1
  exact ⟨v2, rfl, HR', apt_types HR' H' hrs, H'⟩
/-- Items, separated by blanks. -/
def jn (f : It → List (BitVec 8)) (l : List It) : Nat → List (BitVec 8)
  | 0 => []
  | j + 1 => jn f l j ++ ((if j = 0 then [] else [32#8]) ++ (match l[j]? with | some x => f x | none => []))
def txtL (t : It) : List (BitVec 8) := if t.k = 1 then itB t.n else 120 :: hexL t.b
/-- The string of a valid item. -/
def txt : Nat → It → List (BitVec 8)
  | 0, t => txtL t
  | d + 1, t => if t.k = 3 then 40 :: (jn (txt d) t.l t.l.length ++ [41]) else txtL t
theorem txt1 {t : It} (h : t.k = 1) : ∀ d, txt d t = itB t.n
  | 0 => by simp [txt, txtL, h]
  | d + 1 => by simp [txt, txtL, h]
theorem txt2 {t : It} (h : t.k = 2) : ∀ d, txt d t = 120 :: hexL t.b
  | 0 => by simp [txt, txtL, h]
  | d + 1 => by simp [txt, txtL, h]
theorem txt3 {t : It} (h : t.k = 3) (d : Nat) : txt (d + 1) t = 40 :: (jn (txt d) t.l t.l.length ++ [41]) := by simp [txt, h]
theorem jn_succ {f : It → List (BitVec 8)} {l : List It} {j : Nat} {x : It} (h : l[j]? = some x) : jn f l (j + 1) = jn f l j ++ ((if j = 0 then [] else [32#8]) ++ f x) := by
  rw [jn, h]
theorem jn_le (f : It → List (BitVec 8)) (l : List It) (m : Nat) : ∀ i, (jn f l m).length ≤ (jn f l (m + i)).length
  | 0 => Nat.le_refl _
  | i + 1 => by
    refine Nat.le_trans (jn_le f l m i) ?_
    rw [show m + (i + 1) = (m + i) + 1 by omega, jn, List.length_append]
    exact Nat.le_add_right _ _
theorem hexL_take {l : List (BitVec 8)} {i : Nat} {x : BitVec 8} (h : l[i]? = some x) : hexL (l.take (i + 1)) = hexL (l.take i) ++ two x := by
  rw [List.take_add_one, h]; exact hexL_snoc _ _

end Go.Proofs.YtlollhmheakcfaaDoor.Dg
