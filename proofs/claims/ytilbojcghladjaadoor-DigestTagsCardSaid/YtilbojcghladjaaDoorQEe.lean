/- Bytes of words. -/
import Derived.Test.YtilbojcghladjaaDoorQEd
import Derived.Deep.Cut
namespace Go.Proofs.YtilbojcghladjaaDoor.Dg
open Go Go.RowKit Go.Proofs.YtilbojcghladjaaDoor.Ne Go.Proofs.YtilbojcghladjaaDoor.Kr

set_option linter.unusedSimpArgs false in
theorem shrV2 {w : World} {x y : BitVec 32} {k : Nat} (hk : k < 32) (h : x >>> k = y) : (binOp .shr 51 (.int .u32 (x.toNat : Int)) (.int .i64 (k : Int))).run Tryd.prog w = .ok (.int .u32 (y.toNat : Int)) w := by
  have e : x.toNat / 2 ^ k = y.toNat := by rw [← h, BitVec.toNat_ushiftRight, Nat.shiftRight_eq_div_pow]
  have h1 : (x.toNat : Int) / 2 ^ k = (y.toNat : Int) := by rw [← e]; simp
  have h2 : (x.toNat : Int) / (2 ^ k : Nat) = (y.toNat : Int) := by rw [← e]; simp
  have hk0 : ¬ (k : Int) < 0 := by omega
  have hk1 : ¬ 32 ≤ k := by omega
  clear h e hk
  go_simp
  first | done | assumption
theorem quoI {w : World} {x d q : Nat} (h0 : 0 < d) (hq : x / d = q) (hx : x < 9223372036854775808) : (binOp .quo 3 (.int .i64 (x : Int)) (.int .i64 (d : Int))).run Tryd.prog w = .ok (.int .i64 (q : Int)) w := by
  have hd0 : ¬ d = 0 := by omega
  have h1 : (x : Int).tdiv (d : Int) = (q : Int) := by
    rw [Int.tdiv_eq_ediv_of_nonneg (by omega), ← Int.natCast_ediv, hq]
  have h2 : q ≤ x := hq ▸ Nat.div_le_self _ _
  have h3 : IntKind.i64.wrap (q : Int) = (q : Int) := IntWalk.i64_in _ (by omega)
  clear hq h0 hx h2
  go_simp
theorem outs_get : ∀ (L : List (BitVec 32)) (i : Nat), i < 4 * L.length → (outs L)[i]? = some ((L.getD (i / 4) 0 >>> (24 - 8 * (i % 4))).setWidth 8)
  | [], i, h => by simp at h
  | x :: r, 0, _ => rfl
  | x :: r, 1, _ => rfl
  | x :: r, 2, _ => rfl
  | x :: r, 3, _ => rfl
  | x :: r, i + 4, h => by
    have ih := outs_get r i (by rw [List.length_cons] at h; omega)
    have e : outs (x :: r) = four x ++ outs r := rfl
    rw [e, List.getElem?_append_right (show (four x).length ≤ i + 4 from Nat.le_add_left 4 i), show i + 4 - (four x).length = i from Nat.add_sub_cancel i 4, ih]
    rw [show (i + 4) / 4 = i / 4 + 1 by omega, show (i + 4) % 4 = i % 4 by omega, List.getD_cons_succ]
theorem bytes_drop {W : World} {b n a : Nat} {T : TypeId} {cur : List Value} {l : List (BitVec 8)} {fr : Nat × Nat} (h : W.heap[b]? = some (.cells cur.toArray T fr)) (ht : cur.take n = l.map w8) (hl : l.length = n) : BytesAt b a (l.drop a) W := fun j x hx => by
  rw [List.getElem?_drop] at hx
  have h1 : (l.map w8)[a + j]? = some (w8 x) := map_get8 hx
  have h2 : a + j < n := by have := (List.getElem?_eq_some_iff.1 hx).1; omega
  rw [cell_of_row W b (a + j) _ _ _ h]
  simpa using of_take ht h2 h1
theorem rnd_list {Z : S8} {k w u0 u4 x y : BitVec 32} (hx : T1 Z k w = x) (hy : T2 Z = y) (h0 : x + y = u0) (h4 : Z.d + x = u4) : rnd Z k w = ⟨u0, Z.a, Z.b, Z.c, u4, Z.e, Z.f, Z.g⟩ := by
  unfold rnd; rw [hx, hy, h0, h4]

end Go.Proofs.YtilbojcghladjaaDoor.Dg
