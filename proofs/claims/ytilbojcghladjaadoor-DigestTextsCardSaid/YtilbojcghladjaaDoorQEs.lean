/- Parse. -/
import Derived.Test.YtilbojcghladjaaDoorQEr
import Derived.Shelf.Lay
import Derived.Shelf.Small.Strs
import Derived.Deep.Cut
namespace Go.Proofs
open Go.Shelf
shelf_lay Lays.n137 Nm 137 at Tryd as Tryd.lays137
end Go.Proofs
namespace Go.Proofs.YtilbojcghladjaaDoor.Dg
open Go Go.RowKit Go.Proofs.YtilbojcghladjaaDoor.Ne Go.Proofs.YtilbojcghladjaaDoor.Kr
/-- The value of a digit; -1 if it is none. -/
def dvN (n : Nat) : Int := if 48 ≤ n ∧ n ≤ 57 then (n : Int) - 48 else if 97 ≤ n ∧ n ≤ 102 then (n : Int) - 87 else -1
def dv (x : BitVec 8) : Int := dvN x.toNat
theorem dvN_lt (n : Nat) : dvN n ≤ 15 := by unfold dvN; split <;> (try split) <;> omega
theorem dv_ix : ∀ q : Fin 256, Lib.indexByte [48, 49, 50, 51, 52, 53, 54, 55, 56, 57, 97, 98, 99, 100, 101, 102] (UInt8.ofNat q.val) = dvN q.val := by decide +kernel
theorem dig_dv : ∀ q : Fin 16, dvN (dig q.val).toNat = (q.val : Int) := by decide +kernel
theorem dv_dig : ∀ n : Fin 256, 0 ≤ dvN n.val → dig (dvN n.val).toNat = BitVec.ofNat 8 n.val := by decide +kernel
theorem indexByte_v (x : BitVec 8) (w : World) : Calls Tryd.prog 48 #[.string ⟨#[48, 49, 50, 51, 52, 53, 54, 55, 56, 57, 97, 98, 99, 100, 101, 102]⟩, .int .u8 (x.toNat : Int)] w fun e w' => e = .returned (.int .i64 (dv x)) ∧ w' = w := by
  have h := Go.Proofs.Any.strings_IndexByte Tryd.lays137 ⟨#[48, 49, 50, 51, 52, 53, 54, 55, 56, 57, 97, 98, 99, 100, 101, 102]⟩ (x.toNat : Int) w
  have e : Lib.indexByte (⟨#[48, 49, 50, 51, 52, 53, 54, 55, 56, 57, 97, 98, 99, 100, 101, 102]⟩ : ByteArray).data.toList (x.toNat : Int).toNat.toUInt8 = dv x := dv_ix ⟨x.toNat, x.isLt⟩
  rw [e] at h
  exact h
theorem s8_get {s : ByteArray} {i : Nat} {x : BitVec 8} (h : (s8 s)[i]? = some x) : i < s.size := by
  have := (List.getElem?_eq_some_iff.1 h).1
  rwa [s8_length] at this
theorem atStr {w : World} {s : ByteArray} {i : Nat} {x : BitVec 8} (h : (s8 s)[i]? = some x) : (Instr.index 9 (.string s) (.int .i64 (i : Int))).run Tryd.prog w = .ok (.int .u8 (x.toNat : Int)) w := by
  have hi := s8_get h
  have h1 : x.toNat = (s[i]).toNat := by
    have h2 : i < s.data.size := hi
    have h3 : s.data[i]? = some s.data[i] := Array.getElem?_eq_getElem h2
    unfold s8 at h
    rw [List.getElem?_map, Array.getElem?_toList, h3] at h
    have h4 := Option.some.inj h
    rw [← h4]
    rfl
  rw [h1]
  clear h h1
  simp [Instr.index, asIntOf, run_underlying Tryd.underlying9, ByteArray.getElem?_lt' s i hi]
/-- The first n letters are digits. -/
def gd (S : List (BitVec 8)) (n : Nat) : Prop := ∀ j, j < n → 0 ≤ dv (S.getD j 0)
def pv (S : List (BitVec 8)) (i : Nat) : BitVec 8 := BitVec.ofNat 8 (16 * (dv (S.getD (2 * i) 0)).toNat + (dv (S.getD (2 * i + 1) 0)).toNat)
def pre2 (S : List (BitVec 8)) (i : Nat) : List (BitVec 8) := (List.range i).map (pv S)
theorem pre2_length (S : List (BitVec 8)) (i : Nat) : (pre2 S i).length = i := by simp [pre2]
theorem pre2_succ (S : List (BitVec 8)) (i : Nat) : pre2 S (i + 1) = pre2 S i ++ [pv S i] := by simp [pre2, List.range_succ]
theorem pv_two {S : List (BitVec 8)} {i : Nat} (h1 : 0 ≤ dv (S.getD (2 * i) 0)) (h2 : 0 ≤ dv (S.getD (2 * i + 1) 0)) : two (pv S i) = [S.getD (2 * i) 0, S.getD (2 * i + 1) 0] := by
  have a1 := dv_dig ⟨(S.getD (2 * i) 0).toNat, (S.getD (2 * i) 0).isLt⟩ h1
  have a2 := dv_dig ⟨(S.getD (2 * i + 1) 0).toNat, (S.getD (2 * i + 1) 0).isLt⟩ h2
  have b1 := dvN_lt (S.getD (2 * i) 0).toNat
  have b2 := dvN_lt (S.getD (2 * i + 1) 0).toNat
  rw [BitVec.ofNat_toNat, BitVec.setWidth_eq] at a1 a2
  unfold pv two dv
  unfold dv at h1 h2
  generalize dvN (S.getD (2 * i) 0).toNat = p at *
  generalize dvN (S.getD (2 * i + 1) 0).toNat = q at *
  rw [BitVec.toNat_ofNat, show (16 * p.toNat + q.toNat) % 2 ^ 8 / 16 = p.toNat by omega, show (16 * p.toNat + q.toNat) % 2 ^ 8 % 16 = q.toNat by omega, a1, a2]
theorem hexL_pre2 {S : List (BitVec 8)} : ∀ {k : Nat}, 2 * k ≤ S.length → gd S (2 * k) → hexL (pre2 S k) = S.take (2 * k)
  | 0, _, _ => rfl
  | k + 1, h, hg => by
    rw [pre2_succ, hexL_snoc, hexL_pre2 (by omega) (fun j hj => hg j (by omega)), pv_two (hg _ (by omega)) (hg _ (by omega)), show 2 * (k + 1) = 2 * k + 1 + 1 by omega, List.take_add_one, List.take_add_one,
      getD_of (d := 0) (show 2 * k < S.length by omega), getD_of (d := 0) (show 2 * k + 1 < S.length by omega)]
    simp
theorem hexL_get : ∀ (l : List (BitVec 8)) (k : Nat) (x : BitVec 8), l[k]? = some x → (hexL l).getD (2 * k) 0 = dig (x.toNat / 16) ∧ (hexL l).getD (2 * k + 1) 0 = dig (x.toNat % 16)
  | [], k, x, h => by simp at h
  | y :: l, 0, x, h => by
    obtain rfl : y = x := by simpa using h
    exact ⟨rfl, rfl⟩
  | y :: l, k + 1, x, h => by
    have := hexL_get l k x (by simpa using h)
    exact this
theorem hexL_gd (l : List (BitVec 8)) : gd (hexL l) (2 * l.length) := fun j hj => by
  obtain ⟨x, hx⟩ : ∃ x, l[j / 2]? = some x := ⟨_, List.getElem?_eq_getElem (by omega)⟩
  obtain ⟨h1, h2⟩ := hexL_get l (j / 2) x hx
  have hb := x.isLt
  rcases Nat.mod_two_eq_zero_or_one j with h | h
  · rw [show j = 2 * (j / 2) by omega, h1]
    have := dig_dv ⟨x.toNat / 16, by omega⟩
    unfold dv
    rw [this]; omega
  · rw [show j = 2 * (j / 2) + 1 by omega, h2]
    have := dig_dv ⟨x.toNat % 16, by omega⟩
    unfold dv
    rw [this]; omega
theorem pre2_hexL (l : List (BitVec 8)) : ∀ k, k ≤ l.length → pre2 (hexL l) k = l.take k
  | 0, _ => rfl
  | k + 1, h => by
    obtain ⟨x, hx⟩ : ∃ x, l[k]? = some x := ⟨_, List.getElem?_eq_getElem (by omega)⟩
    obtain ⟨h1, h2⟩ := hexL_get l k x hx
    have e1 := dig_dv ⟨x.toNat / 16, by have := x.isLt; omega⟩
    have e2 := dig_dv ⟨x.toNat % 16, by omega⟩
    rw [pre2_succ, pre2_hexL l k (by omega), List.take_add_one, hx, pv, h1, h2]
    unfold dv
    rw [e1, e2]
    simp only [Int.toNat_natCast, Option.toList_some]
    rw [Nat.div_add_mod, BitVec.ofNat_toNat, BitVec.setWidth_eq]
theorem s8_strB (l : List (BitVec 8)) : s8 (strB l) = l := by
  simp [s8, strB, List.map_map, Function.comp_def]
theorem strB_s8 (s : ByteArray) : strB (s8 s) = s := by
  rcases s with ⟨a⟩
  simp [s8, strB, List.map_map, Function.comp_def]

end Go.Proofs.YtilbojcghladjaaDoor.Dg
