/- Numbers of 64 bits. -/
import Derived.Test.YtilbojcghladjaaDoorQDq
import Derived.Deep.Cut
import Derived.Laws.BitsAllLaws
namespace Go.Proofs.YtilbojcghladjaaDoor.Dg
open Go Go.RowKit Go.Proofs.YtilbojcghladjaaDoor.Ne Go.Proofs.YtilbojcghladjaaDoor.Kr

theorem vB_lt (l : List (BitVec 8)) : ∀ j, vB l j < 256 ^ j
  | 0 => by rw [vB]; decide
  | j + 1 => by
    have h1 := vB_lt l j
    have h2 := (l.getD j 0).isLt
    rw [vB, Nat.pow_succ]
    omega
theorem vB_lt7 (l : List (BitVec 8)) {j : Nat} (h : j ≤ 7) : vB l j < 72057594037927936 := Nat.lt_of_lt_of_le (vB_lt l j) (Nat.pow_le_pow_right (by decide) h)
theorem drop_getD (l : List (BitVec 8)) (j : Nat) : (l.drop 8).getD j 0 = l.getD (8 + j) 0 := by
  rw [List.getD_eq_getElem?_getD, List.getD_eq_getElem?_getD, List.getElem?_drop]
theorem vB_split (l : List (BitVec 8)) : ∀ j, vB l (8 + j) = vB l 8 * 256 ^ j + vB (l.drop 8) j
  | 0 => by
    have e : vB (l.drop 8) 0 = 0 := rfl
    rw [e, Nat.add_zero, Nat.pow_zero, Nat.mul_one, Nat.add_zero]
  | j + 1 => by
    have e1 : vB l (8 + (j + 1)) = vB l (8 + j) * 256 + (l.getD (8 + j) 0).toNat := rfl
    have e2 : vB (l.drop 8) (j + 1) = vB (l.drop 8) j * 256 + ((l.drop 8).getD j 0).toNat := rfl
    rw [e1, e2, vB_split l j, drop_getD, Nat.pow_succ, Nat.add_mul, Nat.mul_assoc, Nat.add_assoc]
theorem low_mod (l : List (BitVec 8)) {k P : Nat} (hk : k < 61) (hP : 2 ^ k = P) : vB l 16 % P = vB (l.drop 8) 8 % P := by
  rw [show (16 : Nat) = 8 + 8 from rfl, vB_split]
  have h : (256 : Nat) ^ 8 = P * 2 ^ (64 - k) := by
    rw [← hP, ← Nat.pow_add, show k + (64 - k) = 64 by omega]
  rw [h, ← Nat.mul_assoc, Nat.mul_comm (vB l 8) P, Nat.mul_assoc, Nat.mul_add_mod]
theorem pow_le60 {k P : Nat} (hk : k < 61) (hP : 2 ^ k = P) : 1 ≤ P ∧ P ≤ 1152921504606846976 := by
  refine ⟨hP ▸ Nat.two_pow_pos k, ?_⟩
  rw [← hP]
  exact Nat.le_trans (Nat.pow_le_pow_right (by decide) (show k ≤ 60 by omega)) (by decide)
set_option linter.unusedSimpArgs false in
theorem rem32 {w : World} {x q : Nat} (hq : x % 1073741824 = q) : (binOp .rem 51 (.int .u32 (x : Int)) (.int .u32 1073741824)).run Tryd.prog w = .ok (.int .u32 (q : Int)) w := by
  have h1 : (x : Int).tmod 1073741824 = (q : Int) := by
    rw [Int.tmod_eq_emod_of_nonneg (by omega)]; omega
  have h3 : IntKind.u32.wrap (q : Int) = (q : Int) := by rw [IntKind.wrap_u32']; omega
  clear hq
  go_simp
set_option linter.unusedSimpArgs false in
theorem conv32 {w : World} {x : Nat} (hx : x < 4294967296) : (convert 51 3 (.int .u32 (x : Int))).run Tryd.prog w = .ok (.int .i64 (x : Int)) w := by
  have : IntKind.i64.wrap (x : Int) = (x : Int) := IntWalk.i64_in _ (by omega)
  clear hx
  go_simp
set_option linter.unusedSimpArgs false in
theorem conv8I {w : World} {x : Nat} (hx : x < 256) : (convert 5 3 (.int .u8 (x : Int))).run Tryd.prog w = .ok (.int .i64 (x : Int)) w := by
  have : IntKind.i64.wrap (x : Int) = (x : Int) := IntWalk.i64_in _ (by omega)
  clear hx
  go_simp
set_option linter.unusedSimpArgs false in
theorem convBU {w : World} {x : BitVec 8} : (convert 5 52 (.int .u8 (x.toNat : Int))).run Tryd.prog w = .ok (.int .u64 (x.toNat : Int)) w := by
  have hx := x.isLt
  have : IntKind.u64.wrap (x.toNat : Int) = (x.toNat : Int) := (by refine (IntWalk.u64_in _ ?_); omega)
  clear hx
  go_simp
set_option linter.unusedSimpArgs false in
theorem convIU {w : World} {x : Nat} (hx : x < 18446744073709551616) : (convert 3 52 (.int .i64 (x : Int))).run Tryd.prog w = .ok (.int .u64 (x : Int)) w := by
  have : IntKind.u64.wrap (x : Int) = (x : Int) := (by refine (IntWalk.u64_in _ ?_); omega)
  clear hx
  go_simp
set_option linter.unusedSimpArgs false in
theorem shl8U {w : World} {x y : Nat} (h : x * 256 = y) (hy : y < 18446744073709551616) : (binOp .shl 52 (.int .u64 (x : Int)) (.int .u64 8)).run Tryd.prog w = .ok (.int .u64 (y : Int)) w := by
  have e : IntKind.u64.wrap ((x : Int) * 256) = (y : Int) := by rw [show (x : Int) * 256 = (y : Int) by omega]; exact IntWalk.u64_in _ (by omega)
  clear h hy
  go_simp
  first | done | exact e
set_option linter.unusedSimpArgs false in
theorem orU {w : World} {x c y : Nat} (h : x ||| c = y) (hx : x < 18446744073709551616) (hc : c < 18446744073709551616) : (binOp .or 52 (.int .u64 (x : Int)) (.int .u64 (c : Int))).run Tryd.prog w = .ok (.int .u64 (y : Int)) w := by
  have e : bits BinOp.or IntKind.u64 (x : Int) (c : Int) = (y : Int) := by rw [u64_or_nat _ _ hx hc, h]
  clear h hx hc
  go_simp
  first | done | exact e
set_option linter.unusedSimpArgs false in
theorem andU {w : World} {x c y : Nat} (h : x &&& c = y) (hx : x < 18446744073709551616) (hc : c < 18446744073709551616) : (binOp .and 52 (.int .u64 (x : Int)) (.int .u64 (c : Int))).run Tryd.prog w = .ok (.int .u64 (y : Int)) w := by
  have e : bits BinOp.and IntKind.u64 (x : Int) (c : Int) = (y : Int) := by rw [u64_and_nat _ _ hx hc, h]
  clear h hx hc
  go_simp
  first | done | exact e
set_option linter.unusedSimpArgs false in
theorem subU1 {w : World} {P Q : Nat} (h : Q + 1 = P) (hP : P < 18446744073709551616) : (binOp .sub 52 (.int .u64 (P : Int)) (.int .u64 1)).run Tryd.prog w = .ok (.int .u64 (Q : Int)) w := by
  have e : IntKind.u64.wrap ((P : Int) - 1) = (Q : Int) := by rw [show (P : Int) - 1 = (Q : Int) by omega]; exact IntWalk.u64_in _ (by omega)
  clear h hP
  go_simp
  first | done | exact e
set_option linter.unusedSimpArgs false in
theorem eqU {w : World} {x y : Int} {b : Bool} (h : decide (x = y) = b) : (binOp .eql 52 (.int .u64 x) (.int .u64 y)).run Tryd.prog w = .ok (.bool b) w := by
  have e : (x == y) = b := by rw [← h]; rw [Bool.eq_iff_iff]; simp
  go_simp
set_option linter.unusedSimpArgs false in
theorem neqI2 {w : World} {x y : Int} {b : Bool} (h : decide (¬ x = y) = b) : (binOp .neq 3 (.int .i64 x) (.int .i64 y)).run Tryd.prog w = .ok (.bool b) w := by
  have e : (!(x == y)) = b := by rw [← h]; rw [Bool.eq_iff_iff]; simp
  go_simp
  first | done | exact e
theorem slH8 {w : World} {b : Nat} : (Instr.sliceAt 25 (.pointer (some ⟨b, 0, none⟩)) (some (.int .i64 8)) (some (.int .i64 16)) none).run Tryd.prog w = .ok (.slice (some ⟨b, 8, none⟩) 8 24) w := by
  go_simp
theorem shlI {w : World} {k P : Nat} (hk : k < 61) (hP : 2 ^ k = P) : (binOp .shl 3 (.int .i64 1) (.int .i64 (k : Int))).run Tryd.prog w = .ok (.int .i64 (P : Int)) w := by
  have hl := pow_le60 hk hP
  have e : IntKind.i64.wrap (P : Int) = (P : Int) := IntWalk.i64_in _ (by omega)
  have h0 : ¬ (k : Int) < 0 := by omega
  have h1 : (0 : Int) ≤ (k : Int) := by omega
  have h2 : (2 : Int) ^ k = (P : Int) := by rw [← hP]; exact (Int.natCast_pow 2 k).symm
  clear hP hl
  go_simp
theorem shlU {w : World} {k P : Nat} (hk : k < 61) (hP : 2 ^ k = P) : (binOp .shl 52 (.int .u64 1) (.int .i64 (k : Int))).run Tryd.prog w = .ok (.int .u64 (P : Int)) w := by
  have hl := pow_le60 hk hP
  have e : IntKind.u64.wrap (P : Int) = (P : Int) := IntWalk.u64_in _ (by omega)
  have h0 : ¬ (k : Int) < 0 := by omega
  have h1 : (0 : Int) ≤ (k : Int) := by omega
  have h2 : (2 : Int) ^ k = (P : Int) := by rw [← hP]; exact (Int.natCast_pow 2 k).symm
  clear hP hl
  go_simp

end Go.Proofs.YtilbojcghladjaaDoor.Dg
