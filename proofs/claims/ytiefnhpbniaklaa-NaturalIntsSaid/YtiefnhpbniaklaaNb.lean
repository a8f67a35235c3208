/- The contracts of math/bits' Mul32, Add32, Sub32, Div32, Len32, LeadingZeros32 over this seat's translation. -/
import Derived.Test.YtiefnhpbniaklaaNmath
import Derived.Test.YtiefnhpbniaklaaChecked
import Derived.WalkKit
import Derived.Deep.QuietTactic
import Derived.BigQuiet
import Derived.Lib.Hide
import Derived.Lib.Small
import Derived.Lib.Walk
import Derived.Lib.BitFns
import Derived.Lib.ItoaNum
import Derived.Lib.Mul64
import Derived.Laws.Bits64b
namespace Go.Proofs.Ytiefnhpbniaklaa.Nb
open Go.RowKit

theorem ret_uu {a b c d : Int} (h1 : a = c) (h2 : b = d) : Ending.returned (.tuple #[.int .u32 a, .int .u32 b]) = .returned (.tuple #[.int .u32 c, .int .u32 d]) := by rw [h1, h2]

theorem wrap64N (a : Nat) (ha : a < 18446744073709551616) : IntKind.u64.wrap (a : Int) = (a : Int) := by rw [IntKind.wrap_u64]; omega
theorem wrap32N (a : Nat) : IntKind.u32.wrap (a : Int) = ((a % 4294967296 : Nat) : Int) := by rw [IntKind.wrap_u32]; omega
theorem mulN (a b : Nat) : (a : Int) * (b : Int) = ((a * b : Nat) : Int) := (Int.natCast_mul a b).symm
theorem addN (a b : Nat) : (a : Int) + (b : Int) = ((a + b : Nat) : Int) := (Int.natCast_add a b).symm
theorem divN (a : Nat) : (a : Int) / 4294967296 = ((a / 4294967296 : Nat) : Int) := by omega

theorem mul_lt32 {x y : Nat} (hx : x < 4294967296) (hy : y < 4294967296) : x * y ≤ 18446744065119617025 := by
  have := Nat.mul_le_mul (show x ≤ 4294967295 by omega) (show y ≤ 4294967295 by omega)
  omega

theorem bits_u32 (a b : Nat) (ha : a < 4294967296) (hb : b < 4294967296) :
    bits .and .u32 (a : Int) (b : Int) = ((a &&& b : Nat) : Int) ∧ bits .or .u32 (a : Int) (b : Int) = ((a ||| b : Nat) : Int) ∧ bits .xor .u32 (a : Int) (b : Int) = ((a ^^^ b : Nat) : Int) := by
  have x1 : a &&& b < 2 ^ 32 := Nat.and_lt_two_pow _ (by omega)
  have x2 : a ||| b < 2 ^ 32 := Nat.or_lt_two_pow (by omega) (by omega)
  have x3 : a ^^^ b < 2 ^ 32 := Nat.xor_lt_two_pow (by omega) (by omega)
  have h1 : (BitVec.ofInt 32 (a : Int)).toNat = a := by
    rw [BitVec.ofInt_natCast, BitVec.toNat_ofNat]; exact Nat.mod_eq_of_lt (by omega)
  have h2 : (BitVec.ofInt 32 (b : Int)).toNat = b := by
    rw [BitVec.ofInt_natCast, BitVec.toNat_ofNat]; exact Nat.mod_eq_of_lt (by omega)
  refine ⟨?_, ?_, ?_⟩
  · show IntKind.u32.wrap ((BitVec.ofInt 32 (a : Int) &&& BitVec.ofInt 32 (b : Int)).toNat : Int) = _
    rw [BitVec.toNat_and, h1, h2, IntKind.wrap_u32]; omega
  · show IntKind.u32.wrap ((BitVec.ofInt 32 (a : Int) ||| BitVec.ofInt 32 (b : Int)).toNat : Int) = _
    rw [BitVec.toNat_or, h1, h2, IntKind.wrap_u32]; omega
  · show IntKind.u32.wrap ((BitVec.ofInt 32 (a : Int) ^^^ BitVec.ofInt 32 (b : Int)).toNat : Int) = _
    rw [BitVec.toNat_xor, h1, h2, IntKind.wrap_u32]; omega
theorem top (a : Nat) : a.testBit 31 = decide (a / 2147483648 % 2 = 1) := by rw [Nat.testBit_eq_decide_div_mod_eq]
/-- 1, if y is greater than x. -/
def bor (x y : Nat) : Nat := if x < y then 1 else 0
theorem bor_le (x y : Nat) : bor x y ≤ 1 := by unfold bor; split <;> omega
theorem borrow_bit (x y d : Nat) (hx : x < 4294967296) (hy : y < 4294967296) (hd : d = (x + 4294967296 - y) % 4294967296) :
    (((4294967295 ^^^ x) &&& y) ||| ((4294967295 ^^^ (x ^^^ y)) &&& d)) / 2147483648 = bor x y := by
  have t : (((4294967295 ^^^ x) &&& y) ||| ((4294967295 ^^^ (x ^^^ y)) &&& d)).testBit 31 = decide (bor x y = 1) := by
    have m : (4294967295 : Nat).testBit 31 = true := by decide
    simp only [Nat.testBit_or, Nat.testBit_and, Nat.testBit_xor, m, top x, top y, top d]
    unfold bor
    by_cases a1 : x / 2147483648 % 2 = 1 <;> by_cases a2 : y / 2147483648 % 2 = 1 <;> by_cases a3 : d / 2147483648 % 2 = 1 <;> simp [a1, a2, a3] <;> omega
  have l : (((4294967295 ^^^ x) &&& y) ||| ((4294967295 ^^^ (x ^^^ y)) &&& d)) < 2 ^ 32 :=
    Nat.or_lt_two_pow (Nat.and_lt_two_pow _ (by omega)) (Nat.and_lt_two_pow _ (by omega))
  rw [top] at t
  have b := bor_le x y
  generalize (((4294967295 ^^^ x) &&& y) ||| ((4294967295 ^^^ (x ^^^ y)) &&& d)) = E at *
  have t2 : E / 2147483648 % 2 = 1 ↔ bor x y = 1 := by simpa using t
  omega
theorem or_add (x y : Nat) (hy : y < 4294967296) (hx : x < 4294967296) : bits .or .u64 ((x : Int) * 4294967296) (y : Int) = ((x * 4294967296 + y : Nat) : Int) := by
  have h := bits_or_u64_nat (x * 4294967296) y (by omega) (by omega)
  rw [Int.natCast_mul] at h
  rw [show ((x : Int) * 4294967296) = (x : Int) * ((4294967296 : Nat) : Int) by rfl, h]
  congr 1
  have := Nat.shiftLeft_add_eq_or_of_lt (i := 32) (b := y) (by omega) x
  rw [Nat.shiftLeft_eq, show (2 : Nat) ^ 32 = 4294967296 from rfl] at this
  exact this.symm

theorem mul32 (x y : Nat) (hx : x < 4294967296) (hy : y < 4294967296) (w : World) :
    Calls Try.prog 127 #[.int .u32 x, .int .u32 y] w fun e w' => e = .returned (.tuple #[.int .u32 ((x * y / 4294967296 : Nat) : Int), .int .u32 ((x * y % 4294967296 : Nat) : Int)]) ∧ w' = w := by
  have h := mul_lt32 hx hy
  have e1 := mulN x y
  have e2 := wrap64N (x * y) (by omega)
  generalize x * y = p at *
  go_enter Try.func127, Try.ntmps127
  go_wp2
  go_ret2
  refine ⟨ret_uu ?_ ?_, rfl⟩
  all_goals omega

theorem add32 (x y c : Nat) (hx : x < 4294967296) (hy : y < 4294967296) (hc : c < 4294967296) (w : World) :
    Calls Try.prog 128 #[.int .u32 x, .int .u32 y, .int .u32 c] w fun e w' => e = .returned (.tuple #[.int .u32 (((x + y + c) % 4294967296 : Nat) : Int), .int .u32 (((x + y + c) / 4294967296 : Nat) : Int)]) ∧ w' = w := by
  go_enter Try.func128, Try.ntmps128
  go_wp2
  go_ret2
  refine ⟨ret_uu ?_ ?_, rfl⟩
  all_goals omega
/-- x + y. -/
theorem add32_0 (x y : Nat) (hx : x < 4294967296) (hy : y < 4294967296) (w : World) :
    Calls Try.prog 128 #[.int .u32 x, .int .u32 y, .int .u32 0] w fun e w' => e = .returned (.tuple #[.int .u32 (((x + y) % 4294967296 : Nat) : Int), .int .u32 (((x + y) / 4294967296 : Nat) : Int)]) ∧ w' = w := by
  simpa using add32 x y 0 hx hy (by decide) w

theorem sub32_0 (x y : Nat) (hx : x < 4294967296) (hy : y < 4294967296) (w : World) :
    Calls Try.prog 129 #[.int .u32 x, .int .u32 y, .int .u32 0] w fun e w' => e = .returned (.tuple #[.int .u32 (((x + 4294967296 - y) % 4294967296 : Nat) : Int), .int .u32 (bor x y : Int)]) ∧ w' = w := by
  have hd : ((x : Int) - (y : Int)) % 4294967296 = (((x + 4294967296 - y) % 4294967296 : Nat) : Int) := by omega
  have hb := borrow_bit x y _ hx hy rfl
  have hm : IntKind.u32.max = ((4294967295 : Nat) : Int) := rfl
  have e1 := (bits_u32 4294967295 x (by decide) hx).2.2
  have x1 : 4294967295 ^^^ x < 4294967296 := Nat.xor_lt_two_pow (n := 32) (by omega) (by omega)
  have e2 := (bits_u32 _ y x1 hy).1
  have x2 : (4294967295 ^^^ x) &&& y < 4294967296 := Nat.and_lt_two_pow (n := 32) _ (by omega)
  have e3 := (bits_u32 x y hx hy).2.2
  have x3 : x ^^^ y < 4294967296 := Nat.xor_lt_two_pow (n := 32) (by omega) (by omega)
  have e4 := (bits_u32 4294967295 _ (by decide) x3).2.2
  have x4 : 4294967295 ^^^ (x ^^^ y) < 4294967296 := Nat.xor_lt_two_pow (n := 32) (by omega) (by omega)
  have hdl : (x + 4294967296 - y) % 4294967296 < 4294967296 := Nat.mod_lt _ (by decide)
  have e5 := (bits_u32 _ _ x4 hdl).1
  have x5 : (4294967295 ^^^ (x ^^^ y)) &&& ((x + 4294967296 - y) % 4294967296) < 4294967296 := Nat.and_lt_two_pow (n := 32) _ (by omega)
  have e6 := (bits_u32 _ _ x2 x5).2.1
  have HD := Lib.hid hd
  have HB := Lib.hid hb
  have E : Hid (bits BinOp.or IntKind.u32 (bits BinOp.and IntKind.u32 (bits BinOp.xor IntKind.u32 IntKind.u32.max (x : Int)) (y : Int)) (bits BinOp.and IntKind.u32 (bits BinOp.xor IntKind.u32 IntKind.u32.max (bits BinOp.xor IntKind.u32 (x : Int) (y : Int))) (((x : Int) - (y : Int)) % 4294967296)) / 2147483648 = (bor x y : Int)) := by
    show _ = _
    rw [hd, hm, e1, e2, e3, e4, e5, e6, ← hb]
    rfl
  clear hd hb hm e1 e2 e3 e4 e5 e6 x1 x2 x3 x4 x5 hdl
  go_enter Try.func129, Try.ntmps129
  go_wp2
  go_ret2
  exact ⟨ret_uu HD.out E.out, rfl⟩

theorem div32 (x y c : Nat) (hx : x < c) (hy : y < 4294967296) (hc : c < 4294967296) (w : World) :
    Calls Try.prog 135 #[.int .u32 x, .int .u32 y, .int .u32 c] w fun e w' => e = .returned (.tuple #[.int .u32 (((x * 4294967296 + y) / c : Nat) : Int), .int .u32 (((x * 4294967296 + y) % c : Nat) : Int)]) ∧ ∃ n, w' = w.drewN n := by
  have h0 : ((c : Int) == 0) = false := by simp; omega
  have h1 : ((c : Int) != 0) = true := by simp; omega
  have h2 : decide ((c : Int) ≤ (x : Int)) = false := by simp; omega
  have ho := or_add x y hy (by omega)
  have hq : (x * 4294967296 + y) / c < 4294967296 := by
    apply Nat.div_lt_of_lt_mul
    have := Nat.mul_le_mul_right 4294967296 (show x + 1 ≤ c by omega)
    omega
  have hr : (x * 4294967296 + y) % c < c := Nat.mod_lt _ (by omega)
  have E1 : Hid (IntKind.u64.wrap ((bits .or .u64 ((x : Int) * 4294967296) (y : Int)).tdiv (c : Int)) % 4294967296 = (((x * 4294967296 + y) / c : Nat) : Int)) := by
    show _ = _
    rw [ho, Int.tdiv_eq_ediv_of_nonneg (by omega), ← Int.natCast_ediv, wrap64N _ (by omega)]
    generalize (x * 4294967296 + y) / c = z at *
    clear ho hr
    omega
  have E2 : Hid ((bits .or .u64 ((x : Int) * 4294967296) (y : Int)).tmod (c : Int) % 4294967296 = (((x * 4294967296 + y) % c : Nat) : Int)) := by
    show _ = _
    rw [ho, Int.tmod_eq_emod_of_nonneg (by omega), ← Int.natCast_emod]
    generalize (x * 4294967296 + y) % c = z at *
    clear ho hq
    omega
  clear ho hq hr
  go_enter Try.func135, Try.ntmps135
  go_wp2
  go_quiet (fail)
  go_wp2
  go_ret2
  exact ⟨ret_uu E1.out E2.out, _, rfl⟩
set_option maxRecDepth 100000 in
theorem len8tab_size : (Lib.len8tab.size : Int) = 256 := by
  have : Lib.len8tab.size = 256 := by decide
  omega
theorem wrap_add (k a b : Nat) (hk : k ≤ 56) (ha : a ≤ 8) (hb : b = k + a) : wrap64 ((k : Int) + wrap64 (a : Int)) = (b : Int) := by
  unfold wrap64
  omega
theorem wrap_wrap (a : Nat) (ha : a ≤ 8) : wrap64 (wrap64 (a : Int)) = (a : Int) := by
  unfold wrap64
  omega
theorem wrap_one (a : Nat) (ha : a ≤ 8) : wrap64 (a : Int) = (a : Int) := by
  unfold wrap64
  omega
theorem len8_get (y : Int) (h : y.toNat < Lib.len8tab.size) : ((Lib.len8tab[y.toNat]'h).toNat : Int) = Lib.len8 y := by
  unfold Lib.len8
  rw [getElem?_pos Lib.len8tab y.toNat h]
  rfl

set_option maxHeartbeats 4000000 in
set_option maxRecDepth 100000 in
theorem len32 (x : Int) (w : World) (h0 : 0 ≤ x) (h1 : x ≤ 4294967295) :
    Calls Try.prog 87 #[.int .u32 x] w fun e w' => e = .returned (.int .i64 (Lib.bitLen x.toNat)) ∧ w' = w := by
  have hs := len8tab_size
  go_enter Try.func87, Try.ntmps87
  go_wp2
  all_goals (go_ret; refine ⟨congrArg Ending.returned (congrArg (Value.int IntKind.i64) ?_), rfl⟩)
  all_goals first
    | (rw [len8_get (x / 65536 / 256) _, Lib.len8_of (x / 65536 / 256) (by omega) (by omega)]
       have e : (x / 65536 / 256).toNat = x.toNat / 16777216 := by omega
       have l := Lib.bitLen_le8' (x / 65536 / 256) (by omega) (by omega)
       have s := Lib.bitLen_shift24 x.toNat (by omega) (by omega)
       rw [e] at l ⊢
       exact wrap_add 24 _ _ (by decide) l s)
    | (rw [len8_get (x / 65536) _, Lib.len8_of (x / 65536) (by omega) (by omega)]
       have e : (x / 65536).toNat = x.toNat / 65536 := by omega
       have l := Lib.bitLen_le8' (x / 65536) (by omega) (by omega)
       have s := Lib.bitLen_shift16 x.toNat (by omega) (by omega)
       rw [e] at l ⊢
       exact wrap_add 16 _ _ (by decide) l s)
    | (rw [len8_get (x / 256) _, Lib.len8_of (x / 256) (by omega) (by omega)]
       have e : (x / 256).toNat = x.toNat / 256 := by omega
       have l := Lib.bitLen_le8' (x / 256) (by omega) (by omega)
       have s := Lib.bitLen_shift8 x.toNat (by omega) (by omega)
       rw [e] at l ⊢
       exact wrap_add 8 _ _ (by decide) l s)
    | (rw [len8_get (x) _, Lib.len8_of (x) (by omega) (by omega)]
       have l := Lib.bitLen_le8' (x) (by omega) (by omega)
       first | exact wrap_wrap _ l | exact wrap_add 0 _ _ (by decide) l (by omega) | exact wrap_one _ l)

theorem leading32 (x : Int) (w : World) (h0 : 0 ≤ x) (h1 : x ≤ 4294967295) :
    Calls Try.prog 132 #[.int .u32 x] w fun e w' => e = .returned (.int .i64 (32 - (Lib.bitLen x.toNat : Int))) ∧ w' = w := by
  have l : Lib.bitLen x.toNat ≤ 32 := Lib.bitLen_le x.toNat 32 (by omega) (by omega)
  go_enter Try.func132, Try.ntmps132
  go_wp2_with (go_at_call 87; refine (len32 x _ h0 h1).mono ?_; rintro e w' ⟨rfl, rfl⟩)
  go_ret
  exact ⟨rfl, rfl⟩
end Go.Proofs.Ytiefnhpbniaklaa.Nb
