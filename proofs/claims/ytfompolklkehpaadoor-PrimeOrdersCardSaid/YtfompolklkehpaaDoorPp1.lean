/- A part of the proofs, joined of smaller texts: Nmath, Nb, Nmem, Ntrim, Nprod, Nup, Nclone, Nadd, Nback, Ncmp, Nint, Ndown, Nshift, Nsub, Nmul, Ndigit, Ndivmath, Kreg, Nround, Ndivx, Ndivide. -/
import Derived.Test.YtfompolklkehpaaDoorChecked
import Derived.WalkKit
import Derived.Deep.QuietTactic
import Derived.BigQuiet
import Derived.Lib.Hide
import Derived.Lib.Small
import Derived.Lib.Walk
import Derived.Lib.BitFns
import Derived.Lib.ItoaNum
import Derived.Lib.Mul64
import Derived.Laws.Bits64b
import Derived.Lib.SmallJoins
import Derived.Laws.CopyOwn
import Derived.StillTailTactics
import Derived.Outline
import Derived.WalkSpells
import Derived.RangeFuncNested
import Derived.RangeFuncBound
import Derived.RangeFuncCalls
import Derived.RangeFuncLeaves
import Derived.RangeFuncBox
import Derived.Shelf.Abstract
import Derived.Shelf.RegionOpen
import Derived.OwnWalkIn
import Derived.TacticsInMore
import Derived.LoopNIn
import Derived.LoopIn
import Derived.Deep.DeepCutAuto
import Derived.Deep.RegionHeld3

/- Plain mathematics of words of 32 bits: the value of a list of words, the lowest one first. -/
namespace Go.Proofs.YtfompolklkehpaaDoor.Nm

def val : List Nat → Nat
  | [] => 0
  | x :: l => x + 4294967296 * val l
/-- 2^(32 n). -/
def pw : Nat → Nat
  | 0 => 1
  | n + 1 => 4294967296 * pw n
def ok (l : List Nat) : Prop := ∀ x ∈ l, x < 4294967296

theorem pw_pos (n : Nat) : 0 < pw n := by
  induction n with
  | zero => exact Nat.one_pos
  | succ n ih => simp only [pw]; omega
theorem pw_add (m n : Nat) : pw (m + n) = pw m * pw n := by
  induction m with
  | zero => simp [pw]
  | succ m ih => rw [show m + 1 + n = (m + n) + 1 by omega]; simp only [pw, ih, Nat.mul_assoc]
theorem pw_mono {m n : Nat} (h : m ≤ n) : pw m ≤ pw n := by
  obtain ⟨k, rfl⟩ := Nat.exists_eq_add_of_le h
  rw [pw_add]
  exact Nat.le_mul_of_pos_right _ (pw_pos k)
theorem pw_lt {m n : Nat} (h : m < n) : pw m < pw n := by
  have h1 := pw_mono h
  have h2 := pw_pos m
  simp only [pw] at h1
  omega
theorem pw_eq (n : Nat) : pw n = 2 ^ (32 * n) := by
  induction n with
  | zero => rfl
  | succ n ih => rw [show 32 * (n + 1) = 32 * n + 32 by omega, Nat.pow_add, ← ih]; simp only [pw]; omega

theorem ok_nil : ok [] := fun _ h => by cases h
theorem ok_cons {x : Nat} {l : List Nat} : ok (x :: l) ↔ x < 4294967296 ∧ ok l := by
  simp [ok]
theorem ok_append {l m : List Nat} : ok (l ++ m) ↔ ok l ∧ ok m := by
  simp only [ok, List.mem_append]
  exact ⟨fun h => ⟨fun x hx => h x (.inl hx), fun x hx => h x (.inr hx)⟩, fun h x hx => hx.elim (h.1 x) (h.2 x)⟩
theorem ok_take {l : List Nat} (h : ok l) (n : Nat) : ok (l.take n) := fun x hx => h x (List.mem_of_mem_take hx)
theorem ok_drop {l : List Nat} (h : ok l) (n : Nat) : ok (l.drop n) := fun x hx => h x (List.mem_of_mem_drop hx)
theorem ok_get {l : List Nat} (h : ok l) (i : Nat) : l[i]?.getD 0 < 4294967296 := by
  by_cases hi : i < l.length
  · rw [List.getElem?_eq_getElem hi]; exact h _ (List.getElem_mem hi)
  · rw [List.getElem?_eq_none (by omega)]; decide
theorem ok_replicate (n : Nat) : ok (List.replicate n 0) := fun x hx => by rw [(List.mem_replicate.1 hx).2]; decide
theorem ok_set {l : List Nat} (h : ok l) (i x : Nat) (hx : x < 4294967296) : ok (l.set i x) := fun y hy => by
  rcases List.mem_or_eq_of_mem_set hy with h1 | rfl
  · exact h y h1
  · exact hx

theorem val_append (l m : List Nat) : val (l ++ m) = val l + pw l.length * val m := by
  induction l with
  | nil => simp [val, pw]
  | cons x l ih => simp only [List.cons_append, val, List.length_cons, pw, ih, Nat.mul_add, Nat.mul_assoc]; omega
theorem val_replicate (n : Nat) : val (List.replicate n 0) = 0 := by
  induction n with
  | zero => rfl
  | succ n ih => simp [List.replicate_succ, val, ih]
theorem val_lt {l : List Nat} (h : ok l) : val l < pw l.length := by
  induction l with
  | nil => exact Nat.one_pos
  | cons x l ih =>
    have h1 := ok_cons.1 h
    have h2 := ih h1.2
    simp only [val, List.length_cons, pw]
    omega
theorem val_take_drop (l : List Nat) (n : Nat) (hn : n ≤ l.length) : val l = val (l.take n) + pw n * val (l.drop n) := by
  conv => lhs; rw [← List.take_append_drop n l]
  rw [val_append, List.length_take, Nat.min_eq_left hn]
theorem val_take_succ (l : List Nat) (k : Nat) (hk : k < l.length) : val (l.take (k + 1)) = val (l.take k) + pw k * l[k]?.getD 0 := by
  rw [List.take_succ_eq_append_getElem hk, val_append, List.length_take, Nat.min_eq_left (by omega), List.getElem?_eq_getElem hk]
  simp [val]
theorem val_take_lt {l : List Nat} (h : ok l) (k : Nat) : val (l.take k) < pw k := by
  have h1 := val_lt (ok_take h k)
  have h2 : (l.take k).length ≤ k := List.length_take_le _ _
  exact Nat.lt_of_lt_of_le h1 (pw_mono h2)

/-- Without the zero words at the end. -/
def trim (l : List Nat) : List Nat := (l.reverse.dropWhile (· == 0)).reverse
theorem trim_snoc_zero (l : List Nat) : trim (l ++ [0]) = trim l := by simp [trim]
theorem trim_snoc_pos (l : List Nat) (x : Nat) (h : x ≠ 0) : trim (l ++ [x]) = l ++ [x] := by simp [trim, h]
theorem trim_nil : trim [] = [] := rfl
/-- k words are left when trim has ended: those behind them are 0, and the last of them is not. -/
theorem trim_of_take (l : List Nat) (k : Nat) (hk : k ≤ l.length) (h0 : ∀ i, k ≤ i → l[i]?.getD 0 = 0) (h1 : 0 < k → l[k - 1]?.getD 0 ≠ 0) : trim l = l.take k := by
  obtain ⟨d, hd⟩ : ∃ d, l.length = k + d := ⟨l.length - k, by omega⟩
  have e : l = l.take k ++ List.replicate d 0 := by
    apply List.ext_getElem?
    intro i
    by_cases hi : i < k
    · rw [List.getElem?_append_left (by simp; omega), List.getElem?_take, if_pos hi]
    · rw [List.getElem?_append_right (by simp; omega), List.getElem?_replicate, List.length_take, Nat.min_eq_left hk]
      by_cases hl : i < l.length
      · have := h0 i (by omega)
        rw [List.getElem?_eq_getElem hl] at this ⊢
        rw [if_pos (by omega)]
        simpa using this
      · rw [List.getElem?_eq_none (by omega), if_neg (by omega)]
  have t : ∀ d (m : List Nat), trim (m ++ List.replicate d 0) = trim m := by
    intro d
    induction d with
    | zero => simp
    | succ d ih => intro m; rw [List.replicate_succ', ← List.append_assoc, trim_snoc_zero, ih]
  rw [e, t, List.take_append_of_le_length (by simp; omega), List.take_take, Nat.min_self]
  by_cases hk0 : k = 0
  · subst hk0; rfl
  · have hl : k - 1 < l.length := by omega
    have e2 : l.take k = l.take (k - 1) ++ [l[k - 1]] := by
      conv => lhs; rw [show k = (k - 1) + 1 by omega]
      exact List.take_succ_eq_append_getElem hl
    have := h1 (by omega)
    rw [List.getElem?_eq_getElem hl] at this
    rw [e2]
    exact trim_snoc_pos _ _ (by simpa using this)
theorem snoc_ind {P : List Nat → Prop} (h0 : P []) (h1 : ∀ l x, P l → P (l ++ [x])) (l : List Nat) : P l := by
  have h : ∀ r : List Nat, P r.reverse := by
    intro r
    induction r with
    | nil => exact h0
    | cons x r ih => rw [List.reverse_cons]; exact h1 _ _ ih
  have := h l.reverse
  rwa [List.reverse_reverse] at this
theorem val_trim (l : List Nat) : val (trim l) = val l := by
  refine snoc_ind (P := fun l => val (trim l) = val l) ?_ ?_ l
  · rfl
  · intro l x ih
    by_cases hx : x = 0
    · subst hx; rw [trim_snoc_zero, ih, val_append]; simp [val]
    · rw [trim_snoc_pos l x hx]
theorem trim_length_le (l : List Nat) : (trim l).length ≤ l.length := by
  refine snoc_ind (P := fun l => (trim l).length ≤ l.length) ?_ ?_ l
  · exact Nat.le_refl _
  · intro l x ih
    by_cases hx : x = 0
    · subst hx; rw [trim_snoc_zero]; simp; omega
    · rw [trim_snoc_pos l x hx]; exact Nat.le_refl _
theorem ok_trim {l : List Nat} (h : ok l) : ok (trim l) := by
  revert h
  refine snoc_ind (P := fun l => ok l → ok (trim l)) ?_ ?_ l
  · exact id
  · intro l x ih h
    by_cases hx : x = 0
    · subst hx; rw [trim_snoc_zero]; exact ih (ok_append.1 h).1
    · rw [trim_snoc_pos l x hx]; exact h
/-- The last word is not 0, if there is one. -/
def tight (l : List Nat) : Prop := l.length = 0 ∨ l[l.length - 1]?.getD 0 ≠ 0
theorem tight_trim (l : List Nat) : tight (trim l) := by
  refine snoc_ind (P := fun l => tight (trim l)) ?_ ?_ l
  · exact .inl rfl
  · intro l x ih
    by_cases hx : x = 0
    · subst hx; rw [trim_snoc_zero]; exact ih
    · rw [trim_snoc_pos l x hx]; exact .inr (by simpa using hx)
theorem pw_le_val {l : List Nat} (h : tight l) (h0 : l ≠ []) : pw (l.length - 1) ≤ val l := by
  rcases h with h | h
  · exact absurd (List.length_eq_zero_iff.1 h) h0
  · have hl : 0 < l.length := List.length_pos_iff.2 h0
    rw [val_take_drop l (l.length - 1) (by omega)]
    have e : l.drop (l.length - 1) = [l[l.length - 1]] := by
      rw [List.drop_eq_getElem_cons (by omega), List.drop_eq_nil_of_le (by omega)]
    rw [List.getElem?_eq_getElem (by omega), Option.getD_some] at h
    rw [e]
    simp only [val, Nat.mul_zero, Nat.add_zero]
    have : 1 ≤ l[l.length - 1] := by omega
    have := Nat.le_mul_of_pos_right (pw (l.length - 1)) this
    omega
/-- Words of one value and one length are the same. -/
theorem val_inj : ∀ {l m : List Nat}, ok l → ok m → l.length = m.length → val l = val m → l = m
  | [], [], _, _, _, _ => rfl
  | x :: l, y :: m, hl, hm, hn, hv => by
    have h1 := ok_cons.1 hl
    have h2 := ok_cons.1 hm
    simp only [val] at hv
    simp only [List.length_cons, Nat.add_right_cancel_iff] at hn
    have hx : x = y := by omega
    rw [hx, val_inj h1.2 h2.2 hn (by omega)]
  | [], _ :: _, _, _, hn, _ => by simp at hn
  | _ :: _, [], _, _, hn, _ => by simp at hn
theorem length_le_of_val {l m : List Nat} (hm : ok m) (h : tight l) (hv : val l ≤ val m) : l.length ≤ m.length := by
  by_cases h0 : l = []
  · subst h0; simp
  · have h1 := pw_le_val h h0
    have h2 := val_lt hm
    have hl : 0 < l.length := List.length_pos_iff.2 h0
    by_cases hc : l.length ≤ m.length
    · exact hc
    · have := pw_mono (show m.length ≤ l.length - 1 by omega)
      omega
theorem val_inj_tight {l m : List Nat} (hl : ok l) (hm : ok m) (tl : tight l) (tm : tight m) (hv : val l = val m) : l = m :=
  val_inj hl hm (Nat.le_antisymm (length_le_of_val hm tl (by omega)) (length_le_of_val hl tm (by omega))) hv

/-- The words of a number. -/
def digs (n : Nat) : List Nat := if h : n = 0 then [] else n % 4294967296 :: digs (n / 4294967296)
decreasing_by omega
theorem digs_zero : digs 0 = [] := by rw [digs]; rfl
theorem digs_pos {n : Nat} (h : n ≠ 0) : digs n = n % 4294967296 :: digs (n / 4294967296) := by rw [digs]; simp [h]
theorem val_digs (n : Nat) : val (digs n) = n := by
  induction n using Nat.strongRecOn with
  | _ n ih =>
    by_cases h : n = 0
    · subst h; rw [digs_zero]; rfl
    · rw [digs_pos h]; simp only [val]; rw [ih _ (by omega)]; omega
theorem ok_digs (n : Nat) : ok (digs n) := by
  induction n using Nat.strongRecOn with
  | _ n ih =>
    by_cases h : n = 0
    · subst h; rw [digs_zero]; exact ok_nil
    · rw [digs_pos h]; exact ok_cons.2 ⟨by omega, ih _ (by omega)⟩
theorem tight_cons {x : Nat} {l : List Nat} (h : tight l) (h0 : l ≠ [] ∨ x ≠ 0) : tight (x :: l) := by
  cases l with
  | nil => exact .inr (by simpa using h0)
  | cons y l =>
    rcases h with h | h
    · simp at h
    · exact .inr (by simpa using h)
theorem tight_digs (n : Nat) : tight (digs n) := by
  induction n using Nat.strongRecOn with
  | _ n ih =>
    by_cases h : n = 0
    · subst h; rw [digs_zero]; exact .inl rfl
    · rw [digs_pos h]
      refine tight_cons (ih _ (by omega)) ?_
      by_cases h2 : n / 4294967296 = 0
      · exact .inr (by omega)
      · exact .inl (by rw [digs_pos h2]; simp)
theorem trim_eq_digs {l : List Nat} (h : ok l) : trim l = digs (val l) :=
  val_inj_tight (ok_trim h) (ok_digs _) (tight_trim l) (tight_digs _) (by rw [val_trim, val_digs])
theorem digs_val {l : List Nat} (h : ok l) (t : tight l) : digs (val l) = l :=
  val_inj_tight (ok_digs _) h (tight_digs _) t (val_digs _)
theorem digs_inj {m n : Nat} : digs m = digs n ↔ m = n := ⟨fun h => by rw [← val_digs m, ← val_digs n, h], fun h => by rw [h]⟩
/-- A number has at most k words exactly if it is less than 2^(32 k). -/
theorem digs_length_le (n k : Nat) : (digs n).length ≤ k ↔ n < pw k := by
  constructor
  · intro h
    have := val_lt (ok_digs n)
    rw [val_digs] at this
    exact Nat.lt_of_lt_of_le this (pw_mono h)
  · intro h
    by_cases h0 : digs n = []
    · rw [h0]; simp
    · have h1 := pw_le_val (tight_digs n) h0
      rw [val_digs] at h1
      by_cases hc : (digs n).length ≤ k
      · exact hc
      · have := pw_mono (show k ≤ (digs n).length - 1 by omega)
        omega
theorem val_pos {l : List Nat} (t : tight l) (h0 : l ≠ []) : 0 < val l := Nat.lt_of_lt_of_le (pw_pos _) (pw_le_val t h0)
/-- Valid words. -/
def valid (l : List Nat) : Prop := l.length ≤ 64 ∧ tight l
instance (l : List Nat) : Decidable (tight l) := inferInstanceAs (Decidable (_ ∨ _))
instance (l : List Nat) : Decidable (valid l) := inferInstanceAs (Decidable (_ ∧ _))
end Go.Proofs.YtfompolklkehpaaDoor.Nm


/- The contracts of math/bits' Mul32, Add32, Sub32, Div32, Len32, LeadingZeros32 over this seat's translation. -/
namespace Go.Proofs.YtfompolklkehpaaDoor.Nb
open Go.RowKit

theorem ret_uu {a b c d : Int} (h1 : a = c) (h2 : b = d) : Ending.returned (.tuple #[.int .u32 a, .int .u32 b]) = .returned (.tuple #[.int .u32 c, .int .u32 d]) := by rw [h1, h2]

theorem wrap64N (a : Nat) (ha : a < 18446744073709551616) : IntKind.u64.wrap (a : Int) = (a : Int) := by rw [IntKind.wrap_u64]; omega
theorem wrap32N (a : Nat) : IntKind.u32.wrap (a : Int) = ((a % 4294967296 : Nat) : Int) := by rw [IntKind.wrap_u32]; omega
theorem mulN (a b : Nat) : (a : Int) * (b : Int) = ((a * b : Nat) : Int) := (Int.natCast_mul a b).symm
theorem addN (a b : Nat) : (a : Int) + (b : Int) = ((a + b : Nat) : Int) := (Int.natCast_add a b).symm
theorem divN (a : Nat) : (a : Int) / 4294967296 = ((a / 4294967296 : Nat) : Int) := by omega

theorem mul_lt32 {x y : Nat} (hx : x < 4294967296) (hy : y < 4294967296) : x * y ≤ 18446744065119617025 := by
  have := Nat.mul_le_mul (show x ≤ 4294967295 by omega) (show y ≤ 4294967295 by omega)
  omega

theorem bits_u32 (a b : Nat) (ha : a < 4294967296) (hb : b < 4294967296) :
    bits .and .u32 (a : Int) (b : Int) = ((a &&& b : Nat) : Int) ∧ bits .or .u32 (a : Int) (b : Int) = ((a ||| b : Nat) : Int) ∧ bits .xor .u32 (a : Int) (b : Int) = ((a ^^^ b : Nat) : Int) := by
  have x1 : a &&& b < 2 ^ 32 := Nat.and_lt_two_pow _ (by omega)
  have x2 : a ||| b < 2 ^ 32 := Nat.or_lt_two_pow (by omega) (by omega)
  have x3 : a ^^^ b < 2 ^ 32 := Nat.xor_lt_two_pow (by omega) (by omega)
  have h1 : (BitVec.ofInt 32 (a : Int)).toNat = a := by
    rw [BitVec.ofInt_natCast, BitVec.toNat_ofNat]; exact Nat.mod_eq_of_lt (by omega)
  have h2 : (BitVec.ofInt 32 (b : Int)).toNat = b := by
    rw [BitVec.ofInt_natCast, BitVec.toNat_ofNat]; exact Nat.mod_eq_of_lt (by omega)
  refine ⟨?_, ?_, ?_⟩
  · show IntKind.u32.wrap ((BitVec.ofInt 32 (a : Int) &&& BitVec.ofInt 32 (b : Int)).toNat : Int) = _
    rw [BitVec.toNat_and, h1, h2, IntKind.wrap_u32]; omega
  · show IntKind.u32.wrap ((BitVec.ofInt 32 (a : Int) ||| BitVec.ofInt 32 (b : Int)).toNat : Int) = _
    rw [BitVec.toNat_or, h1, h2, IntKind.wrap_u32]; omega
  · show IntKind.u32.wrap ((BitVec.ofInt 32 (a : Int) ^^^ BitVec.ofInt 32 (b : Int)).toNat : Int) = _
    rw [BitVec.toNat_xor, h1, h2, IntKind.wrap_u32]; omega
theorem top (a : Nat) : a.testBit 31 = decide (a / 2147483648 % 2 = 1) := by rw [Nat.testBit_eq_decide_div_mod_eq]
/-- 1, if y is greater than x. -/
def bor (x y : Nat) : Nat := if x < y then 1 else 0
theorem bor_le (x y : Nat) : bor x y ≤ 1 := by unfold bor; split <;> omega
theorem borrow_bit (x y d : Nat) (hx : x < 4294967296) (hy : y < 4294967296) (hd : d = (x + 4294967296 - y) % 4294967296) :
    (((4294967295 ^^^ x) &&& y) ||| ((4294967295 ^^^ (x ^^^ y)) &&& d)) / 2147483648 = bor x y := by
  have t : (((4294967295 ^^^ x) &&& y) ||| ((4294967295 ^^^ (x ^^^ y)) &&& d)).testBit 31 = decide (bor x y = 1) := by
    have m : (4294967295 : Nat).testBit 31 = true := by decide
    simp only [Nat.testBit_or, Nat.testBit_and, Nat.testBit_xor, m, top x, top y, top d]
    unfold bor
    by_cases a1 : x / 2147483648 % 2 = 1 <;> by_cases a2 : y / 2147483648 % 2 = 1 <;> by_cases a3 : d / 2147483648 % 2 = 1 <;> simp [a1, a2, a3] <;> omega
  have l : (((4294967295 ^^^ x) &&& y) ||| ((4294967295 ^^^ (x ^^^ y)) &&& d)) < 2 ^ 32 :=
    Nat.or_lt_two_pow (Nat.and_lt_two_pow _ (by omega)) (Nat.and_lt_two_pow _ (by omega))
  rw [top] at t
  have b := bor_le x y
  generalize (((4294967295 ^^^ x) &&& y) ||| ((4294967295 ^^^ (x ^^^ y)) &&& d)) = E at *
  have t2 : E / 2147483648 % 2 = 1 ↔ bor x y = 1 := by simpa using t
  omega
theorem or_add (x y : Nat) (hy : y < 4294967296) (hx : x < 4294967296) : bits .or .u64 ((x : Int) * 4294967296) (y : Int) = ((x * 4294967296 + y : Nat) : Int) := by
  have h := bits_or_u64_nat (x * 4294967296) y (by omega) (by omega)
  rw [Int.natCast_mul] at h
  rw [show ((x : Int) * 4294967296) = (x : Int) * ((4294967296 : Nat) : Int) by rfl, h]
  congr 1
  have := Nat.shiftLeft_add_eq_or_of_lt (i := 32) (b := y) (by omega) x
  rw [Nat.shiftLeft_eq, show (2 : Nat) ^ 32 = 4294967296 from rfl] at this
  exact this.symm

theorem mul32 (x y : Nat) (hx : x < 4294967296) (hy : y < 4294967296) (w : World) :
    Calls Tryd.prog 103 #[.int .u32 x, .int .u32 y] w fun e w' => e = .returned (.tuple #[.int .u32 ((x * y / 4294967296 : Nat) : Int), .int .u32 ((x * y % 4294967296 : Nat) : Int)]) ∧ w' = w := by
  have h := mul_lt32 hx hy
  have e1 := mulN x y
  have e2 := wrap64N (x * y) (by omega)
  generalize x * y = p at *
  go_enter Tryd.func103, Tryd.ntmps103
  go_wp2
  go_ret2
  refine ⟨ret_uu ?_ ?_, rfl⟩
  all_goals omega

theorem add32 (x y c : Nat) (hx : x < 4294967296) (hy : y < 4294967296) (hc : c < 4294967296) (w : World) :
    Calls Tryd.prog 104 #[.int .u32 x, .int .u32 y, .int .u32 c] w fun e w' => e = .returned (.tuple #[.int .u32 (((x + y + c) % 4294967296 : Nat) : Int), .int .u32 (((x + y + c) / 4294967296 : Nat) : Int)]) ∧ w' = w := by
  go_enter Tryd.func104, Tryd.ntmps104
  go_wp2
  go_ret2
  refine ⟨ret_uu ?_ ?_, rfl⟩
  all_goals omega
/-- x + y. -/
theorem add32_0 (x y : Nat) (hx : x < 4294967296) (hy : y < 4294967296) (w : World) :
    Calls Tryd.prog 104 #[.int .u32 x, .int .u32 y, .int .u32 0] w fun e w' => e = .returned (.tuple #[.int .u32 (((x + y) % 4294967296 : Nat) : Int), .int .u32 (((x + y) / 4294967296 : Nat) : Int)]) ∧ w' = w := by
  simpa using add32 x y 0 hx hy (by decide) w

theorem sub32_0 (x y : Nat) (hx : x < 4294967296) (hy : y < 4294967296) (w : World) :
    Calls Tryd.prog 105 #[.int .u32 x, .int .u32 y, .int .u32 0] w fun e w' => e = .returned (.tuple #[.int .u32 (((x + 4294967296 - y) % 4294967296 : Nat) : Int), .int .u32 (bor x y : Int)]) ∧ w' = w := by
  have hd : ((x : Int) - (y : Int)) % 4294967296 = (((x + 4294967296 - y) % 4294967296 : Nat) : Int) := by omega
  have hb := borrow_bit x y _ hx hy rfl
  have hm : IntKind.u32.max = ((4294967295 : Nat) : Int) := rfl
  have e1 := (bits_u32 4294967295 x (by decide) hx).2.2
  have x1 : 4294967295 ^^^ x < 4294967296 := Nat.xor_lt_two_pow (n := 32) (by omega) (by omega)
  have e2 := (bits_u32 _ y x1 hy).1
  have x2 : (4294967295 ^^^ x) &&& y < 4294967296 := Nat.and_lt_two_pow (n := 32) _ (by omega)
  have e3 := (bits_u32 x y hx hy).2.2
  have x3 : x ^^^ y < 4294967296 := Nat.xor_lt_two_pow (n := 32) (by omega) (by omega)
  have e4 := (bits_u32 4294967295 _ (by decide) x3).2.2
  have x4 : 4294967295 ^^^ (x ^^^ y) < 4294967296 := Nat.xor_lt_two_pow (n := 32) (by omega) (by omega)
  have hdl : (x + 4294967296 - y) % 4294967296 < 4294967296 := Nat.mod_lt _ (by decide)
  have e5 := (bits_u32 _ _ x4 hdl).1
  have x5 : (4294967295 ^^^ (x ^^^ y)) &&& ((x + 4294967296 - y) % 4294967296) < 4294967296 := Nat.and_lt_two_pow (n := 32) _ (by omega)
  have e6 := (bits_u32 _ _ x2 x5).2.1
  have HD := Lib.hid hd
  have HB := Lib.hid hb
  have E : Hid (bits BinOp.or IntKind.u32 (bits BinOp.and IntKind.u32 (bits BinOp.xor IntKind.u32 IntKind.u32.max (x : Int)) (y : Int)) (bits BinOp.and IntKind.u32 (bits BinOp.xor IntKind.u32 IntKind.u32.max (bits BinOp.xor IntKind.u32 (x : Int) (y : Int))) (((x : Int) - (y : Int)) % 4294967296)) / 2147483648 = (bor x y : Int)) := by
    show _ = _
    rw [hd, hm, e1, e2, e3, e4, e5, e6, ← hb]
    rfl
  clear hd hb hm e1 e2 e3 e4 e5 e6 x1 x2 x3 x4 x5 hdl
  go_enter Tryd.func105, Tryd.ntmps105
  go_wp2
  go_ret2
  exact ⟨ret_uu HD.out E.out, rfl⟩

theorem div32 (x y c : Nat) (hx : x < c) (hy : y < 4294967296) (hc : c < 4294967296) (w : World) :
    Calls Tryd.prog 117 #[.int .u32 x, .int .u32 y, .int .u32 c] w fun e w' => e = .returned (.tuple #[.int .u32 (((x * 4294967296 + y) / c : Nat) : Int), .int .u32 (((x * 4294967296 + y) % c : Nat) : Int)]) ∧ ∃ n, w' = w.drewN n := by
  have h0 : ((c : Int) == 0) = false := by simp; omega
  have h1 : ((c : Int) != 0) = true := by simp; omega
  have h2 : decide ((c : Int) ≤ (x : Int)) = false := by simp; omega
  have ho := or_add x y hy (by omega)
  have hq : (x * 4294967296 + y) / c < 4294967296 := by
    apply Nat.div_lt_of_lt_mul
    have := Nat.mul_le_mul_right 4294967296 (show x + 1 ≤ c by omega)
    omega
  have hr : (x * 4294967296 + y) % c < c := Nat.mod_lt _ (by omega)
  have E1 : Hid (IntKind.u64.wrap ((bits .or .u64 ((x : Int) * 4294967296) (y : Int)).tdiv (c : Int)) % 4294967296 = (((x * 4294967296 + y) / c : Nat) : Int)) := by
    show _ = _
    rw [ho, Int.tdiv_eq_ediv_of_nonneg (by omega), ← Int.natCast_ediv, wrap64N _ (by omega)]
    generalize (x * 4294967296 + y) / c = z at *
    clear ho hr
    omega
  have E2 : Hid ((bits .or .u64 ((x : Int) * 4294967296) (y : Int)).tmod (c : Int) % 4294967296 = (((x * 4294967296 + y) % c : Nat) : Int)) := by
    show _ = _
    rw [ho, Int.tmod_eq_emod_of_nonneg (by omega), ← Int.natCast_emod]
    generalize (x * 4294967296 + y) % c = z at *
    clear ho hq
    omega
  clear ho hq hr
  go_enter Tryd.func117, Tryd.ntmps117
  go_wp2
  go_quiet (fail)
  go_wp2
  go_ret2
  exact ⟨ret_uu E1.out E2.out, _, rfl⟩
set_option maxRecDepth 100000 in
theorem len8tab_size : (Lib.len8tab.size : Int) = 256 := by
  have : Lib.len8tab.size = 256 := by decide
  omega
theorem wrap_add (k a b : Nat) (hk : k ≤ 56) (ha : a ≤ 8) (hb : b = k + a) : wrap64 ((k : Int) + wrap64 (a : Int)) = (b : Int) := by
  unfold wrap64
  omega
theorem wrap_wrap (a : Nat) (ha : a ≤ 8) : wrap64 (wrap64 (a : Int)) = (a : Int) := by
  unfold wrap64
  omega
theorem wrap_one (a : Nat) (ha : a ≤ 8) : wrap64 (a : Int) = (a : Int) := by
  unfold wrap64
  omega
theorem len8_get (y : Int) (h : y.toNat < Lib.len8tab.size) : ((Lib.len8tab[y.toNat]'h).toNat : Int) = Lib.len8 y := by
  unfold Lib.len8
  rw [getElem?_pos Lib.len8tab y.toNat h]
  rfl

set_option maxHeartbeats 4000000 in
set_option maxRecDepth 100000 in
theorem len32 (x : Int) (w : World) (h0 : 0 ≤ x) (h1 : x ≤ 4294967295) :
    Calls Tryd.prog 67 #[.int .u32 x] w fun e w' => e = .returned (.int .i64 (Lib.bitLen x.toNat)) ∧ w' = w := by
  have hs := len8tab_size
  go_enter Tryd.func67, Tryd.ntmps67
  go_wp2
  all_goals (go_ret; refine ⟨congrArg Ending.returned (congrArg (Value.int IntKind.i64) ?_), rfl⟩)
  all_goals first
    | (rw [len8_get (x / 65536 / 256) _, Lib.len8_of (x / 65536 / 256) (by omega) (by omega)]
       have e : (x / 65536 / 256).toNat = x.toNat / 16777216 := by omega
       have l := Lib.bitLen_le8' (x / 65536 / 256) (by omega) (by omega)
       have s := Lib.bitLen_shift24 x.toNat (by omega) (by omega)
       rw [e] at l ⊢
       exact wrap_add 24 _ _ (by decide) l s)
    | (rw [len8_get (x / 65536) _, Lib.len8_of (x / 65536) (by omega) (by omega)]
       have e : (x / 65536).toNat = x.toNat / 65536 := by omega
       have l := Lib.bitLen_le8' (x / 65536) (by omega) (by omega)
       have s := Lib.bitLen_shift16 x.toNat (by omega) (by omega)
       rw [e] at l ⊢
       exact wrap_add 16 _ _ (by decide) l s)
    | (rw [len8_get (x / 256) _, Lib.len8_of (x / 256) (by omega) (by omega)]
       have e : (x / 256).toNat = x.toNat / 256 := by omega
       have l := Lib.bitLen_le8' (x / 256) (by omega) (by omega)
       have s := Lib.bitLen_shift8 x.toNat (by omega) (by omega)
       rw [e] at l ⊢
       exact wrap_add 8 _ _ (by decide) l s)
    | (rw [len8_get (x) _, Lib.len8_of (x) (by omega) (by omega)]
       have l := Lib.bitLen_le8' (x) (by omega) (by omega)
       first | exact wrap_wrap _ l | exact wrap_add 0 _ _ (by decide) l (by omega) | exact wrap_one _ l)

theorem leading32 (x : Int) (w : World) (h0 : 0 ≤ x) (h1 : x ≤ 4294967295) :
    Calls Tryd.prog 113 #[.int .u32 x] w fun e w' => e = .returned (.int .i64 (32 - (Lib.bitLen x.toNat : Int))) ∧ w' = w := by
  have l : Lib.bitLen x.toNat ≤ 32 := Lib.bitLen_le x.toNat 32 (by omega) (by omega)
  go_enter Tryd.func113, Tryd.ntmps113
  go_wp2_with (go_at_call 67; refine (len32 x _ h0 h1).mono ?_; rintro e w' ⟨rfl, rfl⟩)
  go_ret
  exact ⟨rfl, rfl⟩
end Go.Proofs.YtfompolklkehpaaDoor.Nb


/- Words in memory: 'Rd': a slice reads as these words; 'Own': it is the call's own; worlds that have grown. Natural numbers as values. -/
namespace Go.Proofs.YtfompolklkehpaaDoor.Ne
open Go.RowKit Go.Proofs.YtfompolklkehpaaDoor.Nm

/-- The slice that begins at p reads as the words l. -/
def Rd (w : World) (p : Option Addr) (l : List Nat) : Prop :=
  l = [] ∨ ∃ b off, p = some ⟨b, off, none⟩ ∧ ∀ i, i < l.length → w.cell? ⟨b, off + i, none⟩ = some (.int .u32 ((l[i]?.getD 0 : Nat) : Int))
theorem Rd.nil (w : World) (p : Option Addr) : Rd w p [] := .inl rfl
theorem Rd.at {w : World} {p : Option Addr} {l : List Nat} (h : Rd w p l) (h0 : 0 < l.length) :
    ∃ b off, p = some ⟨b, off, none⟩ ∧ ∀ i, i < l.length → w.cell? ⟨b, off + i, none⟩ = some (.int .u32 ((l[i]?.getD 0 : Nat) : Int)) := by
  rcases h with rfl | h
  · simp at h0
  · exact h
theorem Rd.below {w w' : World} {p : Option Addr} {l : List Nat} (h : Rd w p l) (hb : Below w.heap.size w w') : Rd w' p l := by
  rcases h with rfl | ⟨b, off, rfl, hc⟩
  · exact .inl rfl
  · refine .inr ⟨b, off, rfl, fun i hi => ?_⟩
    have := hc i hi
    exact (hb.cell (p := ⟨b, off + i, none⟩) (World.block_lt_of_cell? w _ this)).trans this
theorem Rd.drewN {w : World} {p : Option Addr} {l : List Nat} (h : Rd w p l) (n : Nat) : Rd (w.drewN n) p l := h
theorem Rd.take {w : World} {p : Option Addr} {l : List Nat} (h : Rd w p l) (k : Nat) : Rd w p (l.take k) := by
  rcases h with rfl | ⟨b, off, rfl, hc⟩
  · exact .inl (by simp)
  · refine .inr ⟨b, off, rfl, fun i hi => ?_⟩
    have h1 : i < l.length := by simp at hi; omega
    have h2 : i < k := by simp at hi; omega
    rw [hc i h1, List.getElem?_take, if_pos h2]
/-- What a step leaves of what was there. -/
def Gr (w w' : World) : Prop := Below w.heap.size w w'
theorem Gr.refl (w : World) : Gr w w := Below.refl _ _
theorem Gr.trans {a b c : World} (h : Gr a b) (k : Gr b c) : Gr a c := Below.trans h (Below.mono k h.size)
theorem Gr.alloc {a w : World} (h : Gr a w) (o : Obj) : Gr a (w.alloc o) := Below.alloc h h.size o
theorem Gr.setCell {a w : World} (h : Gr a w) {p : Addr} (hp : a.heap.size ≤ p.block) (u : Value) : Gr a (w.setCell p u) := Below.setCell h hp u
theorem Gr.drew {a w : World} (h : Gr a w) : Gr a w.drew := Below.drew h
theorem Gr.drewN {a w : World} (h : Gr a w) (n : Nat) : Gr a (w.drewN n) := ⟨h.os, h.tape, h.output, h.size, h.block⟩
theorem Gr.cell {w w' : World} (h : Gr w w') {p : Addr} {v : Value} (hc : w.cell? p = some v) : w'.cell? p = some v :=
  (Below.cell h (World.block_lt_of_cell? w p hc)).trans hc
theorem Gr.frozen {w w' : World} (h : Gr w w') {p : Addr} {v : Value} (hc : w.cell? p = some v) (hf : w.frozen? p = false) : w'.frozen? p = false :=
  (Below.frozen h (World.block_lt_of_cell? w p hc)).trans hf
theorem Gr.rd {w w' : World} (h : Gr w w') {p : Option Addr} {l : List Nat} (hr : Rd w p l) : Rd w' p l := hr.below h
theorem Gr.le {w w' : World} (h : Gr w w') : w.heap.size ≤ w'.heap.size := Below.size h

theorem _root_.Go.RowKit.Below.cell' {w w' : World} (h : Below w.heap.size w w') {p : Addr} {v : Value} (hc : w.cell? p = some v) : w'.cell? p = some v := Gr.cell h hc
theorem _root_.Go.RowKit.Below.frozen' {w w' : World} (h : Below w.heap.size w w') {p : Addr} {v : Value} (hc : w.cell? p = some v) (hf : w.frozen? p = false) : w'.frozen? p = false := Gr.frozen h hc hf
/-- The value v is a slice of words of the call's own (in blocks from B on), with these words. -/
def Own (B : Nat) (w : World) (p : Option Addr) (l : List Nat) : Prop :=
  l = [] ∨ ∃ b off, p = some ⟨b, off, none⟩ ∧ B ≤ b ∧ ∀ i, i < l.length → w.cell? ⟨b, off + i, none⟩ = some (.int .u32 ((l[i]?.getD 0 : Nat) : Int)) ∧ w.frozen? ⟨b, off + i, none⟩ = false
theorem Own.rd {B : Nat} {w : World} {p : Option Addr} {l : List Nat} (h : Own B w p l) : Rd w p l := by
  rcases h with rfl | ⟨b, off, rfl, _, hc⟩
  · exact .inl rfl
  · exact .inr ⟨b, off, rfl, fun i hi => (hc i hi).1⟩
theorem Own.mono {B B' : Nat} {w : World} {p : Option Addr} {l : List Nat} (h : Own B w p l) (hB : B' ≤ B) : Own B' w p l := by
  rcases h with rfl | ⟨b, off, rfl, hb, hc⟩
  · exact .inl rfl
  · exact .inr ⟨b, off, rfl, Nat.le_trans hB hb, hc⟩
theorem Own.grow {B : Nat} {w w' : World} {p : Option Addr} {l : List Nat} (h : Own B w p l) (g : Gr w w') : Own B w' p l := by
  rcases h with rfl | ⟨b, off, rfl, hb, hc⟩
  · exact .inl rfl
  · exact .inr ⟨b, off, rfl, hb, fun i hi => ⟨g.cell (hc i hi).1, g.frozen (hc i hi).1 (hc i hi).2⟩⟩
theorem Own.take {B : Nat} {w : World} {p : Option Addr} {l : List Nat} (h : Own B w p l) (k : Nat) : Own B w p (l.take k) := by
  rcases h with rfl | ⟨b, off, rfl, hb, hc⟩
  · exact .inl (by simp)
  · refine .inr ⟨b, off, rfl, hb, fun i hi => ?_⟩
    have h1 : i < l.length := by simp at hi; omega
    have h2 : i < k := by simp at hi; omega
    rw [List.getElem?_take, if_pos h2]
    exact hc i h1
theorem Own.nil (B : Nat) (w : World) (p : Option Addr) : Own B w p [] := .inl rfl
end Go.Proofs.YtfompolklkehpaaDoor.Ne


/- The contracts of natural's Valid, trim, fit, Bits, Bit over this seat's translation. -/
namespace Go.Proofs.YtfompolklkehpaaDoor.Nf
open Go.RowKit Go.Proofs.YtfompolklkehpaaDoor.Nm Go.Proofs.YtfompolklkehpaaDoor.Ne

theorem ret_slice {p : Option Addr} {a b c : Nat} (h : a = b) : Ending.returned (.slice p a c) = .returned (.slice p b c) := by rw [h]
theorem ret_bool {a b : Bool} (h : a = b) : Ending.returned (.bool a) = .returned (.bool b) := by rw [h]

set_option maxHeartbeats 1000000 in
theorem trim_any (p : Option Addr) (l : List Nat) (cap : Nat) (hn : l.length ≤ cap) (hcap : l.length ≤ 1099511627776) (w : World) (h : Rd w p l) :
    Calls Tryd.prog 106 #[.slice p l.length cap] w fun e w' => e = .returned (.slice p (trim l).length cap) ∧ w' = w := by
  have H := Lib.hid h
  clear h
  go_enter Tryd.func106, Tryd.ntmps106
  go_wp2
  go_loop [3] (fun s => ∃ k : Nat, k ≤ l.length ∧ s = .int .i64 k ∧ Hid (∀ i, k ≤ i → l[i]?.getD 0 = 0)) (fun s => (intOf s).toNat)
  case atStart => exact ⟨l.length, Nat.le_refl _, rfl, fun i hi => by rw [List.getElem?_eq_none hi]; rfl⟩
  case round =>
    obtain ⟨k, hk, rfl, hz⟩ := hrel
    by_cases hk0 : k = 0
    · subst hk0
      go_wp2
      go_ret
      have e := trim_of_take l 0 (Nat.zero_le _) hz.out (fun h => absurd h (Nat.lt_irrefl 0))
      exact ⟨ret_slice (by rw [e]; simp), rfl⟩
    · obtain ⟨j, rfl⟩ : ∃ j, k = j + 1 := ⟨k - 1, by omega⟩
      clear hk0
      obtain ⟨b, off, rfl, hc⟩ := H.out.at (by omega)
      have hcj := hc j (by omega)
      clear hc
      obtain ⟨x, hx⟩ : ∃ x, l[j]?.getD 0 = x := ⟨_, rfl⟩
      rw [hx] at hcj
      have HX := Lib.hid hx
      clear hx
      by_cases hx0 : x = 0
      · subst hx0
        go_wp2
        go_round
        case rel => exact ⟨j, by omega, by go_num, fun i hi => by
          by_cases hij : i = j
          · subst hij; exact HX.out
          · exact hz.out i (by omega)⟩
        case measure => simp [intOf]
      · have hx1 : ((x : Int) == 0) = false := by simp; omega
        go_wp2
        go_ret
        have e := trim_of_take l (j + 1) hk hz.out (fun _ => by rw [Nat.add_sub_cancel, HX.out]; exact hx0)
        exact ⟨ret_slice (by rw [e, List.length_take]; omega), rfl⟩

theorem valid_long {l : List Nat} (h : 64 < l.length) : decide (valid l) = false := decide_eq_false fun hv => by have := hv.1; omega
theorem valid_nil : decide (valid []) = true := by decide
theorem valid_last {l : List Nat} (h : l.length ≤ 64) (h0 : 0 < l.length) : decide (valid l) = decide (l[l.length - 1]?.getD 0 ≠ 0) := by
  apply decide_eq_decide.2
  unfold valid Nm.tight
  constructor
  · rintro ⟨_, h1 | h1⟩
    · omega
    · exact h1
  · exact fun h1 => ⟨h, .inr h1⟩

set_option maxHeartbeats 1000000 in
theorem Valid_any (p : Option Addr) (l : List Nat) (cap : Nat) (hcap : l.length ≤ 1099511627776) (w : World) (h : Rd w p l) :
    Calls Tryd.prog 42 #[.agg #[.slice p l.length cap]] w fun e w' => e = .returned (.bool (decide (valid l))) ∧ Gr w w' := by
  have H := Lib.hid h
  clear h
  by_cases h64 : 64 < l.length
  · have HV := Lib.hid (valid_long h64)
    go_enter Tryd.func42, Tryd.ntmps42
    go_wp2
    go_ret
    exact ⟨ret_bool HV.out.symm, (Gr.refl _).alloc _⟩
  by_cases h0 : l.length = 0
  · obtain rfl := List.length_eq_zero_iff.1 h0
    clear h0
    simp only [List.length_nil] at *
    go_enter Tryd.func42, Tryd.ntmps42
    go_wp2
    go_ret
    exact ⟨ret_bool valid_nil.symm, (Gr.refl _).alloc _⟩
  obtain ⟨b, off, rfl, hc⟩ := H.out.at (by omega)
  have hcj := hc (l.length - 1) (by omega)
  have HV := Lib.hid (valid_last (l := l) (by omega) (by omega))
  obtain ⟨x, hx⟩ : ∃ x, l[l.length - 1]?.getD 0 = x := ⟨_, rfl⟩
  rw [hx] at hcj HV
  clear hx hc H
  generalize hn : l.length = n at *
  obtain ⟨j, rfl⟩ : ∃ j, n = j + 1 := ⟨n - 1, by omega⟩
  clear hn h0
  rw [Nat.add_sub_cancel] at hcj
  have hj0 : ((j : Int) + 1 == 0) = false := by simp; omega
  have hb : b < w.heap.size := World.block_lt_of_cell? w _ hcj
  by_cases hx0 : x = 0
  · subst hx0
    go_enter Tryd.func42, Tryd.ntmps42
    go_wp2
    go_ret
    exact ⟨ret_bool (by rw [HV.out]; rfl), (Gr.refl _).alloc _⟩
  · have hx1 : ((x : Int) == 0) = false := by simp; omega
    have hx2 : ((x : Int) != 0) = true := by simp; omega
    have HX := Lib.hid hx0
    clear hx0
    go_enter Tryd.func42, Tryd.ntmps42
    go_wp2
    go_ret
    exact ⟨ret_bool (by rw [HV.out, decide_eq_true HX.out]), (Gr.refl _).alloc _⟩

set_option maxHeartbeats 1000000 in
/-- Words that fit. -/
theorem fit_ok (p : Option Addr) (l : List Nat) (cap : Nat) (hn : l.length ≤ cap) (hcap : l.length ≤ 1099511627776) (w : World) (h : Rd w p l) (h64 : (trim l).length ≤ 64) :
    Calls Tryd.prog 82 #[.slice p l.length cap] w fun e w' => e = .returned (.tuple #[.agg #[.slice p (trim l).length cap], .int .i64 0]) ∧ Gr w w' := by
  have H := Lib.hid (fun w h => trim_any p l cap hn hcap w h)
  have HR := Lib.hid h
  have ht := trim_length_le l
  clear h
  go_enter Tryd.func82, Tryd.ntmps82
  go_wp2_with fail
  refine (H.out _ (((Gr.refl _).alloc _).rd HR.out)).mono ?_
  rintro e w' ⟨rfl, rfl⟩
  go_wp2
  exact bodyPost_ret (v := .tuple #[.agg #[.slice p (trim l).length cap], .int .i64 0]) (by simp [results, Tryd.results82, go_sem]) rfl ⟨rfl, (Gr.refl _).alloc _⟩
set_option maxHeartbeats 1000000 in
theorem fit_big (p : Option Addr) (l : List Nat) (cap : Nat) (hn : l.length ≤ cap) (hcap : l.length ≤ 1099511627776) (w : World) (h : Rd w p l) (h64 : 64 < (trim l).length) :
    Calls Tryd.prog 82 #[.slice p l.length cap] w fun e w' => e = .returned (.tuple #[.agg #[.slice none 0 0], .int .i64 9]) ∧ Gr w w' := by
  have H := Lib.hid (fun w h => trim_any p l cap hn hcap w h)
  have HR := Lib.hid h
  have ht := trim_length_le l
  clear h
  go_enter Tryd.func82, Tryd.ntmps82
  go_wp2_with fail
  refine (H.out _ (((Gr.refl _).alloc _).rd HR.out)).mono ?_
  rintro e w' ⟨rfl, rfl⟩
  go_wp2
  exact bodyPost_ret (v := .tuple #[.agg #[.slice none 0 0], .int .i64 9]) (by simp [results, Tryd.results82, go_sem]) rfl ⟨rfl, (Gr.refl _).alloc _⟩

/-- The number of bits of words. -/
def nbits (l : List Nat) : Nat := if l = [] then 0 else 32 * (l.length - 1) + Lib.bitLen (l[l.length - 1]?.getD 0)

set_option maxHeartbeats 1000000 in
theorem Bits_bad (p : Option Addr) (l : List Nat) (cap : Nat) (hcap : l.length ≤ 1099511627776) (w : World) (h : Rd w p l) (hv : decide (valid l) = false) :
    Calls Tryd.prog 43 #[.agg #[.slice p l.length cap]] w fun e w' => e = .returned (.int .i64 0) ∧ Gr w w' := by
  have H := Lib.hid (fun w h => Valid_any p l cap hcap w h)
  have HR := Lib.hid h
  have HV := Lib.hid hv
  clear h hv
  go_enter Tryd.func43, Tryd.ntmps43
  go_wp2_with fail
  refine (H.out _ (((Gr.refl _).alloc _).rd HR.out)).mono ?_
  rintro e w1 ⟨rfl, hg⟩
  rw [HV.out]
  go_wp2
  go_ret
  exact ⟨rfl, ((Gr.refl _).alloc _).trans hg⟩
set_option maxHeartbeats 1000000 in
theorem Bits_ok (p : Option Addr) (l : List Nat) (cap : Nat) (w : World) (h : Rd w p l) (hv : decide (valid l) = true) (hok : ok l) :
    Calls Tryd.prog 43 #[.agg #[.slice p l.length cap]] w fun e w' => e = .returned (.int .i64 (nbits l)) ∧ Gr w w' := by
  have h64 := (of_decide_eq_true hv).1
  have H := Lib.hid (fun w h => Valid_any p l cap (by omega) w h)
  have HR := Lib.hid h
  have HV := Lib.hid hv
  clear h hv
  by_cases h0 : l.length = 0
  · obtain rfl := List.length_eq_zero_iff.1 h0
    clear h0 h64
    simp only [List.length_nil] at *
    go_enter Tryd.func43, Tryd.ntmps43
    go_wp2_with fail
    refine (H.out _ (((Gr.refl _).alloc _).rd HR.out)).mono ?_
    rintro e w1 ⟨rfl, hg⟩
    rw [HV.out]
    have hcell := hg.cell (World.cell?_alloc_new (w := w) #[.slice p 0 cap] 43 0)
    go_wp2
    go_ret
    exact ⟨rfl, ((Gr.refl _).alloc _).trans hg⟩
  · obtain ⟨b, off, rfl, hc⟩ := HR.out.at (by omega)
    have hcj := hc (l.length - 1) (by omega)
    have HN : Hid (nbits l = 32 * (l.length - 1) + Lib.bitLen (l[l.length - 1]?.getD 0)) := Lib.hid (by unfold nbits; rw [if_neg (fun e => h0 (by rw [e]; rfl))])
    have hx1 := ok_get hok (l.length - 1)
    have hl := Lib.bitLen_le (l[l.length - 1]?.getD 0) 32 (by omega) (by omega)
    obtain ⟨x, hx⟩ : ∃ x, l[l.length - 1]?.getD 0 = x := ⟨_, rfl⟩
    rw [hx] at hcj HN hx1 hl
    clear hx hc hok
    generalize nbits l = N at *
    generalize hn : l.length = n at *
    obtain ⟨j, rfl⟩ : ∃ j, n = j + 1 := ⟨n - 1, by omega⟩
    clear hn h0
    rw [Nat.add_sub_cancel] at hcj HN
    have hj0 : ((j : Int) + 1 == 0) = false := by simp; omega
    have HL := Lib.hid (fun w => Nb.len32 (x : Int) w (by omega) (by omega))
    simp only [Int.toNat_natCast] at HL
    generalize Lib.bitLen x = B at *
    go_enter Tryd.func43, Tryd.ntmps43
    go_wp2_with fail
    refine (H.out _ (((Gr.refl _).alloc _).rd HR.out)).mono ?_
    rintro e w1 ⟨rfl, hg⟩
    rw [HV.out]
    have hcell := hg.cell (World.cell?_alloc_new (w := w) #[.slice (some ⟨b, off, none⟩) (j + 1) cap] 43 0)
    have hcj1 := (((Gr.refl w).alloc _).trans hg).cell hcj
    clear hcj
    go_wp2_with fail
    refine (HL.out _).mono ?_
    rintro e w2 ⟨rfl, rfl⟩
    go_wp2
    go_ret
    exact ⟨congrArg Ending.returned (congrArg (Value.int IntKind.i64) (by rw [HN.out]; omega)), ((Gr.refl _).alloc _).trans hg⟩
end Go.Proofs.YtfompolklkehpaaDoor.Nf


/- The contracts of natural's addProduct and takeProduct: words of the call's own, written in place. -/
namespace Go.Proofs.YtfompolklkehpaaDoor.Ne
open Go.RowKit Go.Proofs.YtfompolklkehpaaDoor.Nm

/-- w' is w with words of block b, n of them from off on, perhaps written. -/
structure Wr (b off n : Nat) (w w' : World) : Prop where
  os : w'.os = w.os
  tape : w'.tape = w.tape
  output : w'.output = w.output
  size : w'.heap.size = w.heap.size
  block : ∀ k, k ≠ b → w'.heap[k]? = w.heap[k]?
  cell : ∀ i, i < off ∨ off + n ≤ i → w'.cell? ⟨b, i, none⟩ = w.cell? ⟨b, i, none⟩
  frozen : ∀ a, w'.frozen? a = w.frozen? a
theorem Wr.refl (b off n : Nat) (w : World) : Wr b off n w w := ⟨rfl, rfl, rfl, rfl, fun _ _ => rfl, fun _ _ => rfl, fun _ => rfl⟩
theorem Wr.trans {b off n : Nat} {u v w : World} (h : Wr b off n u v) (k : Wr b off n v w) : Wr b off n u w :=
  ⟨k.os.trans h.os, k.tape.trans h.tape, k.output.trans h.output, k.size.trans h.size, fun i hi => (k.block i hi).trans (h.block i hi), fun i hi => (k.cell i hi).trans (h.cell i hi), fun a => (k.frozen a).trans (h.frozen a)⟩
theorem Wr.drewN {b off n : Nat} {u v : World} (h : Wr b off n u v) (m : Nat) : Wr b off n u (v.drewN m) := ⟨h.os, h.tape, h.output, h.size, h.block, h.cell, h.frozen⟩
theorem Wr.setCell {b off n : Nat} {u v : World} (h : Wr b off n u v) (k : Nat) (hk : k < n) (x : Value) : Wr b off n u (v.setCell ⟨b, off + k, none⟩ x) := by
  refine h.trans ⟨rfl, rfl, rfl, by simp [World.setCell], fun i hi => Below.heap_setCell _ _ _ _ hi, fun i hi => ?_, fun a => World.frozen?_setCell _ _ _ _⟩
  exact World.cell?_setCell_other _ _ _ _ (by intro e; simp at e <;> omega)
theorem Wr.gr {b off n : Nat} {u v w : World} (g : Gr u v) (h : Wr b off n v w) (hb : u.heap.size ≤ b) : Gr u w :=
  ⟨h.os.trans g.os, h.tape.trans g.tape, h.output.trans g.output, by rw [h.size]; exact g.size, fun k hk => (h.block k (by omega)).trans (g.block k hk)⟩
theorem Wr.cellOf {b off n : Nat} {u v : World} (h : Wr b off n u v) {b' o : Nat} (hb : b' ≠ b) : v.cell? ⟨b', o, none⟩ = u.cell? ⟨b', o, none⟩ := World.cell?_of_block (w := u) (h.block b' hb)

/-- Block b holds the words l from off on, and they may be written. -/
def Hold (w : World) (b off : Nat) (l : List Nat) : Prop :=
  ∀ i, i < l.length → w.cell? ⟨b, off + i, none⟩ = some (.int .u32 ((l[i]?.getD 0 : Nat) : Int)) ∧ w.frozen? ⟨b, off + i, none⟩ = false
theorem Hold.set {w : World} {b off : Nat} {l : List Nat} (h : Hold w b off l) (k x : Nat) (hk : k < l.length) : Hold (w.setCell ⟨b, off + k, none⟩ (.int .u32 (x : Int))) b off (l.set k x) := by
  intro i hi
  rw [List.length_set] at hi
  refine ⟨?_, by rw [World.frozen?_setCell]; exact (h i hi).2⟩
  by_cases e : i = k
  · subst e
    rw [World.cell?_setCell_same' _ _ _ (by rw [(h i hi).1]; rfl)]
    simp [hi]
  · rw [World.cell?_setCell_other _ _ _ _ (by intro e2; simp at e2 <;> omega), (h i hi).1, List.getElem?_set_ne (by omega)]
/-- The slice at q reads as the words t, and does not lie in block b. -/
def RdN (b : Nat) (w : World) (q : Option Addr) (t : List Nat) : Prop :=
  t = [] ∨ ∃ b' off', q = some ⟨b', off', none⟩ ∧ b' ≠ b ∧ ∀ i, i < t.length → w.cell? ⟨b', off' + i, none⟩ = some (.int .u32 ((t[i]?.getD 0 : Nat) : Int))
theorem RdN.at {b : Nat} {w : World} {q : Option Addr} {t : List Nat} (h : RdN b w q t) (h0 : 0 < t.length) :
    ∃ b' off', q = some ⟨b', off', none⟩ ∧ b' ≠ b ∧ ∀ i, i < t.length → w.cell? ⟨b', off' + i, none⟩ = some (.int .u32 ((t[i]?.getD 0 : Nat) : Int)) := by
  rcases h with rfl | h
  · simp at h0
  · exact h
theorem RdN.wr {b off n : Nat} {w w' : World} {q : Option Addr} {t : List Nat} (h : RdN b w q t) (k : Wr b off n w w') : RdN b w' q t := by
  rcases h with rfl | ⟨b', off', rfl, hb, hc⟩
  · exact .inl rfl
  · exact .inr ⟨b', off', rfl, hb, fun i hi => (k.cellOf hb).trans (hc i hi)⟩
theorem RdN.of {b : Nat} {u w : World} {q : Option Addr} {t : List Nat} (h : Rd u q t) (g : Gr u w) (hb : u.heap.size ≤ b) : RdN b w q t := by
  rcases h with rfl | ⟨b', off', rfl, hc⟩
  · exact .inl rfl
  · by_cases h0 : t = []
    · exact .inl h0
    · refine .inr ⟨b', off', rfl, ?_, fun i hi => g.cell (hc i hi)⟩
      have := World.block_lt_of_cell? u _ (hc 0 (List.length_pos_iff.2 h0))
      simp at this
      omega

/-- k words have been added, the carry is c. -/
def AddAt (b off : Nat) (s : List Nat) (T : Nat) (w : World) (k c : Nat) (wr : World) : Prop :=
  ∃ r : List Nat, r.length = s.length ∧ ok r ∧ Hold wr b off r ∧ r.drop k = s.drop k ∧ val (r.take k) + pw k * c = val (s.take k) + T ∧ Wr b off s.length w wr
theorem val_set_take (r : List Nat) (k v : Nat) (hk : k < r.length) : val ((r.set k v).take (k + 1)) = val (r.take k) + pw k * v := by
  rw [val_take_succ _ _ (by simpa using hk), List.take_set_of_le (Nat.le_refl _)]
  simp [hk]
theorem get_of_drop {r s : List Nat} {k : Nat} (h : r.drop k = s.drop k) : r[k]?.getD 0 = s[k]?.getD 0 := by
  have := congrArg (fun l : List Nat => l[0]?) h
  simp at this
  rw [this]
theorem drop_set {r s : List Nat} {k : Nat} (h : r.drop k = s.drop k) (v : Nat) : (r.set k v).drop (k + 1) = s.drop (k + 1) := by
  rw [List.drop_set_of_lt (by omega)]
  have := congrArg (List.drop 1) h
  simpa [List.drop_drop, Nat.add_comm] using this
theorem AddAt.start {b off : Nat} {s : List Nat} {w : World} (hs : Hold w b off s) (hok : ok s) : AddAt b off s 0 w 0 0 w :=
  ⟨s, rfl, hok, hs, rfl, by simp [pw], Wr.refl _ _ _ _⟩
theorem AddAt.word {b off : Nat} {s : List Nat} {T : Nat} {w : World} {k c : Nat} {wr : World} (h : AddAt b off s T w k c wr) (hk : k < s.length) :
    wr.cell? ⟨b, off + k, none⟩ = some (.int .u32 ((s[k]?.getD 0 : Nat) : Int)) ∧ wr.frozen? ⟨b, off + k, none⟩ = false := by
  obtain ⟨r, hl, _, hh, hd, _⟩ := h
  have := hh k (by omega)
  rwa [get_of_drop hd] at this
theorem AddAt.step {b off : Nat} {s : List Nat} {T T' : Nat} {w : World} {k c c' v : Nat} {wr : World} (h : AddAt b off s T w k c wr) (hk : k < s.length) (hv : v < 4294967296)
    (e : pw k * (v + 4294967296 * c') + T = pw k * (c + s[k]?.getD 0) + T') : AddAt b off s T' w (k + 1) c' (wr.setCell ⟨b, off + k, none⟩ (.int .u32 (v : Int))) := by
  obtain ⟨r, hl, ho, hh, hd, hv1, hw⟩ := h
  refine ⟨r.set k v, by simpa using hl, ok_set ho _ _ hv, hh.set k v (by omega), drop_set hd v, ?_, hw.setCell k (by omega) _⟩
  rw [val_set_take _ _ _ (by omega), val_take_succ _ _ hk]
  simp only [pw]
  rw [Nat.mul_add] at e
  rw [Nat.mul_add] at e
  rw [show 4294967296 * pw k * c' = pw k * (4294967296 * c') by rw [Nat.mul_comm 4294967296, Nat.mul_assoc]]
  omega
/-- The same, subtracting. -/
def SubAt (b off : Nat) (s : List Nat) (T : Nat) (w : World) (k c : Nat) (wr : World) : Prop :=
  ∃ r : List Nat, r.length = s.length ∧ ok r ∧ Hold wr b off r ∧ r.drop k = s.drop k ∧ val (r.take k) + T = val (s.take k) + pw k * c ∧ Wr b off s.length w wr
theorem SubAt.start {b off : Nat} {s : List Nat} {w : World} (hs : Hold w b off s) (hok : ok s) : SubAt b off s 0 w 0 0 w :=
  ⟨s, rfl, hok, hs, rfl, by simp [pw], Wr.refl _ _ _ _⟩
theorem SubAt.word {b off : Nat} {s : List Nat} {T : Nat} {w : World} {k c : Nat} {wr : World} (h : SubAt b off s T w k c wr) (hk : k < s.length) :
    wr.cell? ⟨b, off + k, none⟩ = some (.int .u32 ((s[k]?.getD 0 : Nat) : Int)) ∧ wr.frozen? ⟨b, off + k, none⟩ = false := by
  obtain ⟨r, hl, _, hh, hd, _⟩ := h
  have := hh k (by omega)
  rwa [get_of_drop hd] at this
theorem SubAt.step {b off : Nat} {s : List Nat} {T T' : Nat} {w : World} {k c c' v : Nat} {wr : World} (h : SubAt b off s T w k c wr) (hk : k < s.length) (hv : v < 4294967296)
    (e : pw k * (v + c) + T' = pw k * (s[k]?.getD 0 + 4294967296 * c') + T) : SubAt b off s T' w (k + 1) c' (wr.setCell ⟨b, off + k, none⟩ (.int .u32 (v : Int))) := by
  obtain ⟨r, hl, ho, hh, hd, hv1, hw⟩ := h
  refine ⟨r.set k v, by simpa using hl, ok_set ho _ _ hv, hh.set k v (by omega), drop_set hd v, ?_, hw.setCell k (by omega) _⟩
  rw [val_set_take _ _ _ (by omega), val_take_succ _ _ hk]
  simp only [pw]
  rw [Nat.mul_add, Nat.mul_add] at e
  rw [show 4294967296 * pw k * c' = pw k * (4294967296 * c') by rw [Nat.mul_comm 4294967296, Nat.mul_assoc]]
  omega

/-- The sums of one word of a product: low word v, carry c'. -/
theorem add_word {w x c y hi lo : Nat} (hw : w < 4294967296) (hx : x < 4294967296) (hc : c < 4294967296) (hy : y < 4294967296) (e : hi * 4294967296 + lo = w * x) :
    hi + (lo + c) / 4294967296 + ((lo + c) % 4294967296 + y) / 4294967296 < 4294967296 ∧
    ((lo + c) % 4294967296 + y) % 4294967296 + 4294967296 * (hi + (lo + c) / 4294967296 + ((lo + c) % 4294967296 + y) / 4294967296) = w * x + c + y := by
  have := Nb.mul_lt32 hw hx
  omega
theorem sub_word {w x c y hi lo : Nat} (hw : w < 4294967296) (hx : x < 4294967296) (hc : c < 4294967296) (hy : y < 4294967296) (e : hi * 4294967296 + lo = w * x) :
    hi + (lo + c) / 4294967296 + Nb.bor y ((lo + c) % 4294967296) < 4294967296 ∧
    (y + 4294967296 - (lo + c) % 4294967296) % 4294967296 + (w * x + c) = y + 4294967296 * (hi + (lo + c) / 4294967296 + Nb.bor y ((lo + c) % 4294967296)) := by
  have := Nb.mul_lt32 hw hx
  unfold Nb.bor
  split <;> omega

def Mul32At (x y : Nat) (w : World) (e : Ending) (w' : World) : Prop :=
  ∃ hi lo : Nat, e = .returned (.tuple #[.int .u32 (hi : Int), .int .u32 (lo : Int)]) ∧ w' = w ∧ hi * 4294967296 + lo = x * y ∧ lo < 4294967296 ∧ hi < 4294967296
theorem mul32_at (x y : Nat) (hx : x < 4294967296) (hy : y < 4294967296) (w : World) : Calls Tryd.prog 103 #[.int .u32 x, .int .u32 y] w (Mul32At x y w) :=
  (Nb.mul32 x y hx hy w).mono fun _ _ ⟨he, hw⟩ => ⟨_, _, he, hw, by have := Nb.mul_lt32 hx hy; omega⟩
def Add32At (x y : Nat) (w : World) (e : Ending) (w' : World) : Prop :=
  ∃ s c : Nat, e = .returned (.tuple #[.int .u32 (s : Int), .int .u32 (c : Int)]) ∧ w' = w ∧ s = (x + y) % 4294967296 ∧ c = (x + y) / 4294967296 ∧ s < 4294967296 ∧ c ≤ 1
theorem add32_at (x y : Nat) (hx : x < 4294967296) (hy : y < 4294967296) (w : World) : Calls Tryd.prog 104 #[.int .u32 x, .int .u32 y, .int .u32 0] w (Add32At x y w) :=
  (Nb.add32_0 x y hx hy w).mono fun _ _ ⟨he, hw⟩ => ⟨_, _, he, hw, rfl, rfl, by omega⟩
def Sub32At (x y : Nat) (w : World) (e : Ending) (w' : World) : Prop :=
  ∃ s c : Nat, e = .returned (.tuple #[.int .u32 (s : Int), .int .u32 (c : Int)]) ∧ w' = w ∧ s = (x + 4294967296 - y) % 4294967296 ∧ c = Nb.bor x y ∧ s < 4294967296 ∧ c ≤ 1
theorem sub32_at (x y : Nat) (hx : x < 4294967296) (hy : y < 4294967296) (w : World) : Calls Tryd.prog 105 #[.int .u32 x, .int .u32 y, .int .u32 0] w (Sub32At x y w) :=
  (Nb.sub32_0 x y hx hy w).mono fun _ _ ⟨he, hw⟩ => ⟨_, _, he, hw, rfl, rfl, Nat.mod_lt _ (by decide), Nb.bor_le x y⟩

/-- What addProduct has done when it returns. -/
def Added (b off : Nat) (s : List Nat) (T : Nat) (w : World) (e : Ending) (w' : World) : Prop :=
  ∃ (c : Nat) (r : List Nat), e = .returned (.int .u32 (c : Int)) ∧ r.length = s.length ∧ ok r ∧ Hold w' b off r ∧ val r + pw s.length * c = val s + T ∧ c < 4294967296 ∧ Wr b off s.length w w'
theorem AddAt.done {b off : Nat} {s : List Nat} {T : Nat} {w : World} {c : Nat} {wr : World} (h : AddAt b off s T w s.length c wr) (hc : c < 4294967296) : Added b off s T w (.returned (.int .u32 (c : Int))) wr := by
  obtain ⟨r, hl, ho, hh, _, hv, hw⟩ := h
  rw [List.take_length, ← hl, List.take_length] at hv
  exact ⟨c, r, rfl, hl, ho, hh, by rw [← hl]; exact hv, hc, hw⟩
def Taken (b off : Nat) (s : List Nat) (T : Nat) (w : World) (e : Ending) (w' : World) : Prop :=
  ∃ (c : Nat) (r : List Nat), e = .returned (.int .u32 (c : Int)) ∧ r.length = s.length ∧ ok r ∧ Hold w' b off r ∧ val r + T = val s + pw s.length * c ∧ c < 4294967296 ∧ Wr b off s.length w w'
theorem SubAt.done {b off : Nat} {s : List Nat} {T : Nat} {w : World} {c : Nat} {wr : World} (h : SubAt b off s T w s.length c wr) (hc : c < 4294967296) : Taken b off s T w (.returned (.int .u32 (c : Int))) wr := by
  obtain ⟨r, hl, ho, hh, _, hv, hw⟩ := h
  rw [List.take_length, ← hl, List.take_length] at hv
  exact ⟨c, r, rfl, hl, ho, hh, by rw [← hl]; exact hv, hc, hw⟩

set_option maxRecDepth 100000 in
set_option maxHeartbeats 4000000 in
theorem addProduct_any (b off : Nat) (s : List Nat) (cap : Nat) (q : Option Addr) (t : List Nat) (cap2 : Nat) (x : Nat) (hx : x < 4294967296) (hs : ok s) (ht : ok t) (hn : s.length ≤ 1099511627776) (hl : t.length ≤ s.length)
    (w : World) (h : Hold w b off s) (h2 : RdN b w q t) :
    Calls Tryd.prog 107 #[.slice (some ⟨b, off, none⟩) s.length cap, .slice q t.length cap2, .int .u32 x] w (Added b off s (val t * x) w) := by
  have HS := Lib.hid hs
  have HT := Lib.hid ht
  have HQ := Lib.hid h2
  have H0 : Hid (AddAt b off s (val (t.take 0) * x) w 0 0 w) := Lib.hid (by simpa [val] using AddAt.start h hs)
  clear hs ht h h2
  obtain ⟨T, hT⟩ : ∃ T : Nat → Nat, T = fun k => val (t.take k) * x := ⟨_, rfl⟩
  have HTk := Lib.hid hT
  have HT0 : Hid (AddAt b off s (T 0) w 0 0 w) := Lib.hid (by rw [hT]; exact H0.out)
  have HTn : Hid (T t.length = val t * x) := Lib.hid (by rw [hT]; simp)
  clear hT H0
  go_enter Tryd.func107, Tryd.ntmps107
  go_wp2
  go_loopw [7, 17] (fun cv i wr => ∃ k c : Nat, k ≤ t.length ∧ i = .int .i64 k ∧ cv = .int .u32 c ∧ c < 4294967296 ∧ AddAt b off s (T k) w k c wr) (fun _ i _ => t.length - (intOf i).toNat)
  case atStart => exact ⟨0, 0, Nat.zero_le _, rfl, rfl, by decide, HT0.out⟩
  case round =>
    obtain ⟨k, c, hk, rfl, rfl, hc, hA⟩ := hrel
    have HA := Lib.hid hA
    by_cases hlt : k < t.length
    · obtain ⟨hc1, hf1⟩ := hA.word (by omega)
      obtain ⟨b', off', rfl, hne, hcq⟩ := (HQ.out.wr hA.choose_spec.2.2.2.2.2).at (by omega)
      have hc2 := hcq k hlt
      clear hcq hA HQ
      have hy := ok_get HS.out k
      have hw := ok_get HT.out k
      have E : Hid (T (k + 1) = T k + pw k * (t[k]?.getD 0 * x)) := Lib.hid (by rw [HTk.out]; simp only; rw [val_take_succ _ _ hlt, Nat.add_mul, Nat.mul_assoc])
      have F : Hid (∀ hi lo : Nat, hi * 4294967296 + lo = t[k]?.getD 0 * x → _) := Lib.hid (fun hi lo e => add_word hw hx hc hy e)
      generalize hyy : s[k]?.getD 0 = y at *
      have HY := Lib.hid hyy
      clear hyy
      generalize t[k]?.getD 0 = u at *
      go_wp2_with fail
      refine (mul32_at u x hw hx _).mono ?_
      rintro e w' ⟨hi, lo, rfl, rfl, e1, hlo, hhi⟩
      obtain ⟨F1, F2⟩ := F.out hi lo e1
      have E1 := Lib.hid e1
      have HF2 := Lib.hid F2
      clear e1 F2
      go_wp2_with fail
      refine (add32_at lo c hlo hc _).mono ?_
      rintro e w' ⟨l1, f1, rfl, rfl, e2, e3, hl1, hf⟩
      rw [← e2, ← e3] at F1 HF2
      clear e2 e3
      go_wp2_with fail
      refine (add32_at l1 y hl1 hy _).mono ?_
      rintro e w' ⟨l2, f2, rfl, rfl, e2, e3, hl2, hf2⟩
      rw [← e2, ← e3] at HF2
      rw [← e3] at F1
      clear e2 e3
      go_wp2
      go_roundw
      case rel => exact ⟨k + 1, hi + f1 + f2, by omega, by go_num, by go_num, F1, HA.out.step (by omega) hl2 (by rw [HY.out, E.out, HF2.out, Nat.mul_add, Nat.mul_add, Nat.mul_add]; omega)⟩
      case measure => simp [intOf]; omega
    · obtain rfl : k = t.length := by omega
      have HB : Hid (AddAt b off s (val t * x) w t.length c wr) := Lib.hid (by rw [← HTn.out]; exact hA)
      clear hA HA HT0 HTn HTk HQ
      go_wp2
      go_loopw [7, 14] (fun cv i wr => ∃ k c : Nat, k ≤ s.length ∧ i = .int .i64 k ∧ cv = .int .u32 c ∧ c < 4294967296 ∧ AddAt b off s (val t * x) w k c wr) (fun _ i _ => s.length - (intOf i).toNat)
      case atStart => exact ⟨t.length, c, hl, rfl, rfl, hc, HB.out⟩
      case round =>
        obtain ⟨k, c, hk, rfl, rfl, hc, hA⟩ := hrel
        have HA := Lib.hid hA
        clear HB
        by_cases hlt : k < s.length
        · obtain ⟨hc1, hf1⟩ := hA.word hlt
          clear hA
          have hy := ok_get HS.out k
          generalize hyy : s[k]?.getD 0 = y at *
          have HY := Lib.hid hyy
          clear hyy
          go_wp2_with fail
          refine (add32_at y c hy hc _).mono ?_
          rintro e w' ⟨l1, f1, rfl, rfl, e2, e3, hl1, hf⟩
          have E2 : Hid (l1 + 4294967296 * f1 = y + c) := Lib.hid (by omega)
          clear e2 e3
          go_wp2
          go_roundw
          case rel => exact ⟨k + 1, f1, by omega, by go_num, by go_num, by omega, HA.out.step hlt hl1 (by rw [HY.out, E2.out, Nat.mul_add, Nat.mul_add]; omega)⟩
          case measure => simp [intOf]; omega
        · obtain rfl : k = s.length := by omega
          clear hA
          go_wp2
          go_ret
          exact HA.out.done hc

set_option maxRecDepth 100000 in
set_option maxHeartbeats 4000000 in
theorem takeProduct_any (b off : Nat) (s : List Nat) (cap : Nat) (q : Option Addr) (t : List Nat) (cap2 : Nat) (x : Nat) (hx : x < 4294967296) (hs : ok s) (ht : ok t) (hn : s.length ≤ 1099511627776) (hl : t.length ≤ s.length)
    (w : World) (h : Hold w b off s) (h2 : RdN b w q t) :
    Calls Tryd.prog 81 #[.slice (some ⟨b, off, none⟩) s.length cap, .slice q t.length cap2, .int .u32 x] w (Taken b off s (val t * x) w) := by
  have HS := Lib.hid hs
  have HT := Lib.hid ht
  have HQ := Lib.hid h2
  have H0 : Hid (SubAt b off s (val (t.take 0) * x) w 0 0 w) := Lib.hid (by simpa [val] using SubAt.start h hs)
  clear hs ht h h2
  obtain ⟨T, hT⟩ : ∃ T : Nat → Nat, T = fun k => val (t.take k) * x := ⟨_, rfl⟩
  have HTk := Lib.hid hT
  have HT0 : Hid (SubAt b off s (T 0) w 0 0 w) := Lib.hid (by rw [hT]; exact H0.out)
  have HTn : Hid (T t.length = val t * x) := Lib.hid (by rw [hT]; simp)
  clear hT H0
  go_enter Tryd.func81, Tryd.ntmps81
  go_wp2
  go_loopw [7, 17] (fun cv i wr => ∃ k c : Nat, k ≤ t.length ∧ i = .int .i64 k ∧ cv = .int .u32 c ∧ c < 4294967296 ∧ SubAt b off s (T k) w k c wr) (fun _ i _ => t.length - (intOf i).toNat)
  case atStart => exact ⟨0, 0, Nat.zero_le _, rfl, rfl, by decide, HT0.out⟩
  case round =>
    obtain ⟨k, c, hk, rfl, rfl, hc, hA⟩ := hrel
    have HA := Lib.hid hA
    by_cases hlt : k < t.length
    · obtain ⟨hc1, hf1⟩ := hA.word (by omega)
      obtain ⟨b', off', rfl, hne, hcq⟩ := (HQ.out.wr hA.choose_spec.2.2.2.2.2).at (by omega)
      have hc2 := hcq k hlt
      clear hcq hA HQ
      have hy := ok_get HS.out k
      have hw := ok_get HT.out k
      have E : Hid (T (k + 1) = T k + pw k * (t[k]?.getD 0 * x)) := Lib.hid (by rw [HTk.out]; simp only; rw [val_take_succ _ _ hlt, Nat.add_mul, Nat.mul_assoc])
      have F : Hid (∀ hi lo : Nat, hi * 4294967296 + lo = t[k]?.getD 0 * x → _) := Lib.hid (fun hi lo e => sub_word hw hx hc hy e)
      generalize hyy : s[k]?.getD 0 = y at *
      have HY := Lib.hid hyy
      clear hyy
      generalize t[k]?.getD 0 = u at *
      go_wp2_with fail
      refine (mul32_at u x hw hx _).mono ?_
      rintro e w' ⟨hi, lo, rfl, rfl, e1, hlo, hhi⟩
      obtain ⟨F1, F2⟩ := F.out hi lo e1
      have E1 := Lib.hid e1
      have HF2 := Lib.hid F2
      clear e1 F2
      go_wp2_with fail
      refine (add32_at lo c hlo hc _).mono ?_
      rintro e w' ⟨l1, f1, rfl, rfl, e2, e3, hl1, hf⟩
      rw [← e2, ← e3] at F1 HF2
      clear e2 e3
      go_wp2_with fail
      refine (sub32_at y l1 hy hl1 _).mono ?_
      rintro e w' ⟨l2, f2, rfl, rfl, e2, e3, hl2, hf2⟩
      rw [← e2, ← e3] at HF2
      rw [← e3] at F1
      clear e2 e3
      go_wp2
      go_roundw
      case rel => exact ⟨k + 1, hi + f1 + f2, by omega, by go_num, by go_num, F1, HA.out.step (by omega) hl2 (by rw [HY.out, E.out, ← HF2.out, Nat.mul_add, Nat.mul_add, Nat.mul_add]; omega)⟩
      case measure => simp [intOf]; omega
    · obtain rfl : k = t.length := by omega
      have HB : Hid (SubAt b off s (val t * x) w t.length c wr) := Lib.hid (by rw [← HTn.out]; exact hA)
      clear hA HA HT0 HTn HTk HQ
      go_wp2
      go_loopw [7, 14] (fun cv i wr => ∃ k c : Nat, k ≤ s.length ∧ i = .int .i64 k ∧ cv = .int .u32 c ∧ c < 4294967296 ∧ SubAt b off s (val t * x) w k c wr) (fun _ i _ => s.length - (intOf i).toNat)
      case atStart => exact ⟨t.length, c, hl, rfl, rfl, hc, HB.out⟩
      case round =>
        obtain ⟨k, c, hk, rfl, rfl, hc, hA⟩ := hrel
        have HA := Lib.hid hA
        clear HB
        by_cases hlt : k < s.length
        · obtain ⟨hc1, hf1⟩ := hA.word hlt
          clear hA
          have hy := ok_get HS.out k
          generalize hyy : s[k]?.getD 0 = y at *
          have HY := Lib.hid hyy
          clear hyy
          go_wp2_with fail
          refine (sub32_at y c hy hc _).mono ?_
          rintro e w' ⟨l1, f1, rfl, rfl, e2, e3, hl1, hf⟩
          have E2 : Hid (l1 + c = y + 4294967296 * f1) := Lib.hid (by unfold Nb.bor at e3; split at e3 <;> omega)
          clear e2 e3
          go_wp2
          go_roundw
          case rel => exact ⟨k + 1, f1, by omega, by go_num, by go_num, by omega, HA.out.step hlt hl1 (by rw [HY.out, E2.out])⟩
          case measure => simp [intOf]; omega
        · obtain rfl : k = s.length := by omega
          clear hA
          go_wp2
          go_ret
          exact HA.out.done hc

theorem addProduct_n (b off n : Nat) (s : List Nat) (cap : Nat) (q : Option Addr) (m : Nat) (t : List Nat) (cap2 : Nat) (x : Nat) (en : s.length = n) (em : t.length = m) (hx : x < 4294967296) (hs : ok s) (ht : ok t) (hn : n ≤ 1099511627776) (hl : m ≤ n)
    (w : World) (h : Hold w b off s) (h2 : RdN b w q t) :
    Calls Tryd.prog 107 #[.slice (some ⟨b, off, none⟩) n cap, .slice q m cap2, .int .u32 x] w (Added b off s (val t * x) w) := by
  subst en; subst em
  exact addProduct_any b off s cap q t cap2 x hx hs ht hn hl w h h2
theorem takeProduct_n (b off n : Nat) (s : List Nat) (cap : Nat) (q : Option Addr) (m : Nat) (t : List Nat) (cap2 : Nat) (x : Nat) (en : s.length = n) (em : t.length = m) (hx : x < 4294967296) (hs : ok s) (ht : ok t) (hn : n ≤ 1099511627776) (hl : m ≤ n)
    (w : World) (h : Hold w b off s) (h2 : RdN b w q t) :
    Calls Tryd.prog 81 #[.slice (some ⟨b, off, none⟩) n cap, .slice q m cap2, .int .u32 x] w (Taken b off s (val t * x) w) := by
  subst en; subst em
  exact takeProduct_any b off s cap q t cap2 x hx hs ht hn hl w h h2
set_option maxHeartbeats 1000000 in
/-- Nothing from nothing. -/
theorem takeProduct_nil (p q : Option Addr) (cap cap2 x : Nat) (w : World) :
    Calls Tryd.prog 81 #[.slice p 0 cap, .slice q 0 cap2, .int .u32 x] w fun e w' => e = .returned (.int .u32 0) ∧ w' = w := by
  go_enter Tryd.func81, Tryd.ntmps81
  go_wp2
  refine wp_loop_rounds 1 ?_
  rw [rounds_succ]
  go_wp2
  refine wp_loop_rounds 1 ?_
  rw [rounds_succ]
  go_wp2
  go_ret
  exact ⟨rfl, rfl⟩

theorem Hold.append {w : World} {b off : Nat} {l m : List Nat} : Hold w b off (l ++ m) ↔ Hold w b off l ∧ Hold w b (off + l.length) m := by
  constructor
  · intro h
    refine ⟨fun i hi => ?_, fun i hi => ?_⟩
    · have := h i (by simp; omega)
      rwa [List.getElem?_append_left hi] at this
    · have := h (l.length + i) (by simp; omega)
      rw [List.getElem?_append_right (by omega), Nat.add_sub_cancel_left, ← Nat.add_assoc] at this
      exact this
  · rintro ⟨h1, h2⟩ i hi
    by_cases hl : i < l.length
    · rw [List.getElem?_append_left hl]; exact h1 i hl
    · rw [List.getElem?_append_right (by omega)]
      have := h2 (i - l.length) (by simp at hi; omega)
      rwa [show off + l.length + (i - l.length) = off + i by omega] at this
theorem Hold.wr {w w' : World} {b off o n : Nat} {l : List Nat} (h : Hold w b off l) (k : Wr b o n w w') (hd : off + l.length ≤ o ∨ o + n ≤ off) : Hold w' b off l := by
  intro i hi
  rw [k.cell _ (by omega), k.frozen]
  exact h i hi
theorem Hold.grow {w w' : World} {b off : Nat} {l : List Nat} (h : Hold w b off l) (g : Gr w w') : Hold w' b off l :=
  fun i hi => ⟨g.cell (h i hi).1, g.frozen (h i hi).1 (h i hi).2⟩
theorem Hold.own {w : World} {b off B : Nat} {l : List Nat} (h : Hold w b off l) (hb : B ≤ b) : Own B w (some ⟨b, off, none⟩) l := .inr ⟨b, off, rfl, hb, h⟩
theorem Hold.rdN {w : World} {b b' off : Nat} {l : List Nat} (h : Hold w b off l) (hb : b ≠ b') : RdN b' w (some ⟨b, off, none⟩) l := .inr ⟨b, off, rfl, hb, fun i hi => (h i hi).1⟩
theorem Hold.rd {w : World} {b off : Nat} {l : List Nat} (h : Hold w b off l) : Rd w (some ⟨b, off, none⟩) l := .inr ⟨b, off, rfl, fun i hi => (h i hi).1⟩
theorem Hold.wrOther {w w' : World} {b off b' o n : Nat} {l : List Nat} (h : Hold w b off l) (k : Wr b' o n w w') (hb : b ≠ b') : Hold w' b off l :=
  fun i hi => by rw [k.cellOf hb, k.frozen]; exact h i hi
theorem Hold.drewN {w : World} {b off : Nat} {l : List Nat} (h : Hold w b off l) (n : Nat) : Hold (w.drewN n) b off l := h
end Go.Proofs.YtfompolklkehpaaDoor.Ne


/- The contract of natural's up: words times a power of 2. -/
namespace Go.Proofs.YtfompolklkehpaaDoor.Ne
open Go.RowKit Go.Proofs.YtfompolklkehpaaDoor.Nm

theorem infoW : (Tryd.prog.info? 35).map (fun i => (i.zero, i.size, i.bytes)) = some (some (.int .u32 0), 1, 4) := by kernel_rfl
/-- What make has made: zero words. -/
theorem hold_made {w : World} {B g n cap : Nat} (h : w.ownsRow B 35 1 (.slice (some ⟨g, 0, none⟩) n cap) n (madeCells (Value.int .u32 0).cells (n * 1)).toList) : Hold w g 0 (List.replicate n 0) := by
  intro i hi
  rw [List.length_replicate] at hi
  have h1 := h.cellAt i (by omega)
  have h2 := h.frozenAt i
  rw [Nat.zero_add]
  refine ⟨?_, h2⟩
  rw [h1]
  simp [madeCells, Value.cells, hi]
  rw [Nat.mod_one]
  rfl
theorem Gr.grown {w w' : World} (h : w.grownBy w' none) : Gr w w' := ⟨h.os, h.tape, h.output, h.size, fun k hk => h.block k hk (by simp)⟩

/-- A slice of the call's own, from the head of a block. -/
def Made (B : Nat) (l : List Nat) (w : World) (v : Value) : Prop := ∃ g cap, v = .slice (some ⟨g, 0, none⟩) l.length cap ∧ l.length ≤ cap ∧ cap ≤ 1099511627776 ∧ B ≤ g ∧ Hold w g 0 l

def UpAt (l : List Nat) (n : Nat) (w : World) (e : Ending) (w' : World) : Prop :=
  ∃ (g : Nat) (r : List Nat) (cap : Nat), e = .returned (.slice (some ⟨g, 0, none⟩) r.length cap) ∧ r.length = l.length + n / 32 + 1 ∧ r.length ≤ cap ∧ cap ≤ 2199023255552 ∧ ok r ∧ val r = val l * 2 ^ n ∧ w.heap.size ≤ g ∧ Hold w' g 0 r ∧ Gr w w'

set_option maxRecDepth 100000 in
set_option maxHeartbeats 4000000 in
theorem up_any (p : Option Addr) (l : List Nat) (cap : Nat) (n : Nat) (hl : l.length ≤ 1048576) (hn : n ≤ 10000) (hok : ok l) (w : World) (h : Rd w p l) :
    Calls Tryd.prog 114 #[.slice p l.length cap, .int .i64 n] w (UpAt l n w) := by
  obtain ⟨i0, hi, hz0, hz1, hz2⟩ := info_parts infoW
  have HR := Lib.hid h
  have HK := Lib.hid hok
  clear h hok
  obtain ⟨sk, hsk⟩ : ∃ sk : Nat, n / 32 = sk := ⟨_, rfl⟩
  obtain ⟨tn, htn⟩ : ∃ tn : Nat, n % 32 = tn := ⟨_, rfl⟩
  have d1 : (n : Int) / 32 = (sk : Int) := by omega
  have d2 : (n : Int) % 32 = (tn : Int) := by omega
  have b1 : tn < 32 := by omega
  have b2 : sk ≤ 312 := by omega
  have HN : Hid (n = 32 * sk + tn) := Lib.hid (by omega)
  have HSK := Lib.hid hsk
  clear hsk htn
  go_enter Tryd.func114, Tryd.ntmps114
  go_wp2_with (refine wpList_make_full _ rfl _ _ _ rfl w.heap.size 35 i0 (.int .u32 0) 1 Tryd.underlying41 hi hz0 hz1 .i64 .i64 _ _ (l.length + sk + 1) rfl rfl (by omega) (by omega) (by rw [hz2]; omega) (by unfold maxLen; omega) (Nat.le_refl _) ?_; intro w1 hown hgrow)
  have q1 : (sk : Int) ≤ (l.length : Int) + (sk : Int) + 1 := by omega
  have q2 : (l.length + sk + 1 = sk) = False := eq_false (by omega)
  have q3 : l.length + sk + 1 - sk = l.length + 1 := by omega
  have q4 : (0 : Int) ≤ (tn : Int) := by omega
  go_still_tail 6, (by kernel_rfl)
  have G2 : Gr w w1 := Gr.grown hgrow
  have hh := hold_made hown
  clear hown hgrow q1 q2 q3 q4
  change wpList _ _ _ _ _ w1.drew
  have G3 : Gr w w1.drew := G2.drew
  have hh3 : Hold w1.drew w.heap.size 0 (List.replicate (l.length + sk + 1) 0) := hh
  clear G2 hh
  generalize w1.drew = w2 at *
  have HG := Lib.hid G3
  rw [show l.length + sk + 1 = sk + (l.length + 1) by omega, ← List.replicate_append_replicate, Hold.append, List.length_replicate, Nat.zero_add] at hh3
  have HH := Lib.hid hh3
  clear hh3 G3
  have hp2 : (2 : Int) ^ tn % 4294967296 = ((2 ^ tn : Nat) : Int) := by
    have : 2 ^ tn < 2 ^ 32 := Nat.pow_lt_pow_right (by decide) b1
    have e : ((2 ^ tn : Nat) : Int) = (2 : Int) ^ tn := by rw [Int.natCast_pow]; rfl
    rw [← e]
    generalize 2 ^ tn = X at *
    omega
  have HP := Lib.hid hp2
  have hlt : 2 ^ tn < 4294967296 := Nat.pow_lt_pow_right (n := 32) (by decide) b1
  clear hp2
  go_wp2_with fail
  rw [HP.out]
  refine (addProduct_n w.heap.size sk (l.length + 1) (List.replicate (l.length + 1) 0) (l.length + 1) p l.length l cap (2 ^ tn) (by simp) rfl hlt (ok_replicate _) HK.out (by omega) (by omega) w2 HH.out.2 (RdN.of HR.out HG.out (Nat.le_refl _))).mono ?_
  rintro e w3 ⟨c, r, rfl, hrl, hro, hrh, hv, hc, hw⟩
  have HRH := Lib.hid hrh
  have HV := Lib.hid hv
  clear hrh hv HP hlt
  go_wp2
  go_ret
  rw [List.length_replicate] at hrl
  have hv := HV.out
  rw [val_replicate, List.length_replicate, Nat.zero_add] at hv
  have hlt2 : val l * 2 ^ tn < pw (l.length + 1) := by
    have h1 := val_lt HK.out
    have h2 : 2 ^ tn ≤ 4294967296 := Nat.pow_le_pow_right (n := 2) (by decide) (show tn ≤ 32 by omega)
    simp only [pw]
    have h3 : val l * 2 ^ tn ≤ val l * 4294967296 := Nat.mul_le_mul_left _ h2
    omega
  have hc0 : c = 0 := by
    rcases Nat.eq_zero_or_pos c with h | h
    · exact h
    · have := Nat.le_mul_of_pos_right (pw (l.length + 1)) h
      generalize val l * 2 ^ tn = X at *
      omega
  subst hc0
  refine ⟨w.heap.size, List.replicate sk 0 ++ r, l.length + sk + 1, ?_, ?_, ?_, ?_, ?_, ?_, Nat.le_refl _, ?_, Wr.gr HG.out hw (Nat.le_refl _)⟩
  · show Ending.returned (.slice (some ⟨w.heap.size, 0, none⟩) (l.length + sk + 1) (l.length + sk + 1)) = _
    rw [List.length_append, List.length_replicate, hrl, show sk + (l.length + 1) = l.length + sk + 1 by omega]
  · rw [List.length_append, List.length_replicate, hrl, HSK.out]; omega
  · rw [List.length_append, List.length_replicate, hrl]; omega
  · omega
  · exact ok_append.2 ⟨ok_replicate _, hro⟩
  · rw [val_append, val_replicate, List.length_replicate, Nat.zero_add, pw_eq, HN.out, Nat.pow_add]
    rw [Nat.mul_zero, Nat.add_zero] at hv
    rw [hv, Nat.mul_left_comm, Nat.mul_comm (2 ^ (32 * sk))]
  · refine Hold.append.2 ⟨HH.out.1.wr hw (by simp), ?_⟩
    rw [List.length_replicate, Nat.zero_add]
    exact HRH.out
end Go.Proofs.YtfompolklkehpaaDoor.Ne


/- The contracts of slices.Clone and slices.Equal at words. -/
namespace Go.Proofs.YtfompolklkehpaaDoor.Ne
open Go.RowKit Go.Proofs.YtfompolklkehpaaDoor.Nm

/-- Words as cells. -/
def cw (l : List Nat) : List Value := l.map fun x : Nat => Value.int .u32 (x : Int)
theorem addr_add (b off i : Nat) : (⟨b, off, none⟩ : Addr).add i = ⟨b, off + i, none⟩ := by unfold Addr.add; split <;> simp_all
theorem cw_length (l : List Nat) : (cw l).length = l.length := by simp [cw]
theorem cw_one (l : List Nat) : ∀ u ∈ cw l, u.oneCell' = true := by intro u hu; obtain ⟨x, _, rfl⟩ := List.mem_map.1 hu; rfl
theorem cw_get {l : List Nat} {i : Nat} (hi : i < l.length) : (cw l)[i]? = some (.int .u32 ((l[i]?.getD 0 : Nat) : Int)) := by simp [cw, hi]
def Cloned (l : List Nat) (w : World) (e : Ending) (w' : World) : Prop :=
  ∃ (p : Option Addr) (cap : Nat), e = .returned (.slice p l.length cap) ∧ l.length ≤ cap ∧ (p = none → l = [] ∧ cap = 0) ∧ Own w.heap.size w' p l ∧ Gr w w'
/-- Words that the call owns. -/
theorem own_row {w : World} {B n : Nat} {v : Value} {l : List Nat} (hn : n = l.length) (h : w.ownsRow B 35 1 v n (cw l)) :
    ∃ (p : Option Addr) (cap : Nat), v = .slice p l.length cap ∧ l.length ≤ cap ∧ (p = none → l = [] ∧ cap = 0) ∧ Own B w p l := by
  subst hn
  rcases h.2 with ⟨rfl, h0⟩ | ⟨g, cap, cur, rfl, hb, hg, hn, hm, hs, ht⟩
  · have : l = [] := List.length_eq_zero_iff.1 h0
    subst this
    exact ⟨none, 0, rfl, Nat.le_refl _, fun _ => ⟨rfl, rfl⟩, .inl rfl⟩
  · refine ⟨_, cap, rfl, hn, fun e => (by cases e), .inr ⟨g, 0, rfl, hb, fun i hi => ⟨?_, ?_⟩⟩⟩
    · rw [Nat.zero_add, h.cellAt i (by omega)]
      exact cw_get hi
    · rw [Nat.zero_add, h.frozenAt i]
theorem clone_nil (w : World) : Calls Tryd.prog 80 #[.slice none 0 0] w (Cloned [] w) := by
  have hnil := fun (w : World) (a : Option Addr) (n c n' c' : Nat) => Lib.run_eql_slice_nil (P := Tryd.prog) w 41 35 a n c n' c' Tryd.underlying41
  go_enter Tryd.func80, Tryd.ntmps80
  go_wp2
  go_ret
  exact ⟨none, 0, rfl, Nat.le_refl _, fun _ => ⟨rfl, rfl⟩, .inl rfl, Gr.refl _⟩

set_option maxHeartbeats 1000000 in
theorem clone_some (a : Addr) (l : List Nat) (n cap : Nat) (en : l.length = n) (hl : n ≤ 1048576) (w : World) (h : Rd w (some a) l) :
    Calls Tryd.prog 80 #[.slice (some a) n cap] w (Cloned l w) := by
  obtain ⟨i0, hi, hz0, hz1, hz2⟩ := info_parts infoW
  have EN := Lib.hid en
  have HC : Hid (∀ (j : Nat) (u : Value), (cw l)[j]? = some u → (w.alloc (.cells #[] 35)).cell? (a.add j) = some u) := Lib.hid (by
    intro j u hu
    have hj : j < l.length := by
      have := (List.getElem?_eq_some_iff.1 hu).1
      rwa [cw_length] at this
    obtain ⟨b, off, ha, hc⟩ := (((Gr.refl w).alloc (.cells #[] 35)).rd h).at (by omega)
    cases ha
    rw [addr_add, hc j hj, ← hu, cw_get hj])
  clear h en
  have hnil := fun (w : World) (a : Option Addr) (n c n' c' : Nat) => Lib.run_eql_slice_nil (P := Tryd.prog) w 41 35 a n c n' c' Tryd.underlying41
  go_enter Tryd.func80, Tryd.ntmps80
  go_wp2_with (at_builtin; refine wpList_append_own _ rfl _ _ 41 rfl w.heap.size 35 i0 (.int .u32 0) 1 4 Tryd.underlying41 hi hz0 hz1 hz2 rfl (by decide) _ _ _ rfl (World.ownsRow_made w #[] 0 (Nat.le_refl _) (by decide) rfl) a n cap (cw l) rfl (by rw [cw_length, EN.out, Nat.mul_one]) HC.out (cw_one l) (by unfold maxLen; omega) (by omega) (by simp) ?_; intro v1 w1 hown hgrow _)
  have hg : Gr w w1 := ⟨hgrow.os, hgrow.tape, hgrow.output, Nat.le_trans (by simp) hgrow.size, fun k hk => (hgrow.block k (by simp; omega) (fun e => by have e2 : k = w.heap.size := Option.some.inj e; omega)).trans (Below.heap_alloc _ _ _ hk)⟩
  simp only [Nat.zero_add, List.nil_append] at hown
  obtain ⟨p, cap2, rfl, hcap, hpn, ho⟩ := own_row EN.out.symm hown
  clear hown hgrow
  go_wp2
  go_ret
  exact ⟨p, cap2, rfl, hcap, hpn, ho, hg⟩
/-- Clone at whatever words. -/
theorem clone_any (p : Option Addr) (l : List Nat) (n cap : Nat) (en : l.length = n) (hl : n ≤ 1048576) (hp : p = none → n = 0 ∧ cap = 0) (w : World) (h : Rd w p l) :
    Calls Tryd.prog 80 #[.slice p n cap] w (Cloned l w) := by
  cases p with
  | none =>
    obtain ⟨rfl, rfl⟩ := hp rfl
    obtain rfl := List.length_eq_zero_iff.1 en
    exact clone_nil w
  | some a => exact clone_some a l n cap en hl w h

def ww (x y : Nat) : Bool := x == y
/-- The first k words are the same. -/
def SameTo (l m : List Nat) (k : Nat) : Prop := ∀ i, i < k → l[i]?.getD 0 = m[i]?.getD 0
theorem SameTo.eq {l m : List Nat} (h : SameTo l m l.length) (e : l.length = m.length) : l = m := by
  apply List.ext_getElem e
  intro i h1 h2
  have := h i h1
  rw [List.getElem?_eq_getElem h1, List.getElem?_eq_getElem h2] at this
  simpa using this
theorem bne_u (x y : Nat) : ((x : Int) != (y : Int)) = (x != y) := by
  rw [Bool.eq_iff_iff]; simp; omega

/-- A block that is known whole. -/
theorem hold_block {w : World} {g : Nat} {l : List Nat} (h : w.heap[g]? = some (.cells (cw l).toArray 35 (0, 0))) : Hold w g 0 l := by
  intro i hi
  rw [Nat.zero_add]
  have h1 := cell_of_row w g i (cw l).toArray 35 (0, 0) h
  refine ⟨?_, ?_⟩
  · rw [h1]
    simpa using cw_get hi
  · simp [World.frozen?, h]
theorem made_block {w : World} {B g n : Nat} (h : w.ownsRow B 35 1 (.slice (some ⟨g, 0, none⟩) n n) n (madeCells (Value.int .u32 0).cells (n * 1)).toList) :
    w.heap[g]? = some (.cells (cw (List.replicate n 0)).toArray 35 (0, 0)) := by
  rcases h.2 with ⟨h', _⟩ | ⟨g', cap', cur, h', _, hg, _, _, hcs, ht⟩
  · simp at h'
  · simp only [Value.slice.injEq, Option.some.injEq, Addr.mk.injEq, and_true, true_and] at h'
    obtain ⟨rfl, rfl⟩ := h'
    rw [hg]
    have e : cur.toList = cw (List.replicate n 0) := by
      rw [List.take_of_length_le (by simp; omega)] at ht
      rw [ht]
      apply List.ext_getElem?
      intro i
      by_cases hi : i < n
      · rw [cw_get (by simpa using hi)]
        simp [madeCells, Value.cells, hi]
        rw [Nat.mod_one]
        rfl
      · rw [List.getElem?_eq_none (by simp [madeCells]; omega), List.getElem?_eq_none (by rw [cw_length]; simp; omega)]
    rw [← e]
theorem splice_cw (a l : List Nat) : splice (cw a) 0 (cw l) = cw (l ++ a.drop l.length) := by
  simp [splice, cw]
end Go.Proofs.YtfompolklkehpaaDoor.Ne


/- The contract of natural's Add. -/
namespace Go.Proofs.YtfompolklkehpaaDoor.Ne
open Go.RowKit Go.Proofs.YtfompolklkehpaaDoor.Nm Go.Proofs.YtfompolklkehpaaDoor.Nf

/-- A slice value reads as words. -/
structure Nw (w : World) (p : Option Addr) (n cap : Nat) (l : List Nat) : Prop where
  len : l.length = n
  le : n ≤ cap
  nil : p = none → n = 0 ∧ cap = 0
  rd : Rd w p l
  ok : ok l
  small : n ≤ 1048576
theorem Nw.grow {w w' : World} {p : Option Addr} {n cap : Nat} {l : List Nat} (h : Nw w p n cap l) (g : Gr w w') : Nw w' p n cap l := ⟨h.len, h.le, h.nil, g.rd h.rd, h.ok, h.small⟩
/-- A result: it reads as words, and is the call's own. -/
structure Nr (B : Nat) (w : World) (p : Option Addr) (n cap : Nat) (l : List Nat) : Prop extends Nw w p n cap l where
  own : Own B w p l
theorem Nr.grow {B : Nat} {w w' : World} {p : Option Addr} {n cap : Nat} {l : List Nat} (h : Nr B w p n cap l) (g : Gr w w') : Nr B w' p n cap l := ⟨h.toNw.grow g, h.own.grow g⟩
theorem Nr.mono {B B' : Nat} {w : World} {p : Option Addr} {n cap : Nat} {l : List Nat} (h : Nr B w p n cap l) (hB : B' ≤ B) : Nr B' w p n cap l := ⟨h.toNw, h.own.mono hB⟩
theorem Nw.set {w : World} {p : Option Addr} {n cap : Nat} {l : List Nat} (h : Nw w p n cap l) (a : Addr) (v : Value) (hne : ∀ x : Addr, p = some x → x.block ≠ a.block) : Nw (w.setCell a v) p n cap l := by
  refine ⟨h.len, h.le, h.nil, ?_, h.ok, h.small⟩
  rcases h.rd with h0 | ⟨b, off, rfl, hc⟩
  · exact .inl h0
  · exact .inr ⟨b, off, rfl, fun i hi => by rw [World.cell?_setCell_other _ _ _ _ (fun e => hne _ rfl (by rw [e]))]; exact hc i hi⟩
theorem Nr.set {B : Nat} {w : World} {p : Option Addr} {n cap : Nat} {l : List Nat} (h : Nr B w p n cap l) (a : Addr) (v : Value) (hne : ∀ x : Addr, p = some x → x.block ≠ a.block) : Nr B (w.setCell a v) p n cap l := by
  refine ⟨h.toNw.set a v hne, ?_⟩
  rcases h.own with h0 | ⟨b, off, rfl, hb, hc⟩
  · exact .inl h0
  · exact .inr ⟨b, off, rfl, hb, fun i hi => by rw [World.cell?_setCell_other _ _ _ _ (fun e => hne _ rfl (by rw [e])), World.frozen?_setCell]; exact hc i hi⟩
theorem Nr.set' {B : Nat} {w : World} {p : Option Addr} {n cap : Nat} {l : List Nat} (h : Nr B w p n cap l) (a : Addr) (v : Value) (hne : ∀ x : Addr, p = some x → x.block ≠ a.block ∨ val l = 0) (ht : Nm.tight l) : Nr B (w.setCell a v) p n cap l := by
  by_cases h0 : l = []
  · subst h0
    exact ⟨⟨h.len, h.le, h.nil, .inl rfl, h.ok, h.small⟩, .inl rfl⟩
  · exact h.set a v fun x e => (hne x e).resolve_right (by have := val_pos ht h0; omega)
theorem Nw.zero (w : World) : Nw w none 0 0 [] := ⟨rfl, Nat.le_refl _, fun _ => ⟨rfl, rfl⟩, .inl rfl, ok_nil, by decide⟩
theorem Nr.zero (B : Nat) (w : World) : Nr B w none 0 0 [] := ⟨Nw.zero w, .inl rfl⟩

theorem Valid_n (p : Option Addr) (n cap : Nat) (l : List Nat) (w : World) (h : Nw w p n cap l) :
    Calls Tryd.prog 42 #[.agg #[.slice p n cap]] w fun e w' => e = .returned (.bool (decide (valid l))) ∧ Gr w w' := by
  have := h.len; subst this
  exact Valid_any p l cap (Nat.le_trans h.small (by decide)) w h.rd
/-- What a function that hands back a natural number and an error number has handed back. -/
def Gave (x : Nat) (w : World) (e : Ending) (w' : World) : Prop :=
  ∃ (p : Option Addr) (n cap : Nat), e = .returned (.tuple #[.agg #[.slice p n cap], .int .i64 0]) ∧ Nr w.heap.size w' p n cap (digs x) ∧ Gr w w'
def Failed (c : Nat) (w : World) (e : Ending) (w' : World) : Prop :=
  e = .returned (.tuple #[.agg #[.slice none 0 0], .int .i64 (c : Int)]) ∧ Gr w w'
/-- fit, for words of the call's own. -/
theorem fit_gave (p : Option Addr) (n cap : Nat) (l : List Nat) (en : l.length = n) (hn : n ≤ cap) (hs : n ≤ 1048576) (hp : p = none → n = 0 ∧ cap = 0) (hok : ok l) (B : Nat) (w : World) (h : Own B w p l) (h64 : val l < pw 64) :
    Calls Tryd.prog 82 #[.slice p n cap] w fun e w' => ∃ n', e = .returned (.tuple #[.agg #[.slice p n' cap], .int .i64 0]) ∧ Nr B w' p n' cap (digs (val l)) ∧ Gr w w' := by
  subst en
  have h1 := trim_eq_digs hok
  have h2 := (digs_length_le (val l) 64).2 h64
  refine (fit_ok p l cap hn (by omega) w h.rd (by rw [h1]; exact h2)).mono ?_
  rintro e w' ⟨rfl, hg⟩
  rw [h1]
  have h3 : digs (val l) = l.take (digs (val l)).length := by
    rw [← h1]
    have : trim l <+: l := by
      unfold trim
      have := List.dropWhile_suffix (l := l.reverse) (· == 0)
      have := List.reverse_prefix.2 this
      rwa [List.reverse_reverse] at this
    exact List.prefix_iff_eq_take.1 this
  have h4 := trim_length_le l
  rw [h1] at h4
  have ho : Own B w' p (digs (val l)) := by rw [h3]; exact (h.grow hg).take _
  exact ⟨_, rfl, ⟨⟨rfl, by omega, fun e => ⟨by have := (hp e).1; omega, (hp e).2⟩, ho.rd, ok_digs _, by omega⟩, ho⟩, hg⟩
theorem fit_failed (p : Option Addr) (n cap : Nat) (l : List Nat) (en : l.length = n) (hn : n ≤ cap) (hs : n ≤ 1048576) (hok : ok l) (w : World) (h : Rd w p l) (h64 : pw 64 ≤ val l) :
    Calls Tryd.prog 82 #[.slice p n cap] w (Failed 9 w) := by
  subst en
  have h1 := trim_eq_digs hok
  have h2 : 64 < (digs (val l)).length := by
    rcases Nat.lt_or_ge 64 (digs (val l)).length with h | h
    · exact h
    · have := (digs_length_le (val l) 64).1 h; omega
  exact fit_big p l cap hn (by omega) w h (by rw [h1]; exact h2)

theorem copy_src {w w' : World} {p : Option Addr} {n c : Nat} {l : List Nat} {g : Nat} (h : Nw w p n c l) (G : Gr w w') :
    0 < (cw l).length → some (⟨g, 0, none⟩ : Addr) = some ⟨g, 0, none⟩ ∧ ∃ ad, p = some ad ∧ ∀ (j : Nat) (v : Value), (cw l)[j]? = some v → w'.cell? (ad.add j) = some v := by
  intro h0
  rw [cw_length] at h0
  obtain ⟨b, off, rfl, hc⟩ := (G.rd h.rd).at h0
  refine ⟨rfl, _, rfl, fun j v hj => ?_⟩
  have hj2 : j < l.length := by
    have := (List.getElem?_eq_some_iff.1 hj).1
    rwa [cw_length] at this
  rw [addr_add, hc j hj2, ← hj, cw_get hj2]

theorem sum_lt {l k : List Nat} {n m : Nat} (hl : ok l) (hk : ok k) (en : l.length = n) (em : k.length = m) : val l + val k < pw (max n m + 1) := by
  subst en; subst em
  have h1 := val_lt hl
  have h2 := val_lt hk
  have h3 := pw_mono (Nat.le_max_left l.length k.length)
  have h4 := pw_mono (Nat.le_max_right l.length k.length)
  simp only [pw]
  omega
theorem drop_zero_val {l : List Nat} {N : Nat} (h : l.length ≤ N) : (l ++ (List.replicate N 0).drop l.length).length = N ∧ val (l ++ (List.replicate N 0).drop l.length) = val l := by
  rw [List.drop_replicate, List.length_append, List.length_replicate, val_append, val_replicate]
  exact ⟨by omega, by omega⟩
theorem ok_pad {l : List Nat} {N : Nat} (h : ok l) : ok (l ++ (List.replicate N 0).drop l.length) := ok_append.2 ⟨h, ok_drop (ok_replicate _) _⟩
end Go.Proofs.YtfompolklkehpaaDoor.Ne


/- The contract of slices.Backward at words: an iterator that hands out the words from the last one down. -/
namespace Go.Proofs.YtfompolklkehpaaDoor.Nk
open Go.RowKit Go.Shelf Go.Proofs.YtfompolklkehpaaDoor.Nm Go.Proofs.YtfompolklkehpaaDoor.Ne

attribute [local go_sem] Oper.semAt_some

/-- An index below len. -/
def cl (len x : Nat) : Nat := if x < len then x else 0
theorem cl_lt {len x : Nat} (h : 0 < len) : cl len x < len := by unfold cl; split <;> omega
theorem cl_of {len x : Nat} (h : x < len) : cl len x = x := if_pos h
/-- The first k of len - 1, len - 2, .. -/
def dn (len k : Nat) : List Nat := (List.range k).map fun j => len - 1 - j
theorem dn_succ (len k : Nat) : dn len (k + 1) = dn len k ++ [len - 1 - k] := by simp [dn, List.range_succ]
theorem dn_length (len k : Nat) : (dn len k).length = k := by simp [dn]
/-- What is handed out: an index and a word. -/
def en (len : Nat) (x : Nat × Nat) : Array Value := #[.int .i64 ((cl len x.1 : Nat) : Int), .int .u32 (x.2 : Int)]
/-- The box Bs holds a slice of len words at p, and the word with the index i is one that V permits. -/
def Src (Bs : Nat) (p : Option Addr) (len cap : Nat) (V : Nat → Nat → Prop) (w : World) : Prop :=
  w.cell? ⟨Bs, 0, none⟩ = some (.slice p len cap) ∧ (len = 0 ∨ ∃ b off, p = some ⟨b, off, none⟩ ∧ ∀ i, i < len → ∃ v : Nat, V i v ∧ w.cell? ⟨b, off + i, none⟩ = some (.int .u32 (v : Int)))
theorem Src.keep {Bs : Nat} {p : Option Addr} {len cap : Nat} {V : Nat → Nat → Prop} {w w' : World} (h : Src Bs p len cap V w) (k : ∀ (a : Addr) (v : Value), w.cell? a = some v → w'.cell? a = some v) : Src Bs p len cap V w' := by
  refine ⟨k _ _ h.1, ?_⟩
  rcases h.2 with h0 | ⟨b, off, rfl, hc⟩
  · exact .inl h0
  · refine .inr ⟨b, off, rfl, fun i hi => ?_⟩
    obtain ⟨v, hv, hcv⟩ := hc i hi
    exact ⟨v, hv, k _ _ hcv⟩
theorem Src.at {Bs : Nat} {p : Option Addr} {len cap : Nat} {V : Nat → Nat → Prop} {w : World} (h : Src Bs p len cap V w) (h0 : 0 < len) :
    ∃ b off, p = some ⟨b, off, none⟩ ∧ ∀ i, i < len → ∃ v : Nat, V i v ∧ w.cell? ⟨b, off + i, none⟩ = some (.int .u32 (v : Int)) := by
  rcases h.2 with h | h
  · omega
  · exact h
/-- All that has been handed out when k rounds are over. -/
def Out (V : Nat → Nat → Prop) (len k : Nat) (xs : List (Nat × Nat)) : Prop := xs.map Prod.fst = dn len k ∧ ∀ x ∈ xs, V x.1 x.2
theorem Out.snoc {V : Nat → Nat → Prop} {len k i v : Nat} {xs : List (Nat × Nat)} (h : Out V len k xs) (hi : i = len - 1 - k) (hv : V i v) : Out V len (k + 1) (xs ++ [(i, v)]) := by
  refine ⟨by rw [List.map_append, h.1, dn_succ, hi]; rfl, fun x hx => ?_⟩
  rcases List.mem_append.1 hx with h1 | h1
  · exact h.2 x h1
  · obtain rfl := List.mem_singleton.1 h1
    exact hv
theorem Out.length {V : Nat → Nat → Prop} {len k : Nat} {xs : List (Nat × Nat)} (h : Out V len k xs) : xs.length = k := by
  have := congrArg List.length h.1
  rwa [List.length_map, dn_length] at this

set_option maxRecDepth 100000 in
set_option maxHeartbeats 2000000 in
theorem back1_in (F : Fence) (n : Nat) (hF : F.fn 68) (hro : F.round = none) (hn : 1 ≤ n) (l Bs : Nat) (p : Option Addr) (len cap : Nat) (hreach : len ≤ 1048576) (V : Nat → Nat → Prop) (J Jx : List (Nat × Nat) → World → Prop)
    (hY : ∀ pre x W, J pre W → pre.length < len → YieldAt F (n - 1) Tryd.prog l (en len x) W fun e W' =>
      (e = .returned (.bool true) ∧ J (pre ++ [x]) W' ∧ (Src Bs p len cap V W → Src Bs p len cap V W')) ∨ (e = .returned (.bool false) ∧ Jx (pre ++ [x]) W'))
    (W : World) (hR : Src Bs p len cap V W) (h0 : J [] W) :
    CallsIn F n Tryd.prog 68 #[.func (.yield l) #[] #[], .pointer (some ⟨Bs, 0, none⟩)] W fun e W' => (∃ v, e = .returned v) ∧
      ((∃ ys, Out V len len ys ∧ J ys W') ∨ (∃ pre, (∃ k, k ≤ len ∧ Out V len k pre) ∧ Jx pre W')) := by
  have HR := Lib.hid hR
  have hBs := hR.1
  have H0 : Hid (Out V len 0 []) := Lib.hid ⟨rfl, fun x hx => by cases hx⟩
  clear hR
  refine callsIn_of_wp Tryd.func68 rfl hF ?_ hro
  simp only [Tryd.ntmps68, List.size_toArray, List.length_cons, List.length_nil, Nat.reduceAdd, Nat.reduceSub, Array.replicate_succ, Array.replicate_zero, List.push_toArray, List.append_toArray, List.nil_append, List.cons_append]
  gi_wp2
  gi_loopw [3] (fun i wr => ∃ (m : Nat) (e : Int) (pre : List (Nat × Nat)), m ≤ len ∧ i = .int .i64 e ∧ e = (m : Int) - 1 ∧ Hid (Out V len (len - m) pre) ∧ J pre wr ∧ Hid (Src Bs p len cap V wr))
    (fun i _ => (intOf i + 1).toNat)
  case atStart => exact ⟨len, _, [], Nat.le_refl _, rfl, rfl, by rw [Nat.sub_self]; exact H0, h0, HR⟩
  case round =>
    obtain ⟨m, e, pre, hm, rfl, he, hO, hJs, HS⟩ := hrel
    have hBox := HS.out.1
    by_cases h0m : m = 0
    · subst h0m
      obtain rfl : e = -1 := by omega
      rw [Nat.sub_zero] at hO
      have HJ := Lib.hid hJs
      clear hJs he
      gi_wp2
      go_end0
      exact ⟨⟨_, rfl⟩, .inl ⟨_, hO.out, HJ.out⟩⟩
    · obtain ⟨j, rfl⟩ : ∃ j, m = j + 1 := ⟨m - 1, by omega⟩
      obtain rfl : e = (j : Int) := by omega
      clear he h0m
      obtain ⟨b, off, rfl, hc⟩ := HS.out.at (by omega)
      obtain ⟨v, hv, hcx⟩ := hc j (by omega)
      obtain ⟨fn, tmps, assign, body, hy, hR⟩ := hY pre (j, v) wr hJs (by rw [hO.out.length]; omega)
      rw [show en len (j, v) = #[.int .i64 (j : Int), .int .u32 (v : Int)] by unfold en; rw [cl_of (show j < len by omega)]] at hy
      have HV := Lib.hid hv
      clear hc hJs hv
      gi_wp2
      refine hR.mono ?_
      rintro e W3 (⟨rfl, hJ3, hk3⟩ | ⟨rfl, hJx3⟩)
      · have HK := Lib.hid (hk3 HS.out)
        have hBox3 := HK.out.1
        clear hk3
        gi_wp2
        go_roundw
        case rel => exact ⟨j, _, pre ++ [(j, v)], by omega, rfl, rfl, Lib.hid (by rw [show len - j = (len - (j + 1)) + 1 by omega]; exact hO.out.snoc (by omega) HV.out), hJ3, HK⟩
        case measure => simp [intOf]
      · gi_wp2
        refine bodyPost_ret (results_none rfl _ _ _) rfl ?_
        exact ⟨⟨_, rfl⟩, .inr ⟨_, ⟨(len - (j + 1)) + 1, by omega, hO.out.snoc (by omega) HV.out⟩, hJx3⟩⟩

set_option maxHeartbeats 1000000 in
/-- slices.Backward(s). -/
theorem back_in (F : Fence) (n : Nat) (hF : F.fn 44) (hro : F.round = none) (a : Option Addr) (len cap : Nat) (w : World) :
    CallsIn F n Tryd.prog 44 #[.slice a len cap] w fun e w' => e = .returned (.func (.func 68) #[] #[.pointer (some ⟨w.heap.size, 0, none⟩)]) ∧ w' = w.alloc (.cells #[.slice a len cap] 41) := by
  refine callsIn_of_wp Tryd.func44 rfl hF ?_ hro
  simp only [Tryd.ntmps44, List.size_toArray, List.length_cons, List.length_nil, Nat.reduceAdd, Nat.reduceSub, Array.replicate_succ, Array.replicate_zero, List.push_toArray, List.append_toArray, List.nil_append, List.cons_append]
  gi_wp2
  go_ret
  exact ⟨rfl, rfl⟩

theorem back_stops (F : Fence) (n : Nat) (hF : F.fn 68) (hro : F.round = none) (hn : 1 ≤ n) (Bs : Nat) (p : Option Addr) (len cap : Nat) (hreach : len ≤ 1048576) (V : Nat → Nat → Prop) (w : World) (hS : Src Bs p len cap V w) :
    SeqStopsK F n Tryd.prog 68 #[.pointer (some ⟨Bs, 0, none⟩)] (en len) (fun W W' => Src Bs p len cap V W → Src Bs p len cap V W') (Out V len len) (fun pre => ∃ k, k ≤ len ∧ Out V len k pre) len w := fun l J Jx W hW _ _ hY h0 =>
  back1_in F n hF hro hn l Bs p len cap hreach V J Jx hY W (hS.keep fun _ _ h => Gr.cell hW h) h0
theorem src_b {Bs : Nat} {p : Option Addr} {len cap : Nat} {V : Nat → Nat → Prop} {B : Nat} : ∀ (W : World) (l : Nat) (o o' : Obj), B ≤ l → W.heap[l]? = some o → o.isCells = false → o.isWalk = false → Src Bs p len cap V W → Src Bs p len cap V (W.putObj l o') := by
  intro W l o o' _ ho hc _ hS
  refine hS.keep fun a v h => ?_
  exact (cell_kept h (grownBy_putObj' _ l o') (fun r e => by cases e; exact ⟨_, ho, hc⟩))
/-- What speaks of cells that are there abides what the iterator lays beside them. -/
theorem own_keep {β : Type} {B : Nat} {I : β → World → Prop} (h : ∀ s W W', I s W → (∀ (a : Addr) (v : Value), W.cell? a = some v → W'.cell? a = some v ∧ W'.frozen? a = W.frozen? a) → I s W') : OwnFrom B I :=
  fun s W W' _ hs hg hr => h s W W' hs fun _ _ hc => ⟨cell_kept hc hg (fun r e => (hr r e).2), frozen_kept hc hg (fun r e => (hr r e).2)⟩
theorem own_gr {β : Type} {B : Nat} {w : World} (hB : w.heap.size ≤ B) : OwnFrom B (fun (_ : β) W => Gr w W) := ownFrom_below (Nat.le_refl _) hB
theorem Gr.keeps {B : Nat} {W W' : World} (h : Gr W W') : KeepsFrom B W W' :=
  ⟨h.size, fun k _ _ h0 _ => (h.block k (Array.getElem?_eq_some_iff.1 h0).1).trans h0⟩
theorem rd_keep {W W' : World} {p : Option Addr} {l : List Nat} (h : Rd W p l) (k : ∀ (a : Addr) (v : Value), W.cell? a = some v → W'.cell? a = some v ∧ W'.frozen? a = W.frozen? a) : Rd W' p l := by
  rcases h with rfl | ⟨b, off, rfl, hc⟩
  · exact .inl rfl
  · exact .inr ⟨b, off, rfl, fun i hi => (k _ _ (hc i hi)).1⟩
end Go.Proofs.YtfompolklkehpaaDoor.Nk


/- The contracts of cmp.Compare and of natural's Compare. -/
namespace Go.Proofs.YtfompolklkehpaaDoor.Nk
open Go.RowKit Go.Shelf Go.Proofs.YtfompolklkehpaaDoor.Nm Go.Proofs.YtfompolklkehpaaDoor.Ne

attribute [local go_sem] Oper.semAt_some

/-- -1, 0 or 1. -/
def ord (x y : Nat) : Int := if x < y then -1 else if y < x then 1 else 0
theorem ord_lt {x y : Nat} (h : x < y) : ord x y = -1 := if_pos h
theorem ord_gt {x y : Nat} (h : y < x) : ord x y = 1 := by unfold ord; rw [if_neg (by omega), if_pos h]
theorem ord_eq (x : Nat) : ord x x = 0 := by unfold ord; rw [if_neg (by omega), if_neg (by omega)]

theorem nan_int (x : Nat) (w : World) : Calls Tryd.prog 58 #[.int .i64 x] w fun e w' => e = .returned (.bool false) ∧ w' = w := by
  have h : ((x : Int) != (x : Int)) = false := by simp
  go_enter Tryd.func58, Tryd.ntmps58
  go_wp2
  go_ret
  exact ⟨rfl, rfl⟩
theorem nan_u32 (x : Nat) (w : World) : Calls Tryd.prog 112 #[.int .u32 x] w fun e w' => e = .returned (.bool false) ∧ w' = w := by
  have h : ((x : Int) != (x : Int)) = false := by simp
  go_enter Tryd.func112, Tryd.ntmps112
  go_wp2
  go_ret
  exact ⟨rfl, rfl⟩
set_option maxHeartbeats 1000000 in
theorem cmp_int (x y : Nat) (w : World) : Calls Tryd.prog 101 #[.int .i64 x, .int .i64 y] w fun e w' => e = .returned (.int .i64 (ord x y)) ∧ w' = w := by
  rcases Nat.lt_trichotomy x y with h | h | h
  · rw [ord_lt h]
    go_enter Tryd.func101, Tryd.ntmps101
    go_wp2_with (go_at_call 58; refine (nan_int _ _).mono ?_; rintro e w' ⟨rfl, rfl⟩)
    go_ret
    exact ⟨rfl, rfl⟩
  · subst h
    rw [ord_eq]
    go_enter Tryd.func101, Tryd.ntmps101
    go_wp2_with (go_at_call 58; refine (nan_int _ _).mono ?_; rintro e w' ⟨rfl, rfl⟩)
    go_ret
    exact ⟨rfl, rfl⟩
  · rw [ord_gt h]
    go_enter Tryd.func101, Tryd.ntmps101
    go_wp2_with (go_at_call 58; refine (nan_int _ _).mono ?_; rintro e w' ⟨rfl, rfl⟩)
    go_ret
    exact ⟨rfl, rfl⟩
set_option maxHeartbeats 1000000 in
theorem cmp_u32 (x y : Nat) (w : World) : Calls Tryd.prog 102 #[.int .u32 x, .int .u32 y] w fun e w' => e = .returned (.int .i64 (ord x y)) ∧ w' = w := by
  rcases Nat.lt_trichotomy x y with h | h | h
  · rw [ord_lt h]
    go_enter Tryd.func102, Tryd.ntmps102
    go_wp2_with (go_at_call 112; refine (nan_u32 _ _).mono ?_; rintro e w' ⟨rfl, rfl⟩)
    go_ret
    exact ⟨rfl, rfl⟩
  · subst h
    rw [ord_eq]
    go_enter Tryd.func102, Tryd.ntmps102
    go_wp2_with (go_at_call 112; refine (nan_u32 _ _).mono ?_; rintro e w' ⟨rfl, rfl⟩)
    go_ret
    exact ⟨rfl, rfl⟩
  · rw [ord_gt h]
    go_enter Tryd.func102, Tryd.ntmps102
    go_wp2_with (go_at_call 112; refine (nan_u32 _ _).mono ?_; rintro e w' ⟨rfl, rfl⟩)
    go_ret
    exact ⟨rfl, rfl⟩

theorem ord_length {l k : List Nat} (hl : ok l) (hk : ok k) (tl : Nm.tight l) (tk : Nm.tight k) (h : l.length ≠ k.length) : ord (val l) (val k) = ord l.length k.length := by
  rcases Nat.lt_trichotomy l.length k.length with h1 | h1 | h1
  · rw [ord_lt h1, ord_lt]
    rcases Nat.lt_or_ge (val l) (val k) with h2 | h2
    · exact h2
    · have := length_le_of_val hl tk h2; omega
  · exact absurd h1 h
  · rw [ord_gt h1, ord_gt]
    rcases Nat.lt_or_ge (val k) (val l) with h2 | h2
    · exact h2
    · have := length_le_of_val hk tl h2; omega
theorem lt_of_top {l k : List Nat} (hl : ok l) (e : l.length = k.length) (i : Nat) (hi : i < l.length) (h : l[i]?.getD 0 < k[i]?.getD 0) (h2 : ∀ j, i < j → j < l.length → l[j]?.getD 0 = k[j]?.getD 0) : val l < val k := by
  have ed : l.drop (i + 1) = k.drop (i + 1) := by
    apply List.ext_getElem?
    intro j
    rw [List.getElem?_drop, List.getElem?_drop]
    by_cases hj : i + 1 + j < l.length
    · have := h2 (i + 1 + j) (by omega) hj
      rw [List.getElem?_eq_getElem hj, List.getElem?_eq_getElem (by omega)] at this ⊢
      simpa using this
    · rw [List.getElem?_eq_none (by omega), List.getElem?_eq_none (by omega)]
  rw [val_take_drop l (i + 1) (by omega), val_take_drop k (i + 1) (by omega), ed, val_take_succ l i hi, val_take_succ k i (by omega)]
  have h3 := val_take_lt hl i
  have h4 := Nat.mul_le_mul_left (pw i) h
  rw [Nat.mul_succ] at h4
  omega
theorem ord_top {l k : List Nat} (hl : ok l) (hk : ok k) (e : l.length = k.length) (i : Nat) (hi : i < l.length) (h : l[i]?.getD 0 ≠ k[i]?.getD 0) (h2 : ∀ j, i < j → j < l.length → l[j]?.getD 0 = k[j]?.getD 0) :
    ord (val l) (val k) = ord (l[i]?.getD 0) (k[i]?.getD 0) := by
  rcases Nat.lt_trichotomy (l[i]?.getD 0) (k[i]?.getD 0) with h1 | h1 | h1
  · rw [ord_lt h1, ord_lt (lt_of_top hl e i hi h1 h2)]
  · exact absurd h1 h
  · rw [ord_gt h1, ord_gt (lt_of_top hk e.symm i (by omega) h1 (fun j a b => (h2 j a (by omega)).symm))]

set_option maxHeartbeats 2000000 in
theorem Compare_bad (p q : Option Addr) (n m c d : Nat) (l k : List Nat) (w : World) (hl : Nw w p n c l) (hk : Nw w q m d k) (hv : decide (valid l) = false ∨ decide (valid k) = false) :
    Calls Tryd.prog 79 #[.agg #[.slice p n c], .agg #[.slice q m d]] w fun e w' => e = .returned (.int .i64 0) ∧ Gr w w' := by
  have HL := Lib.hid hl
  have HK := Lib.hid hk
  have HV := Lib.hid hv
  have G0 := Lib.hid ((((Gr.refl w).alloc (.cells #[.slice p n c] 43)).alloc (.cells #[.slice q m d] 43)).alloc (.cells #[.int .i64 0] 3))
  clear hl hk hv
  go_enter Tryd.func79, Tryd.ntmps79
  go_wp2_with fail
  refine (Valid_n p n c l _ (HL.out.grow G0.out)).mono ?_
  rintro e w1 ⟨rfl, hg⟩
  have c2 := hg.cell (p := ⟨w.heap.size + 1, 0, none⟩) (v := .slice q m d) (by simp [go_sem])
  have c3 := hg.cell (p := ⟨w.heap.size + 1 + 1, 0, none⟩) (v := .int .i64 0) (by simp [go_sem])
  have f3 := hg.frozen (p := ⟨w.heap.size + 1 + 1, 0, none⟩) (v := .int .i64 0) (by simp [go_sem]) (by simp [go_sem])
  have GA := Lib.hid (G0.out.trans hg)
  clear hg
  cases hv1 : decide (valid l)
  · clear hv1
    go_wp2
    exact bodyPost_ret (v := .int .i64 0) (by simp [results, Tryd.results79, go_sem, c3]) rfl ⟨rfl, GA.out.setCell (by simp; omega) _⟩
  · have hv2 : decide (valid k) = false := by
      rcases HV.out with h | h
      · rw [hv1] at h; cases h
      · exact h
    clear hv1
    go_wp2_with fail
    refine (Valid_n q m d k _ (HK.out.grow GA.out)).mono ?_
    rintro e w2 ⟨rfl, hg⟩
    rw [hv2]
    have e3 := hg.cell c3
    have f4 := hg.frozen c3 f3
    have GB := Lib.hid (GA.out.trans hg)
    clear hg hv2 c2 c3 f3
    go_wp2
    exact bodyPost_ret (v := .int .i64 0) (by simp [results, Tryd.results79, go_sem, e3]) rfl ⟨rfl, GB.out.setCell (by simp; omega) _⟩
set_option maxHeartbeats 2000000 in
theorem Compare_len (p q : Option Addr) (n m c d : Nat) (l k : List Nat) (w : World) (hl : Nw w p n c l) (hk : Nw w q m d k) (hv1 : decide (valid l) = true) (hv2 : decide (valid k) = true) (hne : n ≠ m) :
    Calls Tryd.prog 79 #[.agg #[.slice p n c], .agg #[.slice q m d]] w fun e w' => e = .returned (.int .i64 (ord n m)) ∧ Gr w w' := by
  have HL := Lib.hid hl
  have HK := Lib.hid hk
  have HV1 := Lib.hid hv1
  have HV2 := Lib.hid hv2
  have hb : ((n : Int) != (m : Int)) = true := by simp; omega
  have hb2 : ((n : Int) == (m : Int)) = false := by simp; omega
  have G0 := Lib.hid ((((Gr.refl w).alloc (.cells #[.slice p n c] 43)).alloc (.cells #[.slice q m d] 43)).alloc (.cells #[.int .i64 0] 3))
  clear hl hk hv1 hv2 hne
  go_enter Tryd.func79, Tryd.ntmps79
  go_wp2_with fail
  refine (Valid_n p n c l _ (HL.out.grow G0.out)).mono ?_
  rintro e w1 ⟨rfl, hg⟩
  rw [HV1.out]
  have c1 := hg.cell (p := ⟨w.heap.size, 0, none⟩) (v := .slice p n c) (by simp [go_sem])
  have c2 := hg.cell (p := ⟨w.heap.size + 1, 0, none⟩) (v := .slice q m d) (by simp [go_sem])
  have c3 := hg.cell (p := ⟨w.heap.size + 1 + 1, 0, none⟩) (v := .int .i64 0) (by simp [go_sem])
  have f3 := hg.frozen (p := ⟨w.heap.size + 1 + 1, 0, none⟩) (v := .int .i64 0) (by simp [go_sem]) (by simp [go_sem])
  have GA := Lib.hid (G0.out.trans hg)
  clear hg
  go_wp2_with fail
  refine (Valid_n q m d k _ (HK.out.grow GA.out)).mono ?_
  rintro e w2 ⟨rfl, hg⟩
  rw [HV2.out]
  have e1 := hg.cell c1
  have e2 := hg.cell c2
  have e3 := hg.cell c3
  have f4 := hg.frozen c3 f3
  have GB := Lib.hid (GA.out.trans hg)
  clear hg c1 c2 c3 f3
  go_wp2_with fail
  refine (cmp_int n m _).mono ?_
  rintro e w3 ⟨rfl, rfl⟩
  go_wp2
  exact bodyPost_ret (v := .int .i64 (ord n m)) (by simp [results, Tryd.results79, go_sem, e3]) rfl ⟨rfl, GB.out.setCell (by simp; omega) _⟩

/-- Between two rounds: what has come is the same in k. -/
def CmpAt (w : World) (k : List Nat) (n : Nat) (q : Option Addr) (d : Nat) (pre : List (Nat × Nat)) (W : World) : Prop :=
  ((∀ x ∈ pre, x.2 = k[cl n x.1]?.getD 0) ∧ W.cell? ⟨w.heap.size + 1, 0, none⟩ = some (.slice q n d) ∧ W.cell? ⟨w.heap.size + 1 + 1, 0, none⟩ = some (.int .i64 0) ∧ W.frozen? ⟨w.heap.size + 1 + 1, 0, none⟩ = false) ∧ Rd W q k ∧ Gr w W
/-- A round has left: its word is another one in k. -/
def CmpIx (w : World) (k : List Nat) (n : Nat) (c : Code) (pre : List (Nat × Nat)) (W : World) : Prop :=
  (c = .ret ∧ ∃ ini last, pre = ini ++ [last] ∧ (∀ x ∈ ini, x.2 = k[cl n x.1]?.getD 0) ∧ last.2 ≠ k[cl n last.1]?.getD 0 ∧ W.cell? ⟨w.heap.size + 1 + 1, 0, none⟩ = some (.int .i64 (ord last.2 (k[cl n last.1]?.getD 0)))) ∧ Gr w W
theorem cmpAt_own {w : World} {k : List Nat} {n : Nat} {q : Option Addr} {d B : Nat} (hB : w.heap.size ≤ B) : OwnFrom B (CmpAt w k n q d) :=
  OwnFrom.and (own_keep fun _ _ _ h kk => ⟨h.1, (kk _ _ h.2.1).1, (kk _ _ h.2.2.1).1, (kk _ _ h.2.2.1).2.trans h.2.2.2⟩) (OwnFrom.and (own_keep fun _ _ _ h kk => rd_keep h kk) (own_gr hB))
theorem cmpIx_own {w : World} {k : List Nat} {n : Nat} {B : Nat} (hB : w.heap.size ≤ B) (c : Code) : OwnFrom B (CmpIx w k n c) :=
  OwnFrom.and (own_keep fun _ _ _ h kk => by obtain ⟨hc, ini, last, e1, e2, e3, e4⟩ := h; exact ⟨hc, ini, last, e1, e2, e3, (kk _ _ e4).1⟩) (own_gr hB)
theorem src_of {w : World} {p : Option Addr} {n c : Nat} {l : List Nat} (h : Nw w p n c l) : Src w.heap.size p n c (fun i v => v = l[i]?.getD 0) (w.alloc (.cells #[.slice p n c] 41)) := by
  refine ⟨by simp, ?_⟩
  rcases Nat.eq_zero_or_pos n with h0 | h0
  · exact .inl h0
  · obtain ⟨b, off, rfl, hc⟩ := (h.grow ((Gr.refl w).alloc (.cells #[.slice p n c] 41))).rd.at (by rw [h.len]; exact h0)
    exact .inr ⟨b, off, rfl, fun i hi => ⟨_, rfl, hc i (by rw [h.len]; exact hi)⟩⟩

theorem cmp_snoc {k : List Nat} {n i v : Nat} {pre : List (Nat × Nat)} (h : ∀ x ∈ pre, x.2 = k[cl n x.1]?.getD 0) (e : v = k[cl n i]?.getD 0) : ∀ x ∈ pre ++ [(i, v)], x.2 = k[cl n x.1]?.getD 0 := by
  intro x hx
  rcases List.mem_append.1 hx with h1 | h1
  · exact h x h1
  · obtain rfl := List.mem_singleton.1 h1
    exact e
theorem mem_dn {len k i : Nat} (hk : k ≤ len) : i ∈ dn len k ↔ i < len ∧ len - k ≤ i := by
  simp only [dn, List.mem_map, List.mem_range]
  constructor
  · rintro ⟨j, hj, rfl⟩; omega
  · rintro ⟨h1, h2⟩; exact ⟨len - 1 - i, by omega, by omega⟩
theorem Out.mem {V : Nat → Nat → Prop} {len k : Nat} {xs : List (Nat × Nat)} (h : Out V len k xs) (hk : k ≤ len) (i : Nat) (h1 : i < len) (h2 : len - k ≤ i) : ∃ v, (i, v) ∈ xs ∧ V i v := by
  have h3 : i ∈ xs.map Prod.fst := by rw [h.1]; exact (mem_dn hk).2 ⟨h1, h2⟩
  obtain ⟨⟨i', v⟩, h4, rfl⟩ := List.mem_map.1 h3
  exact ⟨v, h4, h.2 _ h4⟩
theorem cmp_done {l k : List Nat} {n : Nat} {xs : List (Nat × Nat)} (hl : l.length = n) (hk : k.length = n) (hO : Out (fun i v => v = l[i]?.getD 0) n n xs) (hA : ∀ x ∈ xs, x.2 = k[cl n x.1]?.getD 0) : l = k := by
  apply List.ext_getElem (by omega)
  intro i h1 h2
  obtain ⟨v, h3, h4⟩ := hO.mem (Nat.le_refl _) i (by omega) (by omega)
  have h5 := hA _ h3
  simp only [cl_of (show i < n by omega)] at h5
  rw [h4, List.getElem?_eq_getElem h1, List.getElem?_eq_getElem h2] at h5
  simpa using h5
theorem cmp_stop {l k : List Nat} {n : Nat} {pre ini : List (Nat × Nat)} {last : Nat × Nat} (ol : ok l) (okk : ok k) (hl : l.length = n) (hk : k.length = n) (hO : ∃ m, m ≤ n ∧ Out (fun i v => v = l[i]?.getD 0) n m pre)
    (e1 : pre = ini ++ [last]) (e2 : ∀ x ∈ ini, x.2 = k[cl n x.1]?.getD 0) (e3 : last.2 ≠ k[cl n last.1]?.getD 0) : ord (val l) (val k) = ord last.2 (k[cl n last.1]?.getD 0) := by
  obtain ⟨m, hm, hO⟩ := hO
  have hlen := hO.length
  rw [e1] at hlen
  simp at hlen
  subst hlen
  have h1 := hO.1
  rw [e1, List.map_append, dn_succ] at h1
  obtain ⟨h2, h3⟩ := List.append_inj' h1 rfl
  simp only [List.map_cons, List.map_nil, List.cons.injEq, and_true] at h3
  have hi : last.1 < n := by omega
  have hv : last.2 = l[last.1]?.getD 0 := hO.2 last (by rw [e1]; simp)
  rw [cl_of hi] at e3 ⊢
  rw [hv] at e3 ⊢
  refine ord_top ol okk (by omega) last.1 (by omega) e3 fun j hj1 hj2 => ?_
  have h4 : j ∈ ini.map Prod.fst := by rw [h2]; exact (mem_dn (by omega)).2 ⟨by omega, by omega⟩
  obtain ⟨⟨j', v⟩, h5, rfl⟩ := List.mem_map.1 h4
  have h6 := hO.2 (j', v) (by rw [e1]; exact List.mem_append_left _ h5)
  have h7 := e2 _ h5
  simp only at h6 h7 hj1 hj2
  rw [cl_of (show j' < n by omega)] at h7
  exact h6.symm.trans h7
theorem gr_trans {a b c : World} (h : Gr a b) (k : Below a.heap.size b c) : Gr a c := Below.trans h k

set_option maxRecDepth 100000 in
set_option maxHeartbeats 4000000 in
theorem Compare_eqlen (p q : Option Addr) (n c d : Nat) (l k : List Nat) (w : World) (hl : Nw w p n c l) (hk : Nw w q n d k) (hv1 : decide (valid l) = true) (hv2 : decide (valid k) = true) :
    Calls Tryd.prog 79 #[.agg #[.slice p n c], .agg #[.slice q n d]] w fun e w' => e = .returned (.int .i64 (ord (val l) (val k))) ∧ Gr w w' := by
  have HL := Lib.hid hl
  have HK := Lib.hid hk
  have HV1 := Lib.hid hv1
  have HV2 := Lib.hid hv2
  have G0 := Lib.hid ((((Gr.refl w).alloc (.cells #[.slice p n c] 43)).alloc (.cells #[.slice q n d] 43)).alloc (.cells #[.int .i64 0] 3))
  have hn := hl.small
  clear hl hk hv1 hv2
  refine (callsIn_wide (n := 3)).1 ?_
  have t1 : Fence.wide.fn 68 := trivial
  have h1 : 1 ≤ 3 := by decide
  refine callsIn_of_wp_marks Tryd.func79 rfl trivial ?_ rfl
  simp only [Tryd.ntmps79, List.size_toArray, List.length_cons, List.length_nil, Nat.reduceAdd, Nat.reduceSub, Array.replicate_succ, Array.replicate_zero, List.push_toArray, List.append_toArray, List.nil_append, List.cons_append]
  gi_wp2_with fail
  refine ⟨trivial, (callsIn_wide.2 (Valid_n p n c l _ (HL.out.grow G0.out))).mono ?_⟩
  rintro e w1 ⟨rfl, hg⟩
  rw [HV1.out]
  have c1 := hg.cell (p := ⟨w.heap.size, 0, none⟩) (v := .slice p n c) (by simp [go_sem])
  have c2 := hg.cell (p := ⟨w.heap.size + 1, 0, none⟩) (v := .slice q n d) (by simp [go_sem])
  have c3 := hg.cell (p := ⟨w.heap.size + 1 + 1, 0, none⟩) (v := .int .i64 0) (by simp [go_sem])
  have f3 := hg.frozen (p := ⟨w.heap.size + 1 + 1, 0, none⟩) (v := .int .i64 0) (by simp [go_sem]) (by simp [go_sem])
  have GA := Lib.hid (G0.out.trans hg)
  clear hg
  gi_wp2_with fail
  refine ⟨trivial, (callsIn_wide.2 (Valid_n q n d k _ (HK.out.grow GA.out))).mono ?_⟩
  rintro e w2 ⟨rfl, hg⟩
  rw [HV2.out]
  have e1 := hg.cell c1
  have e2 := hg.cell c2
  have e3 := hg.cell c3
  have f4 := hg.frozen c3 f3
  have GB := Lib.hid (GA.out.trans hg)
  clear hg c1 c2 c3 f3
  gi_wp2_with fail
  refine ⟨trivial, (back_in _ _ trivial rfl _ _ _ _).mono ?_⟩
  rintro e w3 ⟨rfl, rfl⟩
  gi_wp2_with fail
  have hz3 : w.heap.size + 1 + 1 < w2.heap.size := World.block_lt_of_cell? w2 _ e3
  have HS : Hid (Src w2.heap.size p n c (fun i v => v = l[i]?.getD 0) (w2.alloc (.cells #[.slice p n c] 41))) := Lib.hid (src_of (HL.out.grow GB.out))
  have HI0 : Hid (CmpAt w k n q d [] (w2.alloc (.cells #[.slice p n c] 41))) := Lib.hid
    ⟨⟨fun x hx => (by cases hx), ((Gr.refl w2).alloc _).cell e2, ((Gr.refl w2).alloc _).cell e3, ((Gr.refl w2).alloc _).frozen e3 f4⟩, ((HK.out.grow GB.out).grow ((Gr.refl _).alloc _)).rd, GB.out.alloc _⟩
  refine wpIn_rangeFunc_ownG rfl h1 (gf := 68) (lb := #[.pointer (some ⟨w2.heap.size, 0, none⟩)]) rfl trivial (enters_of Tryd.func68 (by kernel_rfl) rfl)
    (back_stops Fence.wide (3 - 1) trivial rfl (by decide) w2.heap.size p n c hn (fun i v => v = l[i]?.getD 0) _ HS.out) (fun h k s => k (h s)) src_b (Below.refl _ _) (fun _ => rfl)
    (CmpAt w k n q d) (CmpIx w k n) (cmpAt_own (by simp; omega)) (cmpIx_own (by simp; omega)) HI0.out ?a1 ?assign ?body ?done ?stop
  case assign =>
    intro l x W K hK
    unfold en
    gi_wp2
    exact hK
  case body =>
    rintro l2 pre ⟨i, v⟩ W ⟨⟨hA, c2, c3, f3⟩, hQ, hB⟩ hlt
    have hj : cl n i < n := cl_lt (by omega)
    have HA := Lib.hid hA
    have HB := Lib.hid hB
    have HQ := Lib.hid hQ
    obtain ⟨b, off, rfl, hc⟩ := hQ.at (by rw [HK.out.len]; omega)
    have hcx := hc (cl n i) (by rw [HK.out.len]; omega)
    obtain ⟨y, hy⟩ : ∃ y, k[cl n i]?.getD 0 = y := ⟨_, rfl⟩
    rw [hy] at hcx
    have HY := Lib.hid hy
    clear hA hB hc hQ hy hlt e1 e2 e3 f4
    obtain ⟨j, hjj⟩ : ∃ j, cl n i = j := ⟨_, rfl⟩
    rw [hjj] at hcx hj HY ⊢
    have HJ := Lib.hid hjj
    clear hjj
    by_cases hvy : v = y
    · subst hvy
      have hne : ((v : Int) != (v : Int)) = false := by simp
      gi_wp2
      exact ⟨KeepsFrom.refl _ _, fun h => h, ⟨cmp_snoc HA.out (by rw [HJ.out, HY.out]), c2, c3, f3⟩, HQ.out, HB.out⟩
    · have hne : ((v : Int) != (y : Int)) = true := by simp; omega
      have HN := Lib.hid hvy
      clear hvy
      gi_wp2_with fail
      refine ⟨trivial, (CallsIn.inRound l2 (callsIn_wide.2 (cmp_u32 v y _))).mono ?_⟩
      rintro e W3 ⟨rfl, rfl⟩
      gi_wp2
      exact ⟨(KeepsOthers.setCell _ _ _).from _, ⟨rfl, pre, (i, v), rfl, HA.out, (by rw [HJ.out, HY.out]; exact HN.out), by rw [HJ.out, HY.out]; exact World.cell?_setCell_same' _ _ _ (by rw [c3]; rfl)⟩, HB.out.setCell (by simp; omega) _⟩
  case done =>
    rintro D xs W hD hO ⟨⟨hA, c2, c3, f3⟩, hQ, hB⟩ hK
    have e0 : ord (val l) (val k) = 0 := by rw [cmp_done HL.out.len HK.out.len hO hA, ord_eq]
    have E0 := Lib.hid e0
    have hDw : w.heap.size ≤ D := by simp at hD; omega
    clear e0 hA hO
    gi_wp2
    have hK' := (KeepsOthers.setCell W ⟨w.heap.size + 1 + 1, 0, none⟩ (.int .i64 0)).same D _ hK rfl
    refine ⟨by simp, .inl ⟨_, _, rfl, run_takeDeferred hK', ?_⟩⟩
    have hc5 := cell_kept (World.cell?_setCell_same' W ⟨w.heap.size + 1 + 1, 0, none⟩ (.int .i64 0) (by rw [c3]; rfl)) (grownBy_putObj' _ D (.deferred none)) (fun r e => by cases e; exact ⟨_, hK', rfl⟩)
    refine ⟨.int .i64 0, by simp [results, Tryd.results79, go_sem, hc5], by rw [E0.out], gr_trans (Gr.setCell hB (p := ⟨w.heap.size + 1 + 1, 0, none⟩) (by simp; omega) _) (belowK_b (w := w) (Nat.le_refl _) _ D _ _ hDw hK' rfl rfl)⟩
  case stop =>
    rintro D c pre W hD hO ⟨⟨rfl, ini, last, e1, e2, e3, hcr⟩, hB⟩ hK
    have e0 : ord (val l) (val k) = ord last.2 (k[cl n last.1]?.getD 0) := cmp_stop HL.out.ok HK.out.ok HL.out.len HK.out.len hO e1 e2 e3
    have E0 := Lib.hid e0
    have hDw : w.heap.size ≤ D := by simp at hD; omega
    clear e0 hO e1 e2 e3
    gi_wp2
    refine ⟨by simp, .inl ⟨_, _, rfl, run_takeDeferred hK, ?_⟩⟩
    have hc5 := cell_kept hcr (grownBy_putObj' _ D (.deferred none)) (fun r e => by cases e; exact ⟨_, hK, rfl⟩)
    refine ⟨_, by simp [results, Tryd.results79, go_sem, hc5]; rfl, by rw [E0.out], gr_trans hB (belowK_b (w := w) (Nat.le_refl _) W D _ _ hDw hK rfl rfl)⟩
end Go.Proofs.YtfompolklkehpaaDoor.Nk


/- The contracts of natural's Of, Int, Bit. -/
namespace Go.Proofs.YtfompolklkehpaaDoor.Nk
open Go.RowKit Go.Shelf Go.Proofs.YtfompolklkehpaaDoor.Nm Go.Proofs.YtfompolklkehpaaDoor.Ne Go.Proofs.YtfompolklkehpaaDoor.Nf

attribute [local go_sem] Oper.semAt_some

theorem Compare_ok (p q : Option Addr) (n m c d : Nat) (l k : List Nat) (w : World) (hl : Nw w p n c l) (hk : Nw w q m d k) (hv1 : decide (valid l) = true) (hv2 : decide (valid k) = true) :
    Calls Tryd.prog 79 #[.agg #[.slice p n c], .agg #[.slice q m d]] w fun e w' => e = .returned (.int .i64 (ord (val l) (val k))) ∧ Gr w w' := by
  by_cases h : n = m
  · subst h; exact Compare_eqlen p q n c d l k w hl hk hv1 hv2
  · rw [ord_length hl.ok hk.ok (of_decide_eq_true hv1).2 (of_decide_eq_true hv2).2 (by rw [hl.len, hk.len]; exact h), hl.len, hk.len]
    exact Compare_len p q n m c d l k w hl hk hv1 hv2 h

/-- The number of bits. -/
theorem nbits_spec {l : List Nat} (hl : ok l) (ht : Nm.tight l) (h0 : l ≠ []) : 0 < nbits l ∧ 2 ^ (nbits l - 1) ≤ val l ∧ val l < 2 ^ nbits l := by
  have hn : 0 < l.length := List.length_pos_iff.2 h0
  have hx : l[l.length - 1]?.getD 0 ≠ 0 := by
    rcases ht with h | h
    · omega
    · exact h
  have hv := val_take_succ l (l.length - 1) (by omega)
  rw [show l.length - 1 + 1 = l.length by omega, List.take_length] at hv
  have h1 := val_take_lt hl (l.length - 1)
  have h2 := ok_get hl (l.length - 1)
  have e : nbits l = 32 * (l.length - 1) + Lib.bitLen (l[l.length - 1]?.getD 0) := by unfold nbits; rw [if_neg h0]
  obtain ⟨b1, b2, b3⟩ := Lib.bitLenAux_bounds 64 (l[l.length - 1]?.getD 0) (by omega) hx
  change 1 ≤ Lib.bitLen _ at b1
  change 2 ^ (Lib.bitLen _ - 1) ≤ _ at b2
  change _ < 2 ^ Lib.bitLen _ at b3
  rw [pw_eq] at hv h1
  generalize l[l.length - 1]?.getD 0 = x at *
  generalize Lib.bitLen x = B at *
  generalize l.length - 1 = N at *
  rw [e]
  refine ⟨by omega, ?_, ?_⟩
  · rw [show 32 * N + B - 1 = 32 * N + (B - 1) by omega, Nat.pow_add]
    have := Nat.mul_le_mul_left (2 ^ (32 * N)) b2
    omega
  · rw [Nat.pow_add]
    have := Nat.mul_le_mul_left (2 ^ (32 * N)) b3
    rw [Nat.mul_succ] at this
    omega
theorem nbits_le {l : List Nat} (hl : ok l) (ht : Nm.tight l) (k : Nat) : nbits l ≤ k ↔ val l < 2 ^ k := by
  by_cases h0 : l = []
  · subst h0; simp [nbits, val]; exact Nat.pos_of_ne_zero (by simp)
  · obtain ⟨h1, h2, h3⟩ := nbits_spec hl ht h0
    constructor
    · intro h; exact Nat.lt_of_lt_of_le h3 (Nat.pow_le_pow_right (by decide) h)
    · intro h
      rcases Nat.lt_or_ge k (nbits l) with hk | hk
      · have := Nat.pow_le_pow_right (n := 2) (by decide) (show k ≤ nbits l - 1 by omega)
        omega
      · exact hk
theorem testBit_val {l : List Nat} (hl : ok l) (i : Nat) : (val l).testBit i = (l[i / 32]?.getD 0).testBit (i % 32) := by
  by_cases hi : i / 32 < l.length
  · have hv := val_take_drop l (i / 32) (by omega)
    have h1 := val_take_lt hl (i / 32)
    have h2 := ok_get hl (i / 32)
    rw [List.drop_eq_getElem_cons hi] at hv
    rw [List.getElem?_eq_getElem hi, Option.getD_some] at h2 ⊢
    simp only [val] at hv
    rw [pw_eq] at hv h1
    rw [Nat.testBit_eq_decide_div_mod_eq, Nat.testBit_eq_decide_div_mod_eq]
    generalize l[i / 32] = x at *
    generalize val (List.drop (i / 32 + 1) l) = D at *
    have e1 : val l / 2 ^ i = (x + 4294967296 * D) / 2 ^ (i % 32) := by
      have e0 : 2 ^ i = 2 ^ (32 * (i / 32)) * 2 ^ (i % 32) := by rw [← Nat.pow_add]; congr 1; omega
      rw [e0, ← Nat.div_div_eq_div_mul]
      congr 1
      rw [hv, Nat.add_mul_div_left _ _ (Nat.pos_of_ne_zero (by simp)), Nat.div_eq_of_lt h1, Nat.zero_add]
    have ht : i % 32 < 32 := Nat.mod_lt _ (by decide)
    generalize i % 32 = t at *
    rw [e1]
    have e2 : 4294967296 * D = 2 ^ t * (2 ^ (31 - t) * (2 * D)) := by
      rw [← Nat.mul_assoc, ← Nat.pow_add, show t + (31 - t) = 31 by omega, ← Nat.mul_assoc]
    rw [e2, Nat.add_mul_div_left _ _ (Nat.pos_of_ne_zero (by simp))]
    congr 1
    rw [Nat.mul_left_comm, Nat.add_mul_mod_self_left]
  · rw [List.getElem?_eq_none (by omega)]
    have := val_lt hl
    rw [pw_eq] at this
    rw [Nat.testBit_lt_two_pow (Nat.lt_of_lt_of_le this (Nat.pow_le_pow_right (by decide) (by omega)))]
    simp

theorem and_one (x t : Nat) (hx : x < 4294967296) : (bits .and .u32 ((x : Int) / 2 ^ t) 1 == 1) = x.testBit t := by
  have e1 : (x : Int) / 2 ^ t = ((x / 2 ^ t : Nat) : Int) := by rw [Int.natCast_ediv, Int.natCast_pow]; rfl
  have e2 := (Nb.bits_u32 (x / 2 ^ t) 1 (Nat.lt_of_le_of_lt (Nat.div_le_self _ _) hx) (by decide)).1
  rw [e1, show (1 : Int) = ((1 : Nat) : Int) from rfl, e2, Nat.testBit_eq_decide_div_mod_eq, Nat.and_one_is_mod]
  rw [Bool.eq_iff_iff]
  simp
  omega
set_option maxHeartbeats 1000000 in
theorem Of_neg (x : Int) (h : x < 0) (w : World) : Calls Tryd.prog 69 #[.int .i64 x] w (Failed 2 w) := by
  go_enter Tryd.func69, Tryd.ntmps69
  go_wp2
  exact bodyPost_ret (v := .tuple #[.agg #[.slice none 0 0], .int .i64 2]) (by simp [results, Tryd.results69, go_sem]) rfl ⟨rfl, (Gr.refl _).alloc _⟩
set_option maxHeartbeats 1000000 in
theorem Of_ok (x : Nat) (h : x < 9223372036854775808) (w : World) : Calls Tryd.prog 69 #[.int .i64 x] w (Gave x w) := by
  obtain ⟨lo, hlo⟩ : ∃ lo, x % 4294967296 = lo := ⟨_, rfl⟩
  obtain ⟨hi, hhi⟩ : ∃ hi, x / 4294967296 = hi := ⟨_, rfl⟩
  have d1 : (x : Int) % 4294967296 = (lo : Int) := by omega
  have d2 : (x : Int) / 4294967296 = (hi : Int) := by omega
  have hh : hi < 2147483648 := by omega
  have HX : Hid (val [lo, hi] = x) := Lib.hid (by simp only [val]; omega)
  have HO : Hid (ok [lo, hi]) := Lib.hid (by simp only [ok_cons]; exact ⟨by omega, by omega, ok_nil⟩)
  have HP : Hid (x < pw 64) := Lib.hid (by have := pw_mono (show 2 ≤ 64 by decide); have : pw 2 = 18446744073709551616 := rfl; omega)
  clear hlo hhi h
  go_enter Tryd.func69, Tryd.ntmps69
  go_wp2_with fail
  have hh2 : Hold ((w.alloc (.cells #[.slice none 0 0] 43)).alloc (.cells #[.int .u32 lo, .int .u32 hi] 35)) (w.heap.size + 1) 0 [lo, hi] := by
    refine hold_block ?_
    have := heap_alloc_new (w.alloc (.cells #[.slice none 0 0] 43)) (.cells #[.int .u32 lo, .int .u32 hi] 35)
    rwa [World.size_alloc] at this
  refine (fit_gave (some ⟨w.heap.size + 1, 0, none⟩) 2 2 [lo, hi] rfl (by decide) (by decide) (fun e => by cases e) HO.out w.heap.size _ (hh2.own (by omega)) (by rw [HX.out]; exact HP.out)).mono ?_
  rintro e w2 ⟨n2, rfl, hr, hg⟩
  have c2 := hg.cell (p := ⟨w.heap.size, 0, none⟩) (v := .slice none 0 0) (by simp [go_sem])
  have f2 := hg.frozen (p := ⟨w.heap.size, 0, none⟩) (v := .slice none 0 0) (by simp [go_sem]) (by simp [go_sem])
  have HR := Lib.hid hr
  have HG := Lib.hid ((((Gr.refl w).alloc (.cells #[.slice none 0 0] 43)).alloc (.cells #[.int .u32 lo, .int .u32 hi] 35)).trans hg)
  clear hr hg hh2
  go_wp2
  exact bodyPost_ret (v := .tuple #[.agg #[.slice (some ⟨w.heap.size + 1, 0, none⟩) n2 2], .int .i64 0]) (by simp [results, Tryd.results69, go_sem, c2]) rfl
    ⟨_, _, _, rfl, by rw [← HX.out]; exact HR.out.set _ _ (fun x e => by cases e; simp), HG.out.setCell (by simp) _⟩

set_option maxHeartbeats 1000000 in
theorem Bit_bad (p : Option Addr) (n c : Nat) (l : List Nat) (i : Int) (w : World) (h : Nw w p n c l) (hv : decide (valid l) = false) :
    Calls Tryd.prog 94 #[.agg #[.slice p n c], .int .i64 i] w fun e w' => e = .returned (.bool false) ∧ Gr w w' := by
  have H := Lib.hid h
  have HV := Lib.hid hv
  clear h hv
  go_enter Tryd.func94, Tryd.ntmps94
  go_wp2_with fail
  refine (Valid_n p n c l _ (H.out.grow ((Gr.refl _).alloc _))).mono ?_
  rintro e w1 ⟨rfl, hg⟩
  rw [HV.out]
  go_wp2
  go_ret
  exact ⟨rfl, ((Gr.refl _).alloc _).trans hg⟩
set_option maxHeartbeats 1000000 in
theorem Bit_neg (p : Option Addr) (n c : Nat) (l : List Nat) (i : Int) (hi : i < 0) (w : World) (h : Nw w p n c l) (hv : decide (valid l) = true) :
    Calls Tryd.prog 94 #[.agg #[.slice p n c], .int .i64 i] w fun e w' => e = .returned (.bool false) ∧ Gr w w' := by
  have H := Lib.hid h
  have HV := Lib.hid hv
  clear h hv
  go_enter Tryd.func94, Tryd.ntmps94
  go_wp2_with fail
  refine (Valid_n p n c l _ (H.out.grow ((Gr.refl _).alloc _))).mono ?_
  rintro e w1 ⟨rfl, hg⟩
  rw [HV.out]
  go_wp2
  go_ret
  exact ⟨rfl, ((Gr.refl _).alloc _).trans hg⟩
set_option maxHeartbeats 2000000 in
theorem Bit_ok (p : Option Addr) (n c : Nat) (l : List Nat) (i : Nat) (w : World) (h : Nw w p n c l) (hv : decide (valid l) = true) (hi : i < 9223372036854775808) :
    Calls Tryd.prog 94 #[.agg #[.slice p n c], .int .i64 i] w fun e w' => e = .returned (.bool ((val l).testBit i)) ∧ Gr w w' := by
  have HT := Lib.hid (testBit_val h.ok i)
  have hx := ok_get h.ok (i / 32)
  have hn := h.small
  have H := Lib.hid h
  have HV := Lib.hid hv
  obtain ⟨q, hq⟩ : ∃ q, i / 32 = q := ⟨_, rfl⟩
  obtain ⟨t, ht⟩ : ∃ t, i % 32 = t := ⟨_, rfl⟩
  have d1 : (i : Int) / 32 = (q : Int) := by omega
  have d2 : (i : Int) % 32 = (t : Int) := by omega
  have ht32 : t < 32 := by omega
  rw [hq] at HT hx
  rw [ht] at HT
  clear h hv hq ht
  by_cases hlt : q < n
  · obtain ⟨b, off, rfl, hc⟩ := H.out.rd.at (by rw [H.out.len]; omega)
    have hc1 := hc q (by rw [H.out.len]; omega)
    clear hc
    generalize l[q]?.getD 0 = x at *
    have E : Hid ((bits .and .u32 ((x : Int) / 2 ^ t) 1 == 1) = x.testBit t) := Lib.hid (and_one x t hx)
    go_enter Tryd.func94, Tryd.ntmps94
    go_wp2_with fail
    refine (Valid_n (some ⟨b, off, none⟩) n c l _ (H.out.grow ((Gr.refl _).alloc _))).mono ?_
    rintro e w1 ⟨rfl, hg⟩
    rw [HV.out]
    have k1 := hg.cell (World.cell?_alloc_new (w := w) #[.slice (some ⟨b, off, none⟩) n c] 43 0)
    have k2 := (((Gr.refl w).alloc _).trans hg).cell hc1
    have HG := Lib.hid (((Gr.refl w).alloc (.cells #[.slice (some ⟨b, off, none⟩) n c] 43)).trans hg)
    clear hg hc1
    go_wp2
    go_ret
    exact ⟨ret_bool (by rw [HT.out]; exact E.out), HG.out⟩
  · have HF : Hid ((0 : Nat).testBit t = (val l).testBit i) := Lib.hid (by rw [HT.out, List.getElem?_eq_none (by rw [H.out.len]; omega)]; rfl)
    go_enter Tryd.func94, Tryd.ntmps94
    go_wp2_with fail
    refine (Valid_n p n c l _ (H.out.grow ((Gr.refl _).alloc _))).mono ?_
    rintro e w1 ⟨rfl, hg⟩
    rw [HV.out]
    have k1 := hg.cell (World.cell?_alloc_new (w := w) #[.slice p n c] 43 0)
    go_wp2
    go_ret
    exact ⟨ret_bool (by rw [← HF.out]; simp), ((Gr.refl _).alloc _).trans hg⟩

theorem Bits_n (p : Option Addr) (n c : Nat) (l : List Nat) (w : World) (h : Nw w p n c l) (hv : decide (valid l) = true) :
    Calls Tryd.prog 43 #[.agg #[.slice p n c]] w fun e w' => e = .returned (.int .i64 (nbits l)) ∧ Gr w w' := by
  have := h.len; subst this
  exact Bits_ok p l c w h.rd hv h.ok
theorem Bits_bad_n (p : Option Addr) (n c : Nat) (l : List Nat) (w : World) (h : Nw w p n c l) (hv : decide (valid l) = false) :
    Calls Tryd.prog 43 #[.agg #[.slice p n c]] w fun e w' => e = .returned (.int .i64 0) ∧ Gr w w' := by
  have := h.len; subst this
  exact Bits_bad p l c (Nat.le_trans h.small (by decide)) w h.rd hv

set_option maxHeartbeats 1000000 in
theorem Int_bad (p : Option Addr) (n c : Nat) (l : List Nat) (w : World) (h : Nw w p n c l) (hv : decide (valid l) = false) :
    Calls Tryd.prog 24 #[.agg #[.slice p n c]] w fun e w' => e = .returned (.tuple #[.int .i64 0, .int .i64 1]) ∧ Gr w w' := by
  have H := Lib.hid h
  have HV := Lib.hid hv
  clear h hv
  go_enter Tryd.func24, Tryd.ntmps24
  go_wp2_with fail
  refine (Valid_n p n c l _ (H.out.grow ((Gr.refl _).alloc _))).mono ?_
  rintro e w1 ⟨rfl, hg⟩
  rw [HV.out]
  go_wp2
  go_ret2
  exact ⟨rfl, ((Gr.refl _).alloc _).trans hg⟩
set_option maxHeartbeats 1000000 in
theorem Int_big (p : Option Addr) (n c : Nat) (l : List Nat) (w : World) (h : Nw w p n c l) (hv : decide (valid l) = true) (hb : 64 ≤ nbits l) :
    Calls Tryd.prog 24 #[.agg #[.slice p n c]] w fun e w' => e = .returned (.tuple #[.int .i64 0, .int .i64 9]) ∧ Gr w w' := by
  have H := Lib.hid h
  have HV := Lib.hid hv
  have HB := Lib.hid (fun w h => Bits_n p n c l w h hv)
  clear h hv
  generalize nbits l = B at *
  go_enter Tryd.func24, Tryd.ntmps24
  go_wp2_with fail
  refine (Valid_n p n c l _ (H.out.grow ((Gr.refl _).alloc _))).mono ?_
  rintro e w1 ⟨rfl, hg⟩
  rw [HV.out]
  have k1 := hg.cell (World.cell?_alloc_new (w := w) #[.slice p n c] 43 0)
  have HG := Lib.hid (((Gr.refl w).alloc (.cells #[.slice p n c] 43)).trans hg)
  clear hg
  go_wp2_with fail
  refine (HB.out _ (H.out.grow HG.out)).mono ?_
  rintro e w2 ⟨rfl, hg⟩
  go_wp2
  go_ret2
  exact ⟨rfl, HG.out.trans hg⟩

/-- One word more: the number read so far, moved by a word. -/
def stp (X : Int) (v : Nat) : Int := bits .or .i64 (wrap64 (X * 4294967296)) (wrap64 (v : Int))
def acc (pre : List (Nat × Nat)) : Int := pre.foldl (fun X x => stp X x.2) 0
theorem acc_snoc (pre : List (Nat × Nat)) (i v : Nat) : acc (pre ++ [(i, v)]) = stp (acc pre) v := by simp [acc]
/-- Between two rounds. -/
def IntAt (w : World) (B : Nat) (pre : List (Nat × Nat)) (W : World) : Prop :=
  (W.cell? ⟨B, 0, none⟩ = some (.int .i64 (acc pre)) ∧ W.frozen? ⟨B, 0, none⟩ = false) ∧ Gr w W
theorem intAt_own {w : World} {B C : Nat} (hB : w.heap.size ≤ C) : OwnFrom C (IntAt w B) :=
  OwnFrom.and (own_keep fun _ _ _ h kk => ⟨(kk _ _ h.1).1, (kk _ _ h.1).2.trans h.2⟩) (own_gr hB)

theorem or_i64 (a b : Nat) (ha : a < 9223372036854775808) (hb : b < 9223372036854775808) : bits .or .i64 (a : Int) (b : Int) = ((a ||| b : Nat) : Int) := by
  have hx : a ||| b < 2 ^ 63 := Nat.or_lt_two_pow (by omega) (by omega)
  have h1 : (BitVec.ofInt 64 (a : Int)).toNat = a := by
    rw [BitVec.ofInt_natCast, BitVec.toNat_ofNat]; exact Nat.mod_eq_of_lt (by omega)
  have h2 : (BitVec.ofInt 64 (b : Int)).toNat = b := by
    rw [BitVec.ofInt_natCast, BitVec.toNat_ofNat]; exact Nat.mod_eq_of_lt (by omega)
  show IntKind.i64.wrap ((BitVec.ofInt 64 (a : Int) ||| BitVec.ofInt 64 (b : Int)).toNat : Int) = _
  rw [BitVec.toNat_or, h1, h2, IntKind.wrap_i64]; omega
theorem stp_eq (x v : Nat) (hx : x < 2147483648) (hv : v < 4294967296) : stp (x : Int) v = ((v + 4294967296 * x : Nat) : Int) := by
  unfold stp
  have e1 : wrap64 ((x : Int) * 4294967296) = ((x * 4294967296 : Nat) : Int) := by unfold wrap64; omega
  have e2 : wrap64 (v : Int) = (v : Int) := by unfold wrap64; omega
  rw [e1, e2, or_i64 _ _ (by omega) (by omega)]
  have := Nat.shiftLeft_add_eq_or_of_lt (i := 32) (b := v) (by omega) x
  rw [Nat.shiftLeft_eq, show (2 : Nat) ^ 32 = 4294967296 from rfl] at this
  rw [← this]
  congr 1
  omega
theorem stp_zero (v : Nat) (hv : v < 4294967296) : stp 0 v = (v : Int) := by
  have := stp_eq 0 v (by omega) hv
  have e : ((0 : Nat) : Int) = 0 := rfl
  rw [e, Nat.mul_zero, Nat.add_zero] at this
  exact this
theorem foldl_one {β : Type} (f : β → Nat → β) (b : β) (x : Nat × Nat) : [x].foldl (fun X y => f X y.2) b = f b x.2 := rfl
theorem foldl_two {β : Type} (f : β → Nat → β) (b : β) (x y : Nat × Nat) : [x, y].foldl (fun X y => f X y.2) b = f (f b x.2) y.2 := rfl
theorem acc_one (x : Nat × Nat) : acc [x] = stp 0 x.2 := by
  unfold acc
  exact foldl_one stp 0 x
theorem acc_two (x y : Nat × Nat) : acc [x, y] = stp (stp 0 x.2) y.2 := by
  unfold acc
  exact foldl_two stp 0 x y
theorem acc_done {w : World} {p : Option Addr} {n c : Nat} {l : List Nat} {xs : List (Nat × Nat)} (h : Nw w p n c l) (hO : Out (fun i v => v = l[i]?.getD 0) n n xs) (hv : val l < 2 ^ 63) (ht : Nm.tight l) : acc xs = val l := by
  have hl := h.ok
  have en := h.len
  have hn : l.length ≤ 2 := by
    rcases Nat.lt_or_ge 2 l.length with h2 | h2
    · have h3 := pw_le_val ht (fun e => by rw [e] at h2; simp at h2)
      have h4 := pw_mono (show 2 ≤ l.length - 1 by omega)
      have : pw 2 = 18446744073709551616 := rfl
      omega
    · exact h2
  have hxl := hO.length
  subst en
  match l, xs, hl, hO, hv, hn, hxl with
  | [], [], _, _, _, _, _ => rfl
  | [a], [(i, v)], hl, hO, hv, _, _ =>
    have h1 := hO.1
    simp [dn] at h1
    have h2 := hO.2 (i, v) (by simp)
    simp [h1] at h2
    rw [h2, acc_one, stp_zero a (hl a (by simp))]
    simp [val]
  | [a, b], [(i, v), (j, u)], hl, hO, hv, _, _ =>
    have h1 := hO.1
    simp [dn, List.range_succ] at h1
    have h2 := hO.2 (i, v) (by simp)
    have h3 := hO.2 (j, u) (by simp)
    rw [h1.1] at h2
    rw [h1.2] at h3
    simp at h2 h3
    simp only [val] at hv
    rw [acc_two, h2, h3, stp_zero b (hl b (by simp)), stp_eq b a (by omega) (hl a (by simp))]
    simp only [val, Nat.mul_zero, Nat.add_zero]
theorem nw_block {w : World} {p : Option Addr} {n c : Nat} {l : List Nat} (h : Nw w p n c l) {a : Addr} (ha : p = some a) (h0 : 0 < n) : a.block < w.heap.size := by
  obtain ⟨b, off, e, hc⟩ := h.rd.at (by rw [h.len]; exact h0)
  rw [ha] at e
  cases e
  exact World.block_lt_of_cell? w _ (hc 0 (by rw [h.len]; exact h0))
theorem Src.set {Bs : Nat} {p : Option Addr} {len cap : Nat} {V : Nat → Nat → Prop} {w : World} (h : Src Bs p len cap V w) (X : Nat) (hX : X ≠ Bs) (hp : ∀ a : Addr, p = some a → 0 < len → a.block ≠ X) (u : Value) : Src Bs p len cap V (w.setCell ⟨X, 0, none⟩ u) := by
  refine ⟨by rw [World.cell?_setCell_other _ _ _ _ (by intro e; cases e; exact hX rfl)]; exact h.1, ?_⟩
  rcases Nat.eq_zero_or_pos len with h0 | h0
  · exact .inl h0
  · obtain ⟨b, off, rfl, hc⟩ := h.at h0
    refine .inr ⟨b, off, rfl, fun i hi => ?_⟩
    obtain ⟨v, hv, hcv⟩ := hc i hi
    exact ⟨v, hv, by rw [World.cell?_setCell_other _ _ _ _ (by intro e; injection e with e1 e2 e3; exact hp _ rfl h0 e1.symm)]; exact hcv⟩

set_option maxRecDepth 100000 in
set_option maxHeartbeats 4000000 in
theorem Int_ok (p : Option Addr) (n c : Nat) (l : List Nat) (w : World) (h : Nw w p n c l) (hv : decide (valid l) = true) (hb : nbits l < 64) :
    Calls Tryd.prog 24 #[.agg #[.slice p n c]] w fun e w' => e = .returned (.tuple #[.int .i64 (val l), .int .i64 0]) ∧ Gr w w' := by
  have H := Lib.hid h
  have HV := Lib.hid hv
  have HB := Lib.hid (fun w h => Bits_n p n c l w h hv)
  have hn := h.small
  have HNB := Lib.hid hb
  clear h hv
  generalize hbb : nbits l = B at *
  have HBB := Lib.hid hbb
  clear hbb
  refine (callsIn_wide (n := 3)).1 ?_
  have t1 : Fence.wide.fn 68 := trivial
  have h1 : 1 ≤ 3 := by decide
  refine callsIn_of_wp_marks Tryd.func24 rfl trivial ?_ rfl
  simp only [Tryd.ntmps24, List.size_toArray, List.length_cons, List.length_nil, Nat.reduceAdd, Nat.reduceSub, Array.replicate_succ, Array.replicate_zero, List.push_toArray, List.append_toArray, List.nil_append, List.cons_append]
  gi_wp2_with fail
  refine ⟨trivial, (callsIn_wide.2 (Valid_n p n c l _ (H.out.grow ((Gr.refl _).alloc _)))).mono ?_⟩
  rintro e w1 ⟨rfl, hg⟩
  rw [HV.out]
  have k1 := hg.cell (World.cell?_alloc_new (w := w) #[.slice p n c] 43 0)
  have HG := Lib.hid (((Gr.refl w).alloc (.cells #[.slice p n c] 43)).trans hg)
  clear hg
  gi_wp2_with fail
  refine ⟨trivial, (callsIn_wide.2 (HB.out _ (H.out.grow HG.out))).mono ?_⟩
  rintro e w2 ⟨rfl, hg⟩
  have k2 := hg.cell k1
  have HG2 := Lib.hid (HG.out.trans hg)
  have hz : w.heap.size < w2.heap.size := World.block_lt_of_cell? w2 _ k2
  clear hg k1
  gi_wp2_with fail
  refine ⟨trivial, (back_in _ _ trivial rfl _ _ _ _).mono ?_⟩
  rintro e w3 ⟨rfl, rfl⟩
  gi_wp2_with fail
  have HS := Lib.hid (src_of (H.out.grow (HG2.out.alloc (.cells #[.int .i64 0] 3))))
  rw [World.size_alloc] at HS
  have HI0 : Hid (IntAt w w2.heap.size [] ((w2.alloc (.cells #[.int .i64 0] 3)).alloc (.cells #[.slice p n c] 41))) := Lib.hid
    ⟨⟨((Gr.refl _).alloc _).cell (World.cell?_alloc_new (w := w2) #[.int .i64 0] 3 0), by simp [go_sem]⟩, (HG2.out.alloc _).alloc _⟩
  refine wpIn_rangeFunc_ownG rfl h1 (gf := 68) (lb := #[.pointer (some ⟨w2.heap.size + 1, 0, none⟩)]) rfl trivial (enters_of Tryd.func68 (by kernel_rfl) rfl)
    (back_stops Fence.wide (3 - 1) trivial rfl (by decide) (w2.heap.size + 1) p n c hn (fun i v => v = l[i]?.getD 0) _ HS.out) (fun h k s => k (h s)) src_b (Below.refl _ _) (fun _ => rfl)
    (IntAt w w2.heap.size) (fun _ _ _ => False) (intAt_own (by simp; omega)) (fun _ _ _ _ _ hs _ _ => hs) HI0.out ?a1 ?assign ?body ?done ?stop
  case assign =>
    intro l x W K hK
    unfold en
    gi_wp2
    exact hK
  case body =>
    rintro l2 pre ⟨i, v⟩ W ⟨⟨hA, hF⟩, hB⟩ hlt
    have HB := Lib.hid hB
    have HE := Lib.hid (acc_snoc pre i v)
    clear hB hlt
    unfold stp at HE
    generalize acc pre = X at *
    gi_wp2
    refine ⟨(KeepsOthers.setCell _ _ _).from _, fun hS => hS.set _ (by omega) (fun a ha h0 => ?_) _, ⟨?_, ?_⟩, HB.out.setCell (by simp; omega) _⟩
    · have := nw_block H.out ha h0; omega
    · rw [HE.out]; exact World.cell?_setCell_same' _ _ _ (by rw [hA]; rfl)
    · rw [World.frozen?_setCell]; exact hF
  case done =>
    rintro D xs W hD hO ⟨⟨hA, hF⟩, hB⟩ hK
    have e0 : acc xs = val l := acc_done H.out hO (Nat.lt_of_lt_of_le ((nbits_le H.out.ok (of_decide_eq_true HV.out).2 63).1 (by rw [HBB.out]; have := HNB.out; omega)) (Nat.le_refl _)) (of_decide_eq_true HV.out).2
    rw [e0] at hA
    have hDw : w.heap.size ≤ D := by simp at hD; omega
    clear e0 hO
    gi_wp2
    refine ⟨by simp, .inl ⟨_, _, rfl, run_takeDeferred hK, ?_⟩⟩
    exact ⟨.tuple #[.int .i64 (val l), .int .i64 0], by simp [results, Tryd.results24, go_sem], rfl, gr_trans hB (belowK_b (w := w) (Nat.le_refl _) W D _ _ hDw hK rfl rfl)⟩
  case stop =>
    rintro D c pre W _ _ h _
    exact h.elim
end Go.Proofs.YtfompolklkehpaaDoor.Nk


/- The contract of natural's down: words divided by a power of 2. -/
namespace Go.Proofs.YtfompolklkehpaaDoor.Ne
open Go.RowKit Go.Proofs.YtfompolklkehpaaDoor.Nm Go.Proofs.YtfompolklkehpaaDoor.Nf

/-- Words moved down by t bits. -/
def shr (t : Nat) : List Nat → List Nat
  | [] => []
  | [x] => [x / 2 ^ t]
  | x :: y :: l => (x / 2 ^ t + y % 2 ^ t * 2 ^ (32 - t)) :: shr t (y :: l)
theorem shr_length (t : Nat) : ∀ l : List Nat, (shr t l).length = l.length
  | [] => rfl
  | [_] => rfl
  | _ :: y :: l => by simp only [shr, List.length_cons, shr_length t (y :: l)]
theorem pow_split {t : Nat} (ht : t < 32) : 2 ^ t * 2 ^ (32 - t) = 4294967296 := by
  rw [← Nat.pow_add, show t + (32 - t) = 32 by omega]
theorem shr_word {t x y : Nat} (ht : t < 32) (hx : x < 4294967296) : x / 2 ^ t + y % 2 ^ t * 2 ^ (32 - t) < 4294967296 := by
  have h1 : x / 2 ^ t < 2 ^ (32 - t) := Nat.div_lt_of_lt_mul (by rw [pow_split ht]; exact hx)
  have h2 : y % 2 ^ t < 2 ^ t := Nat.mod_lt _ (Nat.pos_of_ne_zero (by simp))
  have h3 := Nat.mul_le_mul_right (2 ^ (32 - t)) h2
  rw [Nat.succ_mul, pow_split ht] at h3
  omega
theorem shr_ok {t : Nat} (ht : t < 32) : ∀ {l : List Nat}, ok l → ok (shr t l)
  | [], _ => ok_nil
  | [_], h => ok_cons.2 ⟨Nat.lt_of_le_of_lt (Nat.div_le_self _ _) (ok_cons.1 h).1, ok_nil⟩
  | _ :: _ :: _, h => ok_cons.2 ⟨shr_word ht (ok_cons.1 h).1, shr_ok ht (ok_cons.1 h).2⟩
theorem shr_val {t : Nat} (ht : t < 32) : ∀ l : List Nat, val (shr t l) = val l / 2 ^ t
  | [] => by simp [shr, val]
  | [x] => by simp [shr, val]
  | x :: y :: l => by
    have ih := shr_val ht (y :: l)
    have hp : 0 < 2 ^ t := Nat.pos_of_ne_zero (by simp)
    have hm : val (y :: l) % 2 ^ t = y % 2 ^ t := by
      simp only [val]
      rw [← pow_split ht, Nat.mul_assoc, Nat.add_mul_mod_self_left]
    have hd := Nat.div_add_mod (val (y :: l)) (2 ^ t)
    simp only [shr, val] at ih ⊢
    rw [ih]
    simp only [val] at hm hd
    generalize y + 4294967296 * val l = V at *
    rw [← pow_split ht, Nat.mul_assoc (2 ^ t) (2 ^ (32 - t)) (V / 2 ^ t), Nat.mul_assoc (2 ^ t) (2 ^ (32 - t)) V, Nat.add_mul_div_left _ _ hp, ← hm]
    have e : 2 ^ (32 - t) * V = V % 2 ^ t * 2 ^ (32 - t) + 2 ^ t * (2 ^ (32 - t) * (V / 2 ^ t)) := by
      conv => lhs; rw [← hd]
      rw [Nat.mul_add, Nat.mul_left_comm, Nat.mul_comm (2 ^ (32 - t)) (V % 2 ^ t)]
      omega
    omega
theorem shr_get {t : Nat} : ∀ (l : List Nat) (i : Nat), i + 1 < l.length → (shr t l)[i]?.getD 0 = l[i]?.getD 0 / 2 ^ t + l[i + 1]?.getD 0 % 2 ^ t * 2 ^ (32 - t)
  | [], i, h => by simp at h
  | [x], i, h => by simp at h
  | x :: y :: l, 0, _ => by simp [shr]
  | x :: y :: l, i + 1, h => by
    have := shr_get (t := t) (y :: l) i (by simpa using h)
    simpa [shr] using this
theorem shr_last {t : Nat} : ∀ (l : List Nat) (i : Nat), i + 1 = l.length → (shr t l)[i]?.getD 0 = l[i]?.getD 0 / 2 ^ t
  | [], i, h => by simp at h
  | [x], i, h => by
    obtain rfl : i = 0 := by simpa using h
    simp [shr]
  | x :: y :: l, 0, h => by simp at h
  | x :: y :: l, i + 1, h => by
    have := shr_last (t := t) (y :: l) i (by simpa using h)
    simpa [shr] using this
/-- k words have been moved. -/
def ShrAt (b off t : Nat) (m : List Nat) (w : World) (k : Nat) (wr : World) : Prop :=
  ∃ r : List Nat, r.length = m.length ∧ Hold wr b off r ∧ r.drop k = m.drop k ∧ r.take k = (shr t m).take k ∧ Wr b off m.length w wr
theorem ShrAt.start {b off t : Nat} {m : List Nat} {w : World} (h : Hold w b off m) : ShrAt b off t m w 0 w := ⟨m, rfl, h, rfl, by simp, Wr.refl _ _ _ _⟩
theorem ShrAt.word {b off t : Nat} {m : List Nat} {w : World} {k : Nat} {wr : World} (h : ShrAt b off t m w k wr) (j : Nat) (hk : k ≤ j) (hj : j < m.length) :
    wr.cell? ⟨b, off + j, none⟩ = some (.int .u32 ((m[j]?.getD 0 : Nat) : Int)) ∧ wr.frozen? ⟨b, off + j, none⟩ = false := by
  obtain ⟨r, hl, hh, hd, _⟩ := h
  have := hh j (by omega)
  have e : r[j]?.getD 0 = m[j]?.getD 0 := by
    have h1 := congrArg (fun l : List Nat => l[j - k]?) hd
    simp only [List.getElem?_drop, show k + (j - k) = j by omega] at h1
    rw [h1]
  rwa [e] at this
theorem ShrAt.step {b off t : Nat} {m : List Nat} {w : World} {k v : Nat} {wr : World} (h : ShrAt b off t m w k wr) (hk : k < m.length) (hv : v = (shr t m)[k]?.getD 0) {w' : World}
    (hw : ∀ r : List Nat, r.length = m.length → Hold wr b off r → Hold w' b off (r.set k v) ∧ Wr b off m.length wr w') : ShrAt b off t m w (k + 1) w' := by
  obtain ⟨r, hl, hh, hd, ht, hwr⟩ := h
  obtain ⟨h1, h2⟩ := hw r hl hh
  refine ⟨r.set k v, by simpa using hl, h1, drop_set hd v, ?_, hwr.trans h2⟩
  have hk2 : k < (shr t m).length := by rw [shr_length]; exact hk
  rw [List.take_succ_eq_append_getElem (by simpa using (show k < r.length by omega)), List.take_set_of_le (Nat.le_refl _), ht, List.take_succ_eq_append_getElem hk2]
  congr 1
  rw [List.getElem?_eq_getElem hk2, Option.getD_some] at hv
  simp [hv]
theorem ShrAt.step1 {b off t : Nat} {m : List Nat} {w : World} {k : Nat} {wr : World} (h : ShrAt b off t m w k wr) (v : Nat) (hk : k < m.length) (hv : v = (shr t m)[k]?.getD 0) : ShrAt b off t m w (k + 1) (wr.setCell ⟨b, off + k, none⟩ (.int .u32 (v : Int))) :=
  h.step hk hv fun r hl hh => ⟨hh.set k v (by omega), (Wr.refl _ _ _ _).setCell k hk _⟩
theorem ShrAt.step2 {b off t : Nat} {m : List Nat} {w : World} {k : Nat} {wr : World} (h : ShrAt b off t m w k wr) (u v : Nat) (hk : k < m.length) (hv : v = (shr t m)[k]?.getD 0) : ShrAt b off t m w (k + 1) ((wr.setCell ⟨b, off + k, none⟩ (.int .u32 (u : Int))).setCell ⟨b, off + k, none⟩ (.int .u32 (v : Int))).drew :=
  h.step hk hv fun r hl hh => ⟨by
    have h1 := (hh.set k u (by omega)).set k v (by simp; omega)
    rw [List.set_set] at h1
    exact h1, (((Wr.refl _ _ _ _).setCell k hk _).setCell k hk _).drewN 1⟩
theorem ShrAt.done {b off t : Nat} {m : List Nat} {w wr : World} (h : ShrAt b off t m w m.length wr) : Hold wr b off (shr t m) ∧ Wr b off m.length w wr := by
  obtain ⟨r, hl, hh, _, ht, hwr⟩ := h
  rw [← hl, List.take_length, hl, ← shr_length t m, List.take_length] at ht
  subst ht
  exact ⟨hh, hwr⟩

theorem or_word {t x y : Nat} (ht : t < 32) (hx : x < 4294967296) :
    bits .or .u32 ((x / 2 ^ t : Nat) : Int) ((y : Int) * 2 ^ (32 - t) % 4294967296) = ((x / 2 ^ t + y % 2 ^ t * 2 ^ (32 - t) : Nat) : Int) := by
  have e1 : (y : Int) * 2 ^ (32 - t) % 4294967296 = ((y % 2 ^ t * 2 ^ (32 - t) : Nat) : Int) := by
    have e2 : y * 2 ^ (32 - t) % 4294967296 = y % 2 ^ t * 2 ^ (32 - t) := by
      rw [← pow_split ht]
      exact Nat.mul_mod_mul_right _ _ _
    rw [← e2, Int.natCast_emod, Int.natCast_mul, Int.natCast_pow]
    rfl
  have h1 : x / 2 ^ t < 2 ^ (32 - t) := Nat.div_lt_of_lt_mul (by rw [pow_split ht]; exact hx)
  have h2 := shr_word (y := y) ht hx
  rw [e1, (Nb.bits_u32 _ _ (by omega) (by omega)).2.1]
  congr 1
  have := Nat.shiftLeft_add_eq_or_of_lt h1 (y % 2 ^ t)
  rw [Nat.shiftLeft_eq] at this
  rw [Nat.or_comm, ← this, Nat.add_comm]

/-- What down has handed back. -/
def DownAt (l : List Nat) (n : Nat) (w : World) (e : Ending) (w' : World) : Prop :=
  ∃ (p : Option Addr) (r : List Nat) (cap : Nat), e = .returned (.slice p r.length cap) ∧ r.length ≤ cap ∧ r.length ≤ l.length ∧ (p = none → r.length = 0 ∧ cap = 0) ∧ ok r ∧ val r = val l / 2 ^ n ∧ Own w.heap.size w' p r ∧ Gr w w'

theorem clone_at (p : Option Addr) (l : List Nat) (n cap : Nat) (en : l.length = n) (hl : n ≤ 1048576) (hp : p = none → n = 0 ∧ cap = 0) (w : World) (h : Rd w p l) :
    Calls Tryd.prog 80 #[.slice p n cap] w fun e w' => ∃ (q : Option Addr) (c : Nat), e = .returned (.slice q n c) ∧ n ≤ c ∧ (q = none → n = 0 ∧ c = 0) ∧ Own w.heap.size w' q l ∧ Gr w w' := by
  subst en
  exact (clone_any p l l.length cap rfl hl hp w h).mono fun _ _ ⟨q, c, h1, h2, h3, h4, h5⟩ => ⟨q, c, h1, h2, fun e => ⟨by rw [(h3 e).1]; rfl, (h3 e).2⟩, h4, h5⟩

theorem down_val {l : List Nat} {N n sk t : Nat} (hl : ok l) (en : l.length = n) (hs : min (N / 32) n = sk) (ht : N % 32 = t) : val (l.drop sk) / 2 ^ t = val l / 2 ^ N := by
  have e : 2 ^ N = 2 ^ (32 * (N / 32)) * 2 ^ t := by rw [← Nat.pow_add]; congr 1; omega
  rw [e, ← Nat.div_div_eq_div_mul, ← pw_eq]
  congr 1
  by_cases h : N / 32 ≤ n
  · obtain rfl : N / 32 = sk := by omega
    have h1 := val_take_drop l (N / 32) (by omega)
    rw [h1, Nat.add_mul_div_left _ _ (pw_pos _), Nat.div_eq_of_lt (val_take_lt hl _), Nat.zero_add]
  · obtain rfl : n = sk := by omega
    rw [List.drop_eq_nil_of_le (by omega), Nat.div_eq_of_lt]
    · rfl
    · have h1 := val_lt hl
      have h2 := pw_mono (show l.length ≤ N / 32 by omega)
      omega

set_option maxRecDepth 100000 in
set_option maxHeartbeats 4000000 in
/-- The words from sk on, moved by t bits; P is where they begin, C their capacity. -/
theorem down_core (p P : Option Addr) (l : List Nat) (n cap sk t : Nat) (en : l.length = n) (hc : n ≤ 1048576) (hP : P = none → n - sk = 0 ∧ cap - sk = 0)
    (N : Nat) (hN : N ≤ 10000) (hsk : min (N / 32) n = sk) (ht : N % 32 = t) (hok : ok l) (w : World) (hR : Rd w P (l.drop sk))
    (hrun : ∀ w : World, (Instr.slice 41 (.slice p n cap) (some (.int .i64 (sk : Int))) none none).run Tryd.prog w = .ok (.slice P (n - sk) (cap - sk)) w) :
    Calls Tryd.prog 116 #[.slice p n cap, .int .i64 N] w (DownAt l N w) := by
  have hsn : sk ≤ n := by omega
  have HOK := Lib.hid hok
  have HRD := Lib.hid hR
  have HPN := Lib.hid hP
  have EN := Lib.hid en
  have d1 : min ((N : Int) / 32) (n : Int) = (sk : Int) := by omega
  have d2 : (N : Int) % 32 = (t : Int) := by omega
  have ht32 : t < 32 := by omega
  have HSK := Lib.hid hsk
  have HT := Lib.hid ht
  clear hok hR hP en hsk ht
  go_enter Tryd.func116, Tryd.ntmps116
  go_wp2_with fail
  have hm : (l.drop sk).length = n - sk := by rw [List.length_drop, EN.out]
  have HM := Lib.hid hm
  have HMO : Hid (ok (l.drop sk)) := Lib.hid (ok_drop HOK.out sk)
  have HVAL : Hid (val (l.drop sk) / 2 ^ t = val l / 2 ^ N) := Lib.hid (down_val HOK.out EN.out HSK.out HT.out)
  generalize l.drop sk = m at *
  generalize hMM : n - sk = M at *
  have hMn : M ≤ n := by omega
  clear hm hrun
  refine (clone_at P m M (cap - sk) HM.out (by omega) HPN.out w HRD.out).mono ?_
  rintro e w1 ⟨q, c, rfl, hqc, hqn, ho, hg⟩
  have HO := Lib.hid ho
  have HG := Lib.hid hg
  have HQ := Lib.hid hqn
  clear ho hg hqn
  by_cases hM0 : M = 0
  · subst hM0
    have hm0 : m = [] := List.length_eq_zero_iff.1 HM.out
    go_wp2
    refine wp_loop_rounds 1 ?_
    rw [rounds_succ]
    go_wp2
    go_ret
    refine ⟨q, [], c, rfl, Nat.zero_le _, Nat.zero_le _, fun e => ⟨rfl, (HQ.out e).2⟩, ok_nil, ?_, Own.nil _ _ _, HG.out⟩
    rw [← HVAL.out, hm0]
    simp [val]
  · obtain ⟨g, off, rfl, hgb, hh⟩ : ∃ g off, q = some ⟨g, off, none⟩ ∧ w.heap.size ≤ g ∧ Hold w1 g off m := by
      rcases HO.out with h | ⟨g, off, h1, h2, h3⟩
      · exact absurd (by rw [← HM.out, h]; rfl) hM0
      · exact ⟨g, off, h1, h2, h3⟩
    have H0 := Lib.hid (ShrAt.start (t := t) hh)
    clear hh HO HQ
    have hM1 : 0 < M := by omega
    clear hM0
    go_wp2
    go_loopw [22] (fun i wr => ∃ k : Nat, k ≤ M ∧ i = .int .i64 k ∧ ShrAt g off t m w1 k wr) (fun i _ => M - (intOf i).toNat)
    case atStart => exact ⟨0, Nat.zero_le _, rfl, H0.out⟩
    case round =>
      obtain ⟨k, hk, rfl, hA⟩ := hrel
      have HA := Lib.hid hA
      by_cases hlt : k < M
      · obtain ⟨c1, f1⟩ := hA.word k (Nat.le_refl _) (by rw [HM.out]; exact hlt)
        have hx := ok_get HMO.out k
        have hu : ((m[k]?.getD 0 : Nat) : Int) / 2 ^ t = ((m[k]?.getD 0 / 2 ^ t : Nat) : Int) := by rw [Int.natCast_ediv, Int.natCast_pow]; rfl
        by_cases hl : k + 1 < M
        · obtain ⟨c2, f2⟩ := hA.word (k + 1) (by omega) (by rw [HM.out]; exact hl)
          have E := Lib.hid (or_word (y := m[k + 1]?.getD 0) ht32 hx)
          have EG := Lib.hid (shr_get (t := t) m k (by rw [HM.out]; exact hl))
          clear hA
          generalize m[k]?.getD 0 = x at *
          generalize m[k + 1]?.getD 0 = y at *
          generalize x / 2 ^ t = u at *
          go_wp2
          have k1 : (wr.setCell ⟨g, off + k, none⟩ (.int .u32 (u : Int))).cell? ⟨g, off + k, none⟩ = some (.int .u32 (u : Int)) := World.cell?_setCell_same' _ _ _ (by rw [c1]; rfl)
          have k2 : (wr.setCell ⟨g, off + k, none⟩ (.int .u32 (u : Int))).cell? ⟨g, off + (k + 1), none⟩ = some (.int .u32 (y : Int)) := by
            rw [World.cell?_setCell_other _ _ _ _ (by intro e; injection e with e1 e2; omega)]; exact c2
          have k3 : (wr.setCell ⟨g, off + k, none⟩ (.int .u32 (u : Int))).frozen? ⟨g, off + k, none⟩ = false := by rw [World.frozen?_setCell]; exact f1
          have W2eq : Hid (wr.setCell ⟨g, off + k, none⟩ (.int .u32 (u : Int)) = wr.setCell ⟨g, off + k, none⟩ (.int .u32 (u : Int))) := Lib.hid rfl
          generalize hW : wr.setCell ⟨g, off + k, none⟩ (.int .u32 (u : Int)) = W2 at k1 k2 k3 ⊢
          have HW := Lib.hid hW
          clear hW W2eq c1 c2 f1 f2
          have q1 : IntKind.i64.wrap ((k : Int) + 1) = (k : Int) + 1 := IntWalk.i64_in _ (by omega)
          have q2 : (0 : Int) ≤ (k : Int) + 1 := by omega
          have q3 : ((k : Int) + 1).toNat = k + 1 := by omega
          have q4 : IntKind.i64.wrap ((32 : Int) - (t : Int)) = ((32 - t : Nat) : Int) := by rw [IntWalk.i64_in _ (by omega)]; omega
          have q5 : (0 : Int) ≤ ((32 - t : Nat) : Int) := by omega
          have q6 : (k : Int) + 1 < (M : Int) := by omega
          have q7 : (0 : Int) ≤ (k : Int) := by omega
          have q8 : (k : Int) < (M : Int) := by omega
          go_still_tail 14, (by kernel_rfl)
          change wpList _ _ _ _ _ W2.drew
          have k4 : W2.drew.cell? ⟨g, off + k, none⟩ = some (.int .u32 (u : Int)) := k1
          have k5 : W2.drew.frozen? ⟨g, off + k, none⟩ = false := k3
          clear k1 k2 k3 q1 q2 q3 q4 q5 q6
          go_wp2
          go_roundw
          case rel => exact ⟨k + 1, by omega, by go_num, by rw [E.out, ← HW.out]; exact HA.out.step2 u _ (by rw [HM.out]; exact hlt) EG.out.symm⟩
          case measure => simp [intOf]; omega
        · have EG := Lib.hid (shr_last (t := t) m k (by rw [HM.out]; omega))
          clear hA
          generalize m[k]?.getD 0 = x at *
          generalize x / 2 ^ t = u at *
          go_wp2
          go_roundw
          case rel => exact ⟨k + 1, by omega, by go_num, HA.out.step1 _ (by rw [HM.out]; exact hlt) EG.out.symm⟩
          case measure => simp [intOf]; omega
      · obtain rfl : k = M := by omega
        clear hA
        go_wp2
        go_ret
        have hd := HA.out
        rw [← HM.out] at hd
        obtain ⟨h1, h2⟩ := hd.done
        refine ⟨some ⟨g, off, none⟩, shr t m, c, by rw [shr_length, HM.out]; rfl, by rw [shr_length, HM.out]; exact hqc, by rw [shr_length, HM.out, EN.out]; exact hMn, (fun e => by cases e), shr_ok ht32 HMO.out, by rw [shr_val ht32]; exact HVAL.out, h1.own hgb, Wr.gr HG.out h2 hgb⟩

theorem run_from (a : Addr) (n cap sk : Nat) (h : sk ≤ n) (w : World) : (Instr.slice 41 (.slice (some a) n cap) (some (.int .i64 (sk : Int))) none none).run Tryd.prog w = .ok (.slice (if cap = sk then some a else some (a.add sk)) (n - sk) (cap - sk)) w := by
  have h1 : (sk : Int) ≤ (n : Int) := by omega
  go_simp
theorem run_from_nil (w : World) : (Instr.slice 41 (.slice none 0 0) (some (.int .i64 ((0 : Nat) : Int))) none none).run Tryd.prog w = .ok (.slice none 0 0) w := by
  go_simp
theorem rd_from {w : World} {a : Addr} {l : List Nat} {n cap sk : Nat} (en : l.length = n) (hn : n ≤ cap) (h : Rd w (some a) l) : Rd w (if cap = sk then some a else some (a.add sk)) (l.drop sk) := by
  by_cases h0 : sk < n
  · obtain ⟨b, off, e, hc⟩ := h.at (by omega)
    cases e
    rw [if_neg (by omega), addr_add]
    refine .inr ⟨b, off + sk, rfl, fun i hi => ?_⟩
    rw [List.length_drop] at hi
    rw [Nat.add_assoc, hc (sk + i) (by omega), List.getElem?_drop]
  · exact .inl (List.drop_eq_nil_of_le (by omega))
/-- natural's down. -/
theorem down_any (p : Option Addr) (l : List Nat) (n cap : Nat) (N : Nat) (hN : N ≤ 10000) (w : World) (h : Nw w p n cap l) :
    Calls Tryd.prog 116 #[.slice p n cap, .int .i64 N] w (DownAt l N w) := by
  cases p with
  | none =>
    obtain ⟨rfl, rfl⟩ := h.nil rfl
    refine down_core none none l 0 0 0 (N % 32) h.len (by decide) (fun _ => ⟨rfl, rfl⟩) N hN (by omega) rfl h.ok w ?_ run_from_nil
    exact .inl (by rw [List.length_eq_zero_iff.1 h.len]; rfl)
  | some a =>
    refine down_core (some a) _ l n cap (min (N / 32) n) (N % 32) h.len h.small (fun e => by split at e <;> cases e) N hN rfl rfl h.ok w (rd_from h.len h.le h.rd) (run_from a n cap _ (by omega))
end Go.Proofs.YtfompolklkehpaaDoor.Ne


/- The contracts of natural's Shift, Mul, Sub. -/
namespace Go.Proofs.YtfompolklkehpaaDoor.Nk
open Go.RowKit Go.Proofs.YtfompolklkehpaaDoor.Nm Go.Proofs.YtfompolklkehpaaDoor.Ne Go.Proofs.YtfompolklkehpaaDoor.Nf

theorem up_n (p : Option Addr) (l : List Nat) (n cap N : Nat) (hN : N ≤ 10000) (w : World) (h : Nw w p n cap l) :
    Calls Tryd.prog 114 #[.slice p n cap, .int .i64 N] w (UpAt l N w) := by
  have := h.len; subst this
  exact up_any p l cap N h.small hN h.ok w h.rd

end Go.Proofs.YtfompolklkehpaaDoor.Nk


/- The contract of natural's Sub. -/
namespace Go.Proofs.YtfompolklkehpaaDoor.Nk
open Go.RowKit Go.Proofs.YtfompolklkehpaaDoor.Nm Go.Proofs.YtfompolklkehpaaDoor.Ne Go.Proofs.YtfompolklkehpaaDoor.Nf

set_option maxHeartbeats 2000000 in
theorem Sub_bad (p q : Option Addr) (n m c d : Nat) (l k : List Nat) (w : World) (hl : Nw w p n c l) (hk : Nw w q m d k) (hv : decide (valid l) = false ∨ decide (valid k) = false) :
    Calls Tryd.prog 63 #[.agg #[.slice p n c], .agg #[.slice q m d]] w (Failed 1 w) := by
  have HL := Lib.hid hl
  have HK := Lib.hid hk
  have HV := Lib.hid hv
  have G0 := Lib.hid ((((Gr.refl w).alloc (.cells #[.slice p n c] 43)).alloc (.cells #[.slice q m d] 43)).alloc (.cells #[.slice none 0 0] 43))
  clear hl hk hv
  go_enter Tryd.func63, Tryd.ntmps63
  go_wp2_with fail
  refine (Valid_n p n c l _ (HL.out.grow G0.out)).mono ?_
  rintro e w1 ⟨rfl, hg⟩
  have c2 := hg.cell (p := ⟨w.heap.size + 1, 0, none⟩) (v := .slice q m d) (by simp [go_sem])
  have c3 := hg.cell (p := ⟨w.heap.size + 1 + 1, 0, none⟩) (v := .slice none 0 0) (by simp [go_sem])
  have f3 := hg.frozen (p := ⟨w.heap.size + 1 + 1, 0, none⟩) (v := .slice none 0 0) (by simp [go_sem]) (by simp [go_sem])
  have GA := Lib.hid (G0.out.trans hg)
  clear hg
  cases hv1 : decide (valid l)
  · clear hv1
    go_wp2
    exact bodyPost_ret (v := .tuple #[.agg #[.slice none 0 0], .int .i64 1]) (by simp [results, Tryd.results63, go_sem, c3]) rfl ⟨rfl, GA.out.setCell (by simp; omega) _⟩
  · have hv2 : decide (valid k) = false := by
      rcases HV.out with h | h
      · rw [hv1] at h; cases h
      · exact h
    clear hv1
    go_wp2_with fail
    refine (Valid_n q m d k _ (HK.out.grow GA.out)).mono ?_
    rintro e w2 ⟨rfl, hg⟩
    rw [hv2]
    have e3 := hg.cell c3
    have f4 := hg.frozen c3 f3
    have GB := Lib.hid (GA.out.trans hg)
    clear hg hv2 c2 c3 f3
    go_wp2
    exact bodyPost_ret (v := .tuple #[.agg #[.slice none 0 0], .int .i64 1]) (by simp [results, Tryd.results63, go_sem, e3]) rfl ⟨rfl, GB.out.setCell (by simp; omega) _⟩


set_option maxRecDepth 100000 in
set_option maxHeartbeats 4000000 in
theorem Sub_neg (p q : Option Addr) (n m c d : Nat) (l k : List Nat) (w : World) (hl : Nw w p n c l) (hk : Nw w q m d k) (hv1 : decide (valid l) = true) (hv2 : decide (valid k) = true) (hx : val l < val k) :
    Calls Tryd.prog 63 #[.agg #[.slice p n c], .agg #[.slice q m d]] w (Failed 2 w) := by
  have HL := Lib.hid hl
  have HK := Lib.hid hk
  have HV1 := Lib.hid hv1
  have HV2 := Lib.hid hv2
  have HX := Lib.hid hx
  have hnb := (of_decide_eq_true hv1).1
  have hmb := (of_decide_eq_true hv2).1
  rw [hl.len] at hnb
  rw [hk.len] at hmb
  have G0 := Lib.hid ((((Gr.refl w).alloc (.cells #[.slice p n c] 43)).alloc (.cells #[.slice q m d] 43)).alloc (.cells #[.slice none 0 0] 43))
  clear hl hk hv1 hv2 hx
  go_enter Tryd.func63, Tryd.ntmps63
  go_wp2_with fail
  refine (Valid_n p n c l _ (HL.out.grow G0.out)).mono ?_
  rintro e w1 ⟨rfl, hg⟩
  rw [HV1.out]
  have c1 := hg.cell (p := ⟨w.heap.size, 0, none⟩) (v := .slice p n c) (by simp [go_sem])
  have c2 := hg.cell (p := ⟨w.heap.size + 1, 0, none⟩) (v := .slice q m d) (by simp [go_sem])
  have c3 := hg.cell (p := ⟨w.heap.size + 1 + 1, 0, none⟩) (v := .slice none 0 0) (by simp [go_sem])
  have f3 := hg.frozen (p := ⟨w.heap.size + 1 + 1, 0, none⟩) (v := .slice none 0 0) (by simp [go_sem]) (by simp [go_sem])
  have GA := Lib.hid (G0.out.trans hg)
  clear hg
  go_wp2_with fail
  refine (Valid_n q m d k _ (HK.out.grow GA.out)).mono ?_
  rintro e w2 ⟨rfl, hg⟩
  rw [HV2.out]
  have e1 := hg.cell c1
  have e2 := hg.cell c2
  have e3 := hg.cell c3
  have f4 := hg.frozen c3 f3
  have GB := Lib.hid (GA.out.trans hg)
  clear hg c1 c2 c3 f3 GA G0
  go_wp2_with fail
  refine (Compare_ok p q n m c d l k _ (HL.out.grow GB.out) (HK.out.grow GB.out) HV1.out HV2.out).mono ?_
  rintro e w3 ⟨rfl, hg⟩
  have k1 := hg.cell e1
  have k2 := hg.cell e2
  have k3 := hg.cell e3
  have g3 := hg.frozen e3 f4
  have GC := Lib.hid (GB.out.trans hg)
  clear hg e1 e2 e3 f4 GB
  rw [ord_lt HX.out]
  go_wp2
  exact bodyPost_ret (v := .tuple #[.agg #[.slice none 0 0], .int .i64 2]) (by simp [results, Tryd.results63, go_sem, k3]) rfl ⟨rfl, GC.out.setCell (by simp; omega) _⟩

set_option maxRecDepth 100000 in
set_option maxHeartbeats 4000000 in
theorem Sub_ok (p q : Option Addr) (n m c d : Nat) (l k : List Nat) (w : World) (hl : Nw w p n c l) (hk : Nw w q m d k) (hv1 : decide (valid l) = true) (hv2 : decide (valid k) = true) (hx : val k ≤ val l) :
    Calls Tryd.prog 63 #[.agg #[.slice p n c], .agg #[.slice q m d]] w (Gave (val l - val k) w) := by
  have HL := Lib.hid hl
  have HK := Lib.hid hk
  have HV1 := Lib.hid hv1
  have HV2 := Lib.hid hv2
  have HX := Lib.hid hx
  have hnb := (of_decide_eq_true hv1).1
  have hmb := (of_decide_eq_true hv2).1
  rw [hl.len] at hnb
  rw [hk.len] at hmb
  have G0 := Lib.hid ((((Gr.refl w).alloc (.cells #[.slice p n c] 43)).alloc (.cells #[.slice q m d] 43)).alloc (.cells #[.slice none 0 0] 43))
  clear hl hk hv1 hv2 hx
  go_enter Tryd.func63, Tryd.ntmps63
  go_wp2_with fail
  refine (Valid_n p n c l _ (HL.out.grow G0.out)).mono ?_
  rintro e w1 ⟨rfl, hg⟩
  rw [HV1.out]
  have c1 := hg.cell (p := ⟨w.heap.size, 0, none⟩) (v := .slice p n c) (by simp [go_sem])
  have c2 := hg.cell (p := ⟨w.heap.size + 1, 0, none⟩) (v := .slice q m d) (by simp [go_sem])
  have c3 := hg.cell (p := ⟨w.heap.size + 1 + 1, 0, none⟩) (v := .slice none 0 0) (by simp [go_sem])
  have f3 := hg.frozen (p := ⟨w.heap.size + 1 + 1, 0, none⟩) (v := .slice none 0 0) (by simp [go_sem]) (by simp [go_sem])
  have GA := Lib.hid (G0.out.trans hg)
  clear hg
  go_wp2_with fail
  refine (Valid_n q m d k _ (HK.out.grow GA.out)).mono ?_
  rintro e w2 ⟨rfl, hg⟩
  rw [HV2.out]
  have e1 := hg.cell c1
  have e2 := hg.cell c2
  have e3 := hg.cell c3
  have f4 := hg.frozen c3 f3
  have GB := Lib.hid (GA.out.trans hg)
  clear hg c1 c2 c3 f3 GA G0
  go_wp2_with fail
  refine (Compare_ok p q n m c d l k _ (HL.out.grow GB.out) (HK.out.grow GB.out) HV1.out HV2.out).mono ?_
  rintro e w3 ⟨rfl, hg⟩
  have k1 := hg.cell e1
  have k2 := hg.cell e2
  have k3 := hg.cell e3
  have g3 := hg.frozen e3 f4
  have GC := Lib.hid (GB.out.trans hg)
  clear hg e1 e2 e3 f4 GB
  have ho : 0 ≤ ord (val l) (val k) := by
    unfold ord
    have := HX.out
    rw [if_neg (by omega)]
    split <;> omega
  generalize ord (val l) (val k) = O at *
  go_wp2_with fail
  refine (clone_at p l n c HL.out.len HL.out.small HL.out.nil _ (GC.out.rd HL.out.rd)).mono ?_
  rintro e w4 ⟨a, cap, rfl, hac, han, how, hg⟩
  have m2 := hg.cell k2
  have m3 := hg.cell k3
  have mf := hg.frozen k3 g3
  have hz : w.heap.size + 1 + 1 < w3.heap.size := World.block_lt_of_cell? w3 _ k3
  have GD := Lib.hid (GC.out.trans hg)
  have HO := Lib.hid how
  have HA := Lib.hid han
  clear hg k1 k2 k3 g3 how han
  by_cases hn0 : n = 0
  · subst hn0
    have hl0 : l = [] := List.length_eq_zero_iff.1 HL.out.len
    have hk0 : k = [] := by
      have h1 := HX.out
      rw [hl0] at h1
      by_cases h : k = []
      · exact h
      · have := val_pos (of_decide_eq_true HV2.out).2 h
        simp [val] at h1
        omega
    have hm0 : m = 0 := by rw [← HK.out.len, hk0]; rfl
    subst hm0
    have E : Hid (val l - val k = val []) := Lib.hid (by rw [hl0]; simp [val])
    clear hl0 hk0
    go_wp2_with fail
    refine (takeProduct_nil a q cap d 1 _).mono ?_
    rintro e w5 ⟨rfl, rfl⟩
    go_wp2_with fail
    refine (fit_gave a 0 cap [] rfl (Nat.zero_le _) (by decide) (fun e => ⟨rfl, (HA.out e).2⟩) ok_nil w.heap.size _ (.inl rfl) (pw_pos 64)).mono ?_
    rintro e w6 ⟨n6, rfl, hr6, hg6⟩
    have o3 := hg6.cell m3
    have of3 := hg6.frozen m3 mf
    have G6 := Lib.hid (GD.out.trans hg6)
    have HR6 := Lib.hid hr6
    clear hg6 m3 mf hr6
    go_wp2
    exact bodyPost_ret (v := .tuple #[.agg #[.slice a n6 cap], .int .i64 0]) (by simp [results, Tryd.results63, go_sem, o3]) rfl
      ⟨_, _, _, rfl, by rw [E.out]; exact HR6.out.set' _ _ (fun x e => .inr (by rw [val_digs]; rfl)) (tight_digs _), G6.out.setCell (by simp; omega) _⟩
  · obtain ⟨b, off, rfl, hb, hh⟩ : ∃ b off, a = some ⟨b, off, none⟩ ∧ w3.heap.size ≤ b ∧ Hold w4 b off l := by
      rcases HO.out with h | ⟨b, off, h1, h2, h3⟩
      · exact absurd (by rw [← HL.out.len, h]; rfl) hn0
      · exact ⟨b, off, h1, h2, h3⟩
    have HH := Lib.hid hh
    have hmn : m ≤ n := by
      have := length_le_of_val HL.out.ok (of_decide_eq_true HV2.out).2 HX.out
      rwa [HL.out.len, HK.out.len] at this
    clear hh HO HA
    go_wp2_with fail
    refine (takeProduct_n b off n l cap q m k d 1 HL.out.len HK.out.len (by decide) HL.out.ok HK.out.ok (by omega) hmn w4 HH.out (RdN.of HK.out.rd GD.out (by have := GC.out.le; omega))).mono ?_
    rintro e w5 ⟨cr, r, rfl, hrl, hro, hrh, hv, hc, hw⟩
    rw [Nat.mul_one] at hv
    have hv2 : val r = val l - val k := by
      have h1 := val_lt hro
      rw [hrl] at h1
      rcases Nat.eq_zero_or_pos cr with h | h
      · subst h; omega
      · have := Nat.le_mul_of_pos_right (pw l.length) h
        have := HX.out
        omega
    have m5 := (hw.cellOf (b' := w.heap.size + 1 + 1) (o := 0) (by omega)).trans m3
    have mf5 := (hw.frozen ⟨w.heap.size + 1 + 1, 0, none⟩).trans mf
    have G5 := Lib.hid (Wr.gr GD.out hw (by have := GC.out.le; omega))
    have HRL : Hid (r.length = n) := Lib.hid (hrl.trans HL.out.len)
    have HRO := Lib.hid hro
    have HRH := Lib.hid hrh
    have HRV := Lib.hid hv2
    have hbw : w.heap.size ≤ b := by omega
    have HLT : Hid (val l - val k < pw 64) := Lib.hid (Nat.lt_of_le_of_lt (Nat.sub_le _ _) (Nat.lt_of_lt_of_le (val_lt HL.out.ok) (pw_mono (by rw [HL.out.len]; omega))))
    clear hrl hro hrh hv hv2 hw hc m2 m3 mf HH
    go_wp2_with fail
    refine (fit_gave (some ⟨b, off, none⟩) n cap r HRL.out hac (by omega) (fun e => by cases e) HRO.out w.heap.size w5 (HRH.out.own hbw) (by rw [HRV.out]; exact HLT.out)).mono ?_
    rintro e w6 ⟨n6, rfl, hr6, hg6⟩
    have o3 := hg6.cell m5
    have of3 := hg6.frozen m5 mf5
    have G6 := Lib.hid (G5.out.trans hg6)
    have HR6 := Lib.hid hr6
    clear hg6 m5 mf5 hr6
    go_wp2
    exact bodyPost_ret (v := .tuple #[.agg #[.slice (some ⟨b, off, none⟩) n6 cap], .int .i64 0]) (by simp [results, Tryd.results63, go_sem, o3]) rfl
      ⟨_, _, _, rfl, by rw [← HRV.out]; exact HR6.out.set _ _ (fun x e => by cases e; simp; omega), G6.out.setCell (by simp; omega) _⟩
end Go.Proofs.YtfompolklkehpaaDoor.Nk


/- The contract of natural's Mul. -/
namespace Go.Proofs.YtfompolklkehpaaDoor.Nk
open Go.RowKit Go.Proofs.YtfompolklkehpaaDoor.Nm Go.Proofs.YtfompolklkehpaaDoor.Ne Go.Proofs.YtfompolklkehpaaDoor.Nf

/-- The product of the first k words has been added up. -/
def MulAt (w : World) (g : Nat) (l kk : List Nat) (k : Nat) (wr : World) : Prop :=
  ∃ r : List Nat, r.length = l.length + kk.length ∧ ok r ∧ Hold wr g 0 r ∧ val r = val (l.take k) * val kk ∧ Gr w wr
theorem MulAt.start {w wr : World} {g : Nat} {l kk : List Nat} {N : Nat} (hN : N = l.length + kk.length) (h : Hold wr g 0 (List.replicate N 0)) (hg : Gr w wr) : MulAt w g l kk 0 wr :=
  ⟨_, by simp [hN], ok_replicate _, h, by simp [val_replicate, val], hg⟩
/-- The words of the product into which the next multiple is added. -/
theorem MulAt.open {w wr : World} {g : Nat} {l kk : List Nat} {k : Nat} (h : MulAt w g l kk k wr) (hl : ok l) (hkk : ok kk) (hk : k < l.length) :
    ∃ s : List Nat, s.length = kk.length + 1 ∧ ok s ∧ Hold wr g k s ∧
      ∀ (c : Nat) (t : List Nat) (w' : World), t.length = s.length → ok t → Hold w' g k t → val t + pw s.length * c = val s + val kk * l[k]?.getD 0 → Wr g k s.length wr w' → w.heap.size ≤ g → MulAt w g l kk (k + 1) w' := by
  obtain ⟨r, hrl, hro, hh, hv, hg⟩ := h
  refine ⟨(r.drop k).take (kk.length + 1), by simp; omega, ok_take (ok_drop hro _) _, ?_, ?_⟩
  · have e : r = r.take k ++ r.drop k := (List.take_append_drop k r).symm
    rw [e] at hh
    have h1 := (Hold.append.1 hh).2
    rw [List.length_take, Nat.min_eq_left (by omega), Nat.zero_add] at h1
    rw [← List.take_append_drop (kk.length + 1) (r.drop k)] at h1
    exact (Hold.append.1 h1).1
  · intro c t w' htl hto hth htv hw hgb
    have hsl : ((r.drop k).take (kk.length + 1)).length = kk.length + 1 := by simp; omega
    rw [hsl] at htl htv hw
    have e2 : r = r.take k ++ ((r.drop k).take (kk.length + 1) ++ r.drop (k + (kk.length + 1))) := by
      rw [← List.drop_drop, List.take_append_drop, List.take_append_drop]
    have v1 : val r = val (r.take k) + pw k * (val ((r.drop k).take (kk.length + 1)) + pw (kk.length + 1) * val (r.drop (k + (kk.length + 1)))) := by
      conv => lhs; rw [e2]
      rw [val_append, val_append, hsl, List.length_take, Nat.min_eq_left (by omega)]
    have b1 : val (l.take (k + 1)) = val (l.take k) + pw k * l[k]?.getD 0 := val_take_succ l k hk
    have b2 := val_take_lt hl (k + 1)
    have b3 := val_lt hkk
    have b4 : val (l.take (k + 1)) * val kk < pw (k + 1) * pw kk.length := Nat.mul_lt_mul'' b2 b3
    rw [← pw_add] at b4
    have v2 : val (l.take (k + 1)) * val kk = val r + pw k * (val kk * l[k]?.getD 0) := by
      rw [b1, Nat.add_mul, hv, Nat.mul_assoc, Nat.mul_comm (l[k]?.getD 0)]
    have hlt : val ((r.drop k).take (kk.length + 1)) + val kk * l[k]?.getD 0 < pw (kk.length + 1) := by
      rcases Nat.lt_or_ge (val ((r.drop k).take (kk.length + 1)) + val kk * l[k]?.getD 0) (pw (kk.length + 1)) with h | h
      · exact h
      · have h1 := Nat.mul_le_mul_left (pw k) h
        rw [← pw_add, Nat.mul_add] at h1
        rw [Nat.mul_add] at v1
        have h2 : k + 1 + kk.length = k + (kk.length + 1) := by omega
        rw [h2] at b4
        omega
    have hc : c = 0 := by
      rcases Nat.eq_zero_or_pos c with h | h
      · exact h
      · have := Nat.le_mul_of_pos_right (pw (kk.length + 1)) h
        omega
    subst hc
    rw [Nat.mul_zero, Nat.add_zero] at htv
    refine ⟨r.take k ++ (t ++ r.drop (k + (kk.length + 1))), by simp; omega, ok_append.2 ⟨ok_take hro _, ok_append.2 ⟨hto, ok_drop hro _⟩⟩, ?_, ?_, Wr.gr hg hw hgb⟩
    · rw [e2] at hh
      have h1 := Hold.append.1 hh
      have h2 := Hold.append.1 h1.2
      rw [hsl, List.length_take, Nat.min_eq_left (by omega), Nat.zero_add] at h2
      refine Hold.append.2 ⟨h1.1.wr hw (.inl (by simp; omega)), ?_⟩
      rw [List.length_take, Nat.min_eq_left (by omega), Nat.zero_add]
      refine Hold.append.2 ⟨hth, ?_⟩
      rw [htl]
      exact h2.2.wr hw (.inr (by omega))
    · rw [val_append, val_append, htl, List.length_take, Nat.min_eq_left (by omega), htv, v2, v1]
      simp only [Nat.mul_add]
      omega

set_option maxHeartbeats 2000000 in
theorem Mul_bad (p q : Option Addr) (n m c d : Nat) (l k : List Nat) (w : World) (hl : Nw w p n c l) (hk : Nw w q m d k) (hv : decide (valid l) = false ∨ decide (valid k) = false) :
    Calls Tryd.prog 83 #[.agg #[.slice p n c], .agg #[.slice q m d]] w (Failed 1 w) := by
  have HL := Lib.hid hl
  have HK := Lib.hid hk
  have HV := Lib.hid hv
  have G0 := Lib.hid ((((Gr.refl w).alloc (.cells #[.slice p n c] 43)).alloc (.cells #[.slice q m d] 43)).alloc (.cells #[.slice none 0 0] 43))
  clear hl hk hv
  go_enter Tryd.func83, Tryd.ntmps83
  go_wp2_with fail
  refine (Valid_n p n c l _ (HL.out.grow G0.out)).mono ?_
  rintro e w1 ⟨rfl, hg⟩
  have c2 := hg.cell (p := ⟨w.heap.size + 1, 0, none⟩) (v := .slice q m d) (by simp [go_sem])
  have c3 := hg.cell (p := ⟨w.heap.size + 1 + 1, 0, none⟩) (v := .slice none 0 0) (by simp [go_sem])
  have f3 := hg.frozen (p := ⟨w.heap.size + 1 + 1, 0, none⟩) (v := .slice none 0 0) (by simp [go_sem]) (by simp [go_sem])
  have GA := Lib.hid (G0.out.trans hg)
  clear hg
  cases hv1 : decide (valid l)
  · clear hv1
    go_wp2
    exact bodyPost_ret (v := .tuple #[.agg #[.slice none 0 0], .int .i64 1]) (by simp [results, Tryd.results83, go_sem, c3]) rfl ⟨rfl, GA.out.setCell (by simp; omega) _⟩
  · have hv2 : decide (valid k) = false := by
      rcases HV.out with h | h
      · rw [hv1] at h; cases h
      · exact h
    clear hv1
    go_wp2_with fail
    refine (Valid_n q m d k _ (HK.out.grow GA.out)).mono ?_
    rintro e w2 ⟨rfl, hg⟩
    rw [hv2]
    have e3 := hg.cell c3
    have f4 := hg.frozen c3 f3
    have GB := Lib.hid (GA.out.trans hg)
    clear hg hv2 c2 c3 f3
    go_wp2
    exact bodyPost_ret (v := .tuple #[.agg #[.slice none 0 0], .int .i64 1]) (by simp [results, Tryd.results83, go_sem, e3]) rfl ⟨rfl, GB.out.setCell (by simp; omega) _⟩


set_option maxRecDepth 100000 in
set_option maxHeartbeats 4000000 in
theorem Mul_ok (p q : Option Addr) (n m c d : Nat) (l k : List Nat) (w : World) (hl : Nw w p n c l) (hk : Nw w q m d k) (hv1 : decide (valid l) = true) (hv2 : decide (valid k) = true) (hx : val l * val k < pw 64) :
    Calls Tryd.prog 83 #[.agg #[.slice p n c], .agg #[.slice q m d]] w (Gave (val l * val k) w) := by
  obtain ⟨i0, hi, hz0, hz1, hz2⟩ := info_parts infoW
  have HL := Lib.hid hl
  have HK := Lib.hid hk
  have HV1 := Lib.hid hv1
  have HV2 := Lib.hid hv2
  have HX := Lib.hid hx
  have hnb := (of_decide_eq_true hv1).1
  have hmb := (of_decide_eq_true hv2).1
  rw [hl.len] at hnb
  rw [hk.len] at hmb
  have G0 := Lib.hid ((((Gr.refl w).alloc (.cells #[.slice p n c] 43)).alloc (.cells #[.slice q m d] 43)).alloc (.cells #[.slice none 0 0] 43))
  clear hl hk hv1 hv2 hx
  go_enter Tryd.func83, Tryd.ntmps83
  go_wp2_with fail
  refine (Valid_n p n c l _ (HL.out.grow G0.out)).mono ?_
  rintro e w1 ⟨rfl, hg⟩
  rw [HV1.out]
  have c1 := hg.cell (p := ⟨w.heap.size, 0, none⟩) (v := .slice p n c) (by simp [go_sem])
  have c2 := hg.cell (p := ⟨w.heap.size + 1, 0, none⟩) (v := .slice q m d) (by simp [go_sem])
  have c3 := hg.cell (p := ⟨w.heap.size + 1 + 1, 0, none⟩) (v := .slice none 0 0) (by simp [go_sem])
  have f3 := hg.frozen (p := ⟨w.heap.size + 1 + 1, 0, none⟩) (v := .slice none 0 0) (by simp [go_sem]) (by simp [go_sem])
  have GA := Lib.hid (G0.out.trans hg)
  clear hg
  go_wp2_with fail
  refine (Valid_n q m d k _ (HK.out.grow GA.out)).mono ?_
  rintro e w2 ⟨rfl, hg⟩
  rw [HV2.out]
  have e1 := hg.cell c1
  have e2 := hg.cell c2
  have e3 := hg.cell c3
  have f4 := hg.frozen c3 f3
  have GB := Lib.hid (GA.out.trans hg)
  clear hg c1 c2 c3 f3 GA G0
  have hz3 : w.heap.size + 1 + 1 < w2.heap.size := World.block_lt_of_cell? w2 _ e3
  go_wp2_with (refine wpList_make_full (o := ⟨some 25, _, _, _, _, _⟩) _ rfl _ _ _ rfl w2.heap.size 35 i0 (.int .u32 0) 1 Tryd.underlying41 hi hz0 hz1 .i64 .i64 _ _ (n + m) rfl rfl (by omega) (by omega) (by rw [hz2]; omega) (by unfold maxLen; omega) (Nat.le_refl _) ?_; intro w3 hown hgrow; have k1 := (Gr.grown hgrow).cell e1; have k2 := (Gr.grown hgrow).cell e2; have k3 := (Gr.grown hgrow).cell e3; have g3 := (Gr.grown hgrow).frozen e3 f4; have HO := Lib.hid hown; have G3 := Lib.hid (Gr.grown hgrow); clear hown hgrow)
  have H0 : Hid (MulAt w2 w2.heap.size l k 0 w3) := Lib.hid (MulAt.start (by rw [HL.out.len, HK.out.len]) (hold_made HO.out) G3.out)
  clear HO k1 k2 k3 g3
  go_loopw [29] (fun i wr => ∃ j : Nat, j ≤ n ∧ i = .int .i64 j ∧ MulAt w2 w2.heap.size l k j wr) (fun i _ => n - (intOf i).toNat)
  case atStart => exact ⟨0, Nat.zero_le _, rfl, H0.out⟩
  case round =>
    obtain ⟨j, hj, rfl, hA⟩ := hrel
    have HA := Lib.hid hA
    have hGr : Gr w2 wr := hA.choose_spec.2.2.2.2
    have c2 := hGr.cell e2
    have c3 := hGr.cell e3
    have f3 := hGr.frozen e3 f4
    have HGR := Lib.hid (GB.out.trans hGr)
    have HGR2 := Lib.hid hGr
    clear hA hGr
    by_cases hlt : j < n
    · obtain ⟨b, off, rfl, hc⟩ := (HGR.out.rd HL.out.rd).at (by rw [HL.out.len]; omega)
      have hcj := hc j (by rw [HL.out.len]; omega)
      have hx := ok_get HL.out.ok j
      obtain ⟨s, hs, hso, hsh, hnext⟩ := HA.out.open HL.out.ok HK.out.ok (by rw [HL.out.len]; exact hlt)
      have HS := Lib.hid hs
      have HSO := Lib.hid hso
      have HSH := Lib.hid hsh
      have HNX := Lib.hid hnext
      clear hc hs hso hsh hnext
      generalize l[j]?.getD 0 = x at *
      go_wp2
      have hkl := HK.out.len
      have q1 : (j : Int) ≤ (j : Int) + (m : Int) + 1 := by omega
      have q2 : (n + m = j) = False := eq_false (by omega)
      have q3 : j + m + 1 - j = m + 1 := by omega
      have q4 : IntKind.i64.wrap ((j : Int) + (m : Int)) = (j : Int) + (m : Int) := IntWalk.i64_in _ (by omega)
      have q5 : IntKind.i64.wrap ((j : Int) + (m : Int) + 1) = (j : Int) + (m : Int) + 1 := IntWalk.i64_in _ (by omega)
      have q6 : (0 : Int) ≤ (j : Int) + (m : Int) + 1 := by omega
      have q7 : (j : Int) + (m : Int) + 1 ≤ (n : Int) + (m : Int) := by omega
      have q8 : ((j : Int) + (m : Int) + 1).toNat = j + m + 1 := by omega
      clear hkl
      go_still_tail 12, (by kernel_rfl)
      change wpList _ _ _ _ _ wr.drew
      have HSH2 : Hid (Hold wr.drew w2.heap.size j s) := Lib.hid HSH.out
      have HG4 : Hid (Gr w wr.drew) := Lib.hid HGR.out.drew
      have HWR : Hid (∀ w', Wr w2.heap.size j s.length wr.drew w' → Wr w2.heap.size j s.length wr w') := Lib.hid (fun w' hw => ((Wr.refl _ _ _ wr).drewN 1).trans hw)
      have c2d : wr.drew.cell? ⟨w.heap.size + 1, 0, none⟩ = some (.slice q m d) := c2
      clear HSH q1 q2 q3 q4 q5 q6 q7 q8 hcj c2 c3 f3 HGR
      generalize wr.drew = wd at *
      go_wp2_with fail
      refine (addProduct_n w2.heap.size j (m + 1) s (n + m - j) q m k d x (by rw [HS.out, HK.out.len]) HK.out.len hx HSO.out HK.out.ok (by omega) (by omega) wd HSH2.out (RdN.of HK.out.rd HG4.out (by omega))).mono ?_
      rintro e w5 ⟨cr, r, rfl, hrl, hro, hrh, hv, hc, hw⟩
      have HN := Lib.hid (HNX.out cr r w5 hrl hro hrh hv (HWR.out w5 hw) (Nat.le_refl _))
      clear hrl hro hrh hv hw
      go_wp2
      go_roundw
      case rel => exact ⟨j + 1, by omega, by go_num, HN.out⟩
      case measure => simp [intOf]; omega
    · obtain rfl : j = n := by omega
      obtain ⟨r, hrl, hro, hrh, hv, _⟩ := HA.out
      rw [← HL.out.len, List.take_length] at hv
      rw [HL.out.len, HK.out.len] at hrl
      have HRL := Lib.hid hrl
      have HRO := Lib.hid hro
      have HRH := Lib.hid hrh
      have HRV := Lib.hid hv
      clear hrl hro hrh hv HA
      go_wp2_with fail
      refine (fit_gave (some ⟨w2.heap.size, 0, none⟩) (j + m) (j + m) r HRL.out (Nat.le_refl _) (by omega) (fun e => by cases e) HRO.out w.heap.size _ (HRH.out.own (by omega)) (by rw [HRV.out]; exact HX.out)).mono ?_
      rintro e w6 ⟨n6, rfl, hr6, hg6⟩
      have HR6 := Lib.hid hr6
      clear hr6
      have o3 := hg6.cell c3
      have of3 := hg6.frozen c3 f3
      have G6 := Lib.hid (HGR.out.trans hg6)
      clear hg6 c3 f3
      go_wp2
      exact bodyPost_ret (v := .tuple #[.agg #[.slice (some ⟨w2.heap.size, 0, none⟩) n6 (j + m)], .int .i64 0]) (by simp [results, Tryd.results83, go_sem, o3]) rfl ⟨_, _, _, rfl, by rw [← HRV.out]; exact HR6.out.set _ _ (fun x e => by cases e; simp; omega), G6.out.setCell (by simp; omega) _⟩

set_option maxRecDepth 100000 in
set_option maxHeartbeats 4000000 in
theorem Mul_big (p q : Option Addr) (n m c d : Nat) (l k : List Nat) (w : World) (hl : Nw w p n c l) (hk : Nw w q m d k) (hv1 : decide (valid l) = true) (hv2 : decide (valid k) = true) (hx : pw 64 ≤ val l * val k) :
    Calls Tryd.prog 83 #[.agg #[.slice p n c], .agg #[.slice q m d]] w (Failed 9 w) := by
  obtain ⟨i0, hi, hz0, hz1, hz2⟩ := info_parts infoW
  have HL := Lib.hid hl
  have HK := Lib.hid hk
  have HV1 := Lib.hid hv1
  have HV2 := Lib.hid hv2
  have HX := Lib.hid hx
  have hnb := (of_decide_eq_true hv1).1
  have hmb := (of_decide_eq_true hv2).1
  rw [hl.len] at hnb
  rw [hk.len] at hmb
  have G0 := Lib.hid ((((Gr.refl w).alloc (.cells #[.slice p n c] 43)).alloc (.cells #[.slice q m d] 43)).alloc (.cells #[.slice none 0 0] 43))
  clear hl hk hv1 hv2 hx
  go_enter Tryd.func83, Tryd.ntmps83
  go_wp2_with fail
  refine (Valid_n p n c l _ (HL.out.grow G0.out)).mono ?_
  rintro e w1 ⟨rfl, hg⟩
  rw [HV1.out]
  have c1 := hg.cell (p := ⟨w.heap.size, 0, none⟩) (v := .slice p n c) (by simp [go_sem])
  have c2 := hg.cell (p := ⟨w.heap.size + 1, 0, none⟩) (v := .slice q m d) (by simp [go_sem])
  have c3 := hg.cell (p := ⟨w.heap.size + 1 + 1, 0, none⟩) (v := .slice none 0 0) (by simp [go_sem])
  have f3 := hg.frozen (p := ⟨w.heap.size + 1 + 1, 0, none⟩) (v := .slice none 0 0) (by simp [go_sem]) (by simp [go_sem])
  have GA := Lib.hid (G0.out.trans hg)
  clear hg
  go_wp2_with fail
  refine (Valid_n q m d k _ (HK.out.grow GA.out)).mono ?_
  rintro e w2 ⟨rfl, hg⟩
  rw [HV2.out]
  have e1 := hg.cell c1
  have e2 := hg.cell c2
  have e3 := hg.cell c3
  have f4 := hg.frozen c3 f3
  have GB := Lib.hid (GA.out.trans hg)
  clear hg c1 c2 c3 f3 GA G0
  have hz3 : w.heap.size + 1 + 1 < w2.heap.size := World.block_lt_of_cell? w2 _ e3
  go_wp2_with (refine wpList_make_full (o := ⟨some 25, _, _, _, _, _⟩) _ rfl _ _ _ rfl w2.heap.size 35 i0 (.int .u32 0) 1 Tryd.underlying41 hi hz0 hz1 .i64 .i64 _ _ (n + m) rfl rfl (by omega) (by omega) (by rw [hz2]; omega) (by unfold maxLen; omega) (Nat.le_refl _) ?_; intro w3 hown hgrow; have k1 := (Gr.grown hgrow).cell e1; have k2 := (Gr.grown hgrow).cell e2; have k3 := (Gr.grown hgrow).cell e3; have g3 := (Gr.grown hgrow).frozen e3 f4; have HO := Lib.hid hown; have G3 := Lib.hid (Gr.grown hgrow); clear hown hgrow)
  have H0 : Hid (MulAt w2 w2.heap.size l k 0 w3) := Lib.hid (MulAt.start (by rw [HL.out.len, HK.out.len]) (hold_made HO.out) G3.out)
  clear HO k1 k2 k3 g3
  go_loopw [29] (fun i wr => ∃ j : Nat, j ≤ n ∧ i = .int .i64 j ∧ MulAt w2 w2.heap.size l k j wr) (fun i _ => n - (intOf i).toNat)
  case atStart => exact ⟨0, Nat.zero_le _, rfl, H0.out⟩
  case round =>
    obtain ⟨j, hj, rfl, hA⟩ := hrel
    have HA := Lib.hid hA
    have hGr : Gr w2 wr := hA.choose_spec.2.2.2.2
    have c2 := hGr.cell e2
    have c3 := hGr.cell e3
    have f3 := hGr.frozen e3 f4
    have HGR := Lib.hid (GB.out.trans hGr)
    have HGR2 := Lib.hid hGr
    clear hA hGr
    by_cases hlt : j < n
    · obtain ⟨b, off, rfl, hc⟩ := (HGR.out.rd HL.out.rd).at (by rw [HL.out.len]; omega)
      have hcj := hc j (by rw [HL.out.len]; omega)
      have hx := ok_get HL.out.ok j
      obtain ⟨s, hs, hso, hsh, hnext⟩ := HA.out.open HL.out.ok HK.out.ok (by rw [HL.out.len]; exact hlt)
      have HS := Lib.hid hs
      have HSO := Lib.hid hso
      have HSH := Lib.hid hsh
      have HNX := Lib.hid hnext
      clear hc hs hso hsh hnext
      generalize l[j]?.getD 0 = x at *
      go_wp2
      have hkl := HK.out.len
      have q1 : (j : Int) ≤ (j : Int) + (m : Int) + 1 := by omega
      have q2 : (n + m = j) = False := eq_false (by omega)
      have q3 : j + m + 1 - j = m + 1 := by omega
      have q4 : IntKind.i64.wrap ((j : Int) + (m : Int)) = (j : Int) + (m : Int) := IntWalk.i64_in _ (by omega)
      have q5 : IntKind.i64.wrap ((j : Int) + (m : Int) + 1) = (j : Int) + (m : Int) + 1 := IntWalk.i64_in _ (by omega)
      have q6 : (0 : Int) ≤ (j : Int) + (m : Int) + 1 := by omega
      have q7 : (j : Int) + (m : Int) + 1 ≤ (n : Int) + (m : Int) := by omega
      have q8 : ((j : Int) + (m : Int) + 1).toNat = j + m + 1 := by omega
      clear hkl
      go_still_tail 12, (by kernel_rfl)
      change wpList _ _ _ _ _ wr.drew
      have HSH2 : Hid (Hold wr.drew w2.heap.size j s) := Lib.hid HSH.out
      have HG4 : Hid (Gr w wr.drew) := Lib.hid HGR.out.drew
      have HWR : Hid (∀ w', Wr w2.heap.size j s.length wr.drew w' → Wr w2.heap.size j s.length wr w') := Lib.hid (fun w' hw => ((Wr.refl _ _ _ wr).drewN 1).trans hw)
      have c2d : wr.drew.cell? ⟨w.heap.size + 1, 0, none⟩ = some (.slice q m d) := c2
      clear HSH q1 q2 q3 q4 q5 q6 q7 q8 hcj c2 c3 f3 HGR
      generalize wr.drew = wd at *
      go_wp2_with fail
      refine (addProduct_n w2.heap.size j (m + 1) s (n + m - j) q m k d x (by rw [HS.out, HK.out.len]) HK.out.len hx HSO.out HK.out.ok (by omega) (by omega) wd HSH2.out (RdN.of HK.out.rd HG4.out (by omega))).mono ?_
      rintro e w5 ⟨cr, r, rfl, hrl, hro, hrh, hv, hc, hw⟩
      have HN := Lib.hid (HNX.out cr r w5 hrl hro hrh hv (HWR.out w5 hw) (Nat.le_refl _))
      clear hrl hro hrh hv hw
      go_wp2
      go_roundw
      case rel => exact ⟨j + 1, by omega, by go_num, HN.out⟩
      case measure => simp [intOf]; omega
    · obtain rfl : j = n := by omega
      obtain ⟨r, hrl, hro, hrh, hv, _⟩ := HA.out
      rw [← HL.out.len, List.take_length] at hv
      rw [HL.out.len, HK.out.len] at hrl
      have HRL := Lib.hid hrl
      have HRO := Lib.hid hro
      have HRH := Lib.hid hrh
      have HRV := Lib.hid hv
      clear hrl hro hrh hv HA
      go_wp2_with fail
      refine (fit_failed (some ⟨w2.heap.size, 0, none⟩) (j + m) (j + m) r HRL.out (Nat.le_refl _) (by omega) HRO.out _ HRH.out.rd (by rw [HRV.out]; exact HX.out)).mono ?_
      rintro e w6 ⟨rfl, hg6⟩
      have o3 := hg6.cell c3
      have of3 := hg6.frozen c3 f3
      have G6 := Lib.hid (HGR.out.trans hg6)
      clear hg6 c3 f3
      go_wp2
      exact bodyPost_ret (v := .tuple #[.agg #[.slice none 0 0], .int .i64 9]) (by simp [results, Tryd.results83, go_sem, o3]) rfl ⟨rfl, G6.out.setCell (by simp; omega) _⟩
end Go.Proofs.YtfompolklkehpaaDoor.Nk


/- The contract of natural's takeDigit: one digit of a quotient. -/
namespace Go.Proofs.YtfompolklkehpaaDoor.Nk
open Go.RowKit Go.Proofs.YtfompolklkehpaaDoor.Nm Go.Proofs.YtfompolklkehpaaDoor.Ne Go.Proofs.YtfompolklkehpaaDoor.Nf

/-- The first guess is not too small. -/
theorem guess_ge {R D : List Nat} {j : Nat} (hR : ok R) (hRl : R.length = j + 2) (hDl : D.length = j + 1) (G : Nat)
    (hG : (R[j + 1]?.getD 0 < D[j]?.getD 0 → G = (R[j + 1]?.getD 0 * 4294967296 + R[j]?.getD 0) / D[j]?.getD 0) ∧ (D[j]?.getD 0 ≤ R[j + 1]?.getD 0 → G = 4294967295)) (h : val R < val D * 4294967296) : val R < val D * (G + 1) := by
  rcases Nat.lt_or_ge (R[j + 1]?.getD 0) (D[j]?.getD 0) with h1 | h1
  · have e1 := val_take_succ R (j + 1) (by omega)
    rw [show j + 1 + 1 = R.length by omega, List.take_length, val_take_succ R j (by omega)] at e1
    have e2 := val_take_succ D j (by omega)
    rw [show j + 1 = D.length by omega, List.take_length] at e2
    have h2 := val_take_lt hR j
    have h3 := hG.1 h1
    have h4 := Nat.lt_mul_div_succ (R[j + 1]?.getD 0 * 4294967296 + R[j]?.getD 0) (Nat.lt_of_le_of_lt (Nat.zero_le _) h1)
    rw [← h3] at h4
    simp only [pw] at e1
    generalize R[j + 1]?.getD 0 = r1 at *
    generalize R[j]?.getD 0 = r0 at *
    generalize D[j]?.getD 0 = d at *
    have h5 : pw j * (r1 * 4294967296 + r0 + 1) ≤ pw j * (d * (G + 1)) := Nat.mul_le_mul_left _ h4
    have h6 : pw j * d * (G + 1) ≤ val D * (G + 1) := Nat.mul_le_mul_right _ (by omega)
    rw [← Nat.mul_assoc, Nat.mul_add, Nat.mul_add] at h5
    have h7 : pw j * (r1 * 4294967296) = 4294967296 * pw j * r1 := by rw [Nat.mul_comm r1, ← Nat.mul_assoc, Nat.mul_comm (pw j)]
    omega
  · rw [hG.2 h1]; exact h

/-- Behind the first guess: what is left, how often, and whether it is negative. -/
def DigAt (g o : Nat) (R D : List Nat) (G : Nat) (w : World) (dg : Nat) (neg : Bool) (wr : World) : Prop :=
  ∃ r : List Nat, r.length = R.length ∧ ok r ∧ Hold wr g o r ∧ Wr g o R.length w wr ∧ dg ≤ G ∧
    (neg = false → val r + dg * val D = val R ∧ (dg = G ∨ val r < val D)) ∧ (neg = true → val r + dg * val D = val R + pw R.length)
theorem Wr.back {b off n : Nat} {u v w : World} (h : Wr b off n u w) (k : Wr b off n u v) : Wr b off n v w :=
  ⟨h.os.trans k.os.symm, h.tape.trans k.tape.symm, h.output.trans k.output.symm, h.size.trans k.size.symm, fun i hi => (h.block i hi).trans (k.block i hi).symm, fun i hi => (h.cell i hi).trans (k.cell i hi).symm, fun a => (h.frozen a).trans (k.frozen a).symm⟩
theorem DigAt.wr0 {g o : Nat} {R D : List Nat} {G : Nat} {w v : World} {dg : Nat} {b : Bool} {wr : World} (h : DigAt g o R D G w dg b wr) (k : Wr g o R.length w v) : Wr g o R.length v wr := by
  obtain ⟨_, _, _, _, hw, _⟩ := h
  exact Wr.back hw k
theorem DigAt.pos {g o : Nat} {R D : List Nat} {G : Nat} {w : World} {dg : Nat} {wr : World} (h : DigAt g o R D G w dg true wr) : 1 ≤ dg := by
  obtain ⟨r, hrl, hro, _, _, _, _, h2⟩ := h
  have h3 := h2 rfl
  have h4 := val_lt hro
  rw [hrl] at h4
  rcases Nat.eq_zero_or_pos dg with h | h
  · subst h; omega
  · exact h
/-- What takeDigit has done. -/
def DigitAt (g o : Nat) (R D : List Nat) (w : World) (e : Ending) (w' : World) : Prop :=
  ∃ (q : Nat) (r : List Nat), e = .returned (.int .u32 (q : Int)) ∧ q < 4294967296 ∧ r.length = R.length ∧ ok r ∧ Hold w' g o r ∧ Wr g o R.length w w' ∧ val r + q * val D = val R ∧ (val R < val D * 4294967296 → val r < val D)
theorem DigAt.done {g o : Nat} {R D : List Nat} {G : Nat} {w : World} {dg : Nat} {wr : World} (h : DigAt g o R D G w dg false wr) (hG : G < 4294967296) (hg : val R < val D * 4294967296 → val R < val D * (G + 1)) :
    DigitAt g o R D w (.returned (.int .u32 (dg : Int))) wr := by
  obtain ⟨r, hrl, hro, hh, hw, hd, h1, _⟩ := h
  obtain ⟨h2, h3⟩ := h1 rfl
  refine ⟨dg, r, rfl, by omega, hrl, hro, hh, hw, h2, fun hlt => ?_⟩
  rcases h3 with rfl | h3
  · have := hg hlt
    rw [Nat.mul_add, Nat.mul_one, Nat.mul_comm (val D)] at this
    omega
  · exact h3
theorem DigAt.start {g o : Nat} {R D : List Nat} {G : Nat} {w w' : World} {j : Nat} (hD : ok D) (hRl : R.length = j + 2) (hDl : D.length = j + 1) (hG : G < 4294967296) {c : Nat} {r : List Nat} (hrl : r.length = R.length) (hro : ok r) (hh : Hold w' g o r)
    (hv : val r + val D * G = val R + pw R.length * c) (hw : Wr g o R.length w w') : c ≤ 1 ∧ DigAt g o R D G w G (c != 0) w' := by
  have h1 := val_lt hro
  rw [hrl] at h1
  have h2 : val D * G < pw R.length := by
    have h3 := val_lt hD
    rw [hDl] at h3
    rw [hRl]
    have h4 : val D * G ≤ val D * 4294967295 := Nat.mul_le_mul_left _ (by omega)
    have h5 : pw (j + 2) = 4294967296 * pw (j + 1) := rfl
    omega
  have hc : c ≤ 1 := by
    rcases Nat.lt_or_ge 1 c with h | h
    · have := Nat.mul_le_mul_left (pw R.length) (show 2 ≤ c from h)
      omega
    · exact h
  refine ⟨hc, r, hrl, hro, hh, hw, Nat.le_refl _, fun e => ?_, fun e => ?_⟩
  · have : c = 0 := by simpa using e
    subst this
    rw [Nat.mul_comm G]
    exact ⟨by omega, .inl rfl⟩
  · have : c = 1 := by
      have : c ≠ 0 := by simpa using e
      omega
    subst this
    rw [Nat.mul_comm G]
    omega
theorem DigAt.step {g o : Nat} {R D : List Nat} {G : Nat} {w wr : World} {dg : Nat} (h : DigAt g o R D G w (dg + 1) true wr) (hD : val D ≤ pw R.length) :
    ∃ s : List Nat, s.length = R.length ∧ ok s ∧ Hold wr g o s ∧ ∀ (c : Nat) (t : List Nat) (w' : World), t.length = s.length → ok t → Hold w' g o t → val t + pw s.length * c = val s + val D * 1 → Wr g o s.length wr w' → c ≤ 1 ∧ DigAt g o R D G w dg (c == 0) w' := by
  obtain ⟨r, hrl, hro, hh, hw, hd, _, h2⟩ := h
  refine ⟨r, hrl, hro, hh, fun c t w' htl hto hth htv htw => ?_⟩
  have h3 := h2 rfl
  have h4 := val_lt hro
  have h5 := val_lt hto
  rw [htl] at h5
  rw [hrl] at h4 h5 htv htw htl
  rw [Nat.mul_one] at htv
  rw [Nat.succ_mul] at h3
  have hc : c ≤ 1 := by
    rcases Nat.lt_or_ge 1 c with h | h
    · have := Nat.mul_le_mul_left (pw R.length) (show 2 ≤ c from h)
      omega
    · exact h
  refine ⟨hc, t, htl, hto, hth, hw.trans htw, by omega, fun e => ?_, fun e => ?_⟩
  · have hc1 : c = 1 := by
      have : c ≠ 0 := by simpa using e
      omega
    subst hc1
    exact ⟨by omega, .inr (by omega)⟩
  · have hc0 : c = 0 := by simpa using e
    subst hc0
    omega

set_option maxRecDepth 100000 in
set_option maxHeartbeats 4000000 in
theorem takeDigit_lt (g o n cap g2 o2 n2 cap2 j : Nat) (R D : List Nat) (eR : R.length = n) (eD : D.length = n2) (en : n = j + 2) (en2 : n2 = j + 1) (hj : j ≤ 1048576) (hR : ok R) (hD : ok D) (hne : g2 ≠ g) (w : World) (h : Hold w g o R) (h2 : Hold w g2 o2 D)
    (htop : R[j + 1]?.getD 0 < D[j]?.getD 0) :
    Calls Tryd.prog 115 #[.slice (some ⟨g, o, none⟩) n cap, .slice (some ⟨g2, o2, none⟩) n2 cap2] w (DigitAt g o R D w) := by
  subst en; subst en2
  have c1 := (h (j + 1) (by omega)).1
  have c0 := (h j (by omega)).1
  have d0 := (h2 j (by omega)).1
  have x1 := ok_get hR (j + 1)
  have x0 := ok_get hR j
  have y0 := ok_get hD j
  have HG := Lib.hid (fun G hG => guess_ge (R := R) (D := D) hR eR eD G hG)
  have HR := Lib.hid hR
  have HD := Lib.hid hD
  have HH := Lib.hid h
  have HH2 := Lib.hid h2
  have ER := Lib.hid eR
  have ED := Lib.hid eD
  have HDP : Hid (val D ≤ pw R.length) := Lib.hid (Nat.le_of_lt (Nat.lt_of_lt_of_le (val_lt hD) (pw_mono (by omega))))
  clear h h2 hR hD eR eD
  generalize R[j + 1]?.getD 0 = r1 at *
  generalize R[j]?.getD 0 = r0 at *
  generalize D[j]?.getD 0 = d at *
  have HT := Lib.hid htop
  have ht : (r1 : Int) < (d : Int) := by omega
  have q1 : IntKind.i64.wrap ((j : Int) + 1) = (j : Int) + 1 := IntWalk.i64_in _ (by omega)
  have q2 : (0 : Int) ≤ (j : Int) + 1 := by omega
  have q3 : ((j : Int) + 1).toNat = j + 1 := by omega
  have q4 : (0 : Int) ≤ (j : Int) := by omega
  have q5 : (j : Int) < (j : Int) + 1 := by omega
  have q6 : (j : Int) < (j : Int) + 2 := by omega
  have q7 : (j : Int) + 1 < (j : Int) + 2 := by omega
  go_enter Tryd.func115, Tryd.ntmps115
  go_wp2
  go_quiet (fail)
  have HQ := Lib.hid (fun w => Nb.div32 r1 r0 d htop x0 y0 w)
  obtain ⟨G, hG⟩ : ∃ G, (r1 * 4294967296 + r0) / d = G := ⟨_, rfl⟩
  have hG32 : G < 4294967296 := by
    rw [← hG]
    apply Nat.div_lt_of_lt_mul
    have := Nat.mul_le_mul_right 4294967296 (show r1 + 1 ≤ d from htop)
    omega
  have HGE : Hid (val R < val D * 4294967296 → val R < val D * (G + 1)) := Lib.hid (HG.out G ⟨fun _ => hG.symm, fun h => absurd h (by have := HT.out; omega)⟩)
  rw [hG] at HQ
  clear hG HG HT
  go_wp2
  have C1 : (w.drewN nq).cell? ⟨g, o + (j + 1), none⟩ = some (.int .u32 (r1 : Int)) := c1
  have C0 : (w.drewN nq).cell? ⟨g, o + j, none⟩ = some (.int .u32 (r0 : Int)) := c0
  have D0 : (w.drewN nq).cell? ⟨g2, o2 + j, none⟩ = some (.int .u32 (d : Int)) := d0
  have HHd : Hid (Hold (w.drewN nq) g o R) := Lib.hid HH.out
  have HH2d : Hid (Hold (w.drewN nq) g2 o2 D) := Lib.hid HH2.out
  have HWd : Hid (Wr g o R.length w (w.drewN nq)) := Lib.hid ((Wr.refl _ _ _ w).drewN nq)
  clear c1 c0 d0 HH HH2
  generalize w.drewN nq = wd at *
  go_quiet ((go_at_call 117; exact Calls.quiet_of (HQ.out _)))
  have HH : Hid (Hold (wd.drewN nq) g o R) := Lib.hid HHd.out
  have HH2 : Hid (Hold (wd.drewN nq) g2 o2 D) := Lib.hid HH2d.out
  have HW : Hid (Wr g o R.length w (wd.drewN nq)) := Lib.hid (HWd.out.drewN nq)
  clear HHd HH2d HWd C1 C0 D0
  generalize wd.drewN nq = wq at *
  go_wp2_with fail
  refine (takeProduct_n g o (j + 2) R cap (some ⟨g2, o2, none⟩) (j + 1) D cap2 G ER.out ED.out hG32 HR.out HD.out (by omega) (by omega) _ HH.out (HH2.out.rdN hne)).mono ?_
  rintro e w1 ⟨c, r, rfl, hrl, hro, hrh, hv, _, hw⟩
  obtain ⟨hc, hA⟩ := DigAt.start (G := G) (w := w) HD.out ER.out ED.out hG32 hrl hro hrh hv (HW.out.trans hw)
  have H0 := Lib.hid hA
  clear hrl hro hrh hv hw hA
  generalize hneg : (c != 0) = neg at *
  have hneg2 : ((c : Int) != 0) = neg := by rw [← hneg, Bool.eq_iff_iff]; simp
  clear hneg hc
  go_wp2
  go_loopw [6, 7] (fun dv nv wr => ∃ (dg : Nat) (b : Bool), dv = .int .u32 dg ∧ nv = .bool b ∧ dg < 4294967296 ∧ DigAt g o R D G w dg b wr) (fun dv _ _ => (intOf dv).toNat)
  case atStart => exact ⟨G, neg, rfl, rfl, hG32, H0.out⟩
  case round =>
    obtain ⟨dg, b, rfl, rfl, hdg, hA⟩ := hrel
    have HA := Lib.hid hA
    clear hA H0 hneg2 q1 q2 q3 q4 q5 q6 q7
    cases b
    · go_wp2
      go_ret
      exact HA.out.done hG32 HGE.out
    · obtain ⟨dg, rfl⟩ : ∃ k, dg = k + 1 := ⟨dg - 1, by have := HA.out.pos; omega⟩
      obtain ⟨s, hsl, hso, hsh, hnext⟩ := HA.out.step HDP.out
      have HS := Lib.hid hsl
      have HSO := Lib.hid hso
      have HSH := Lib.hid hsh
      have HN := Lib.hid hnext
      have HWR := Lib.hid (HA.out.wr0 HW.out)
      clear hsl hso hsh hnext
      go_wp2_with fail
      refine (addProduct_n g o (j + 2) s cap (some ⟨g2, o2, none⟩) (j + 1) D cap2 1 (HS.out.trans ER.out) ED.out (by decide) HSO.out HD.out (by omega) (by omega) _ HSH.out ((HH2.out.rdN hne).wr HWR.out)).mono ?_
      rintro e w2 ⟨c2, t, rfl, htl, hto, hth, hv, _, hw⟩
      obtain ⟨hc2, hA2⟩ := HN.out c2 t w2 htl hto hth hv hw
      have HA2 := Lib.hid hA2
      clear htl hto hth hv hw hA2
      generalize hb : (c2 == 0) = b at *
      have hb2 : ((c2 : Int) == 0) = b := by rw [← hb, Bool.eq_iff_iff]; simp
      clear hb hc2
      go_wp2
      go_roundw
      case rel => exact ⟨dg, b, by go_num, rfl, by omega, HA2.out⟩
      case measure => simp [intOf]

set_option maxRecDepth 100000 in
set_option maxHeartbeats 4000000 in
theorem takeDigit_ge (g o n cap g2 o2 n2 cap2 j : Nat) (R D : List Nat) (eR : R.length = n) (eD : D.length = n2) (en : n = j + 2) (en2 : n2 = j + 1) (hj : j ≤ 1048576) (hR : ok R) (hD : ok D) (hne : g2 ≠ g) (w : World) (h : Hold w g o R) (h2 : Hold w g2 o2 D)
    (htop : D[j]?.getD 0 ≤ R[j + 1]?.getD 0) :
    Calls Tryd.prog 115 #[.slice (some ⟨g, o, none⟩) n cap, .slice (some ⟨g2, o2, none⟩) n2 cap2] w (DigitAt g o R D w) := by
  subst en; subst en2
  have c1 := (h (j + 1) (by omega)).1
  have c0 := (h j (by omega)).1
  have d0 := (h2 j (by omega)).1
  have x1 := ok_get hR (j + 1)
  have x0 := ok_get hR j
  have y0 := ok_get hD j
  have HG := Lib.hid (fun G hG => guess_ge (R := R) (D := D) hR eR eD G hG)
  have HR := Lib.hid hR
  have HD := Lib.hid hD
  have HH := Lib.hid h
  have HH2 := Lib.hid h2
  have ER := Lib.hid eR
  have ED := Lib.hid eD
  have HDP : Hid (val D ≤ pw R.length) := Lib.hid (Nat.le_of_lt (Nat.lt_of_lt_of_le (val_lt hD) (pw_mono (by omega))))
  clear h h2 hR hD eR eD
  generalize R[j + 1]?.getD 0 = r1 at *
  generalize R[j]?.getD 0 = r0 at *
  generalize D[j]?.getD 0 = d at *
  have HT := Lib.hid htop
  have ht : (d : Int) ≤ (r1 : Int) := by omega
  have q1 : IntKind.i64.wrap ((j : Int) + 1) = (j : Int) + 1 := IntWalk.i64_in _ (by omega)
  have q2 : (0 : Int) ≤ (j : Int) + 1 := by omega
  have q3 : ((j : Int) + 1).toNat = j + 1 := by omega
  have q4 : (0 : Int) ≤ (j : Int) := by omega
  have q5 : (j : Int) < (j : Int) + 1 := by omega
  have q6 : (j : Int) < (j : Int) + 2 := by omega
  have q7 : (j : Int) + 1 < (j : Int) + 2 := by omega
  go_enter Tryd.func115, Tryd.ntmps115
  go_wp2
  go_quiet (fail)
  obtain ⟨G, hG⟩ : ∃ G : Nat, G = 4294967295 := ⟨_, rfl⟩
  have hG32 : G < 4294967296 := by omega
  have HGE : Hid (val R < val D * 4294967296 → val R < val D * (G + 1)) := Lib.hid (HG.out G ⟨fun h => absurd h (by have := HT.out; omega), fun _ => hG⟩)
  have HGI : Hid ((4294967295 : Int) = (G : Int)) := Lib.hid (by rw [hG]; rfl)
  clear HG HT hG
  have HHd : Hid (Hold (w.drewN nq) g o R) := Lib.hid HH.out
  have HH2d : Hid (Hold (w.drewN nq) g2 o2 D) := Lib.hid HH2.out
  have HW : Hid (Wr g o R.length w (w.drewN nq)) := Lib.hid ((Wr.refl _ _ _ w).drewN nq)
  clear c1 c0 d0 HH HH2
  have HH := HHd
  have HH2 := HH2d
  clear HHd HH2d
  generalize w.drewN nq = wq at *
  go_wp2_with fail
  rw [HGI.out]
  refine (takeProduct_n g o (j + 2) R cap (some ⟨g2, o2, none⟩) (j + 1) D cap2 G ER.out ED.out hG32 HR.out HD.out (by omega) (by omega) _ HH.out (HH2.out.rdN hne)).mono ?_
  rintro e w1 ⟨c, r, rfl, hrl, hro, hrh, hv, _, hw⟩
  obtain ⟨hc, hA⟩ := DigAt.start (G := G) (w := w) HD.out ER.out ED.out hG32 hrl hro hrh hv (HW.out.trans hw)
  have H0 := Lib.hid hA
  clear hrl hro hrh hv hw hA
  generalize hneg : (c != 0) = neg at *
  have hneg2 : ((c : Int) != 0) = neg := by rw [← hneg, Bool.eq_iff_iff]; simp
  clear hneg hc
  go_wp2
  go_loopw [6, 7] (fun dv nv wr => ∃ (dg : Nat) (b : Bool), dv = .int .u32 dg ∧ nv = .bool b ∧ dg < 4294967296 ∧ DigAt g o R D G w dg b wr) (fun dv _ _ => (intOf dv).toNat)
  case atStart => exact ⟨G, neg, rfl, rfl, hG32, H0.out⟩
  case round =>
    obtain ⟨dg, b, rfl, rfl, hdg, hA⟩ := hrel
    have HA := Lib.hid hA
    clear hA H0 hneg2 q1 q2 q3 q4 q5 q6 q7
    cases b
    · go_wp2
      go_ret
      exact HA.out.done hG32 HGE.out
    · obtain ⟨dg, rfl⟩ : ∃ k, dg = k + 1 := ⟨dg - 1, by have := HA.out.pos; omega⟩
      obtain ⟨s, hsl, hso, hsh, hnext⟩ := HA.out.step HDP.out
      have HS := Lib.hid hsl
      have HSO := Lib.hid hso
      have HSH := Lib.hid hsh
      have HN := Lib.hid hnext
      have HWR := Lib.hid (HA.out.wr0 HW.out)
      clear hsl hso hsh hnext
      go_wp2_with fail
      refine (addProduct_n g o (j + 2) s cap (some ⟨g2, o2, none⟩) (j + 1) D cap2 1 (HS.out.trans ER.out) ED.out (by decide) HSO.out HD.out (by omega) (by omega) _ HSH.out ((HH2.out.rdN hne).wr HWR.out)).mono ?_
      rintro e w2 ⟨c2, t, rfl, htl, hto, hth, hv, _, hw⟩
      obtain ⟨hc2, hA2⟩ := HN.out c2 t w2 htl hto hth hv hw
      have HA2 := Lib.hid hA2
      clear htl hto hth hv hw hA2
      generalize hb : (c2 == 0) = b at *
      have hb2 : ((c2 : Int) == 0) = b := by rw [← hb, Bool.eq_iff_iff]; simp
      clear hb hc2
      go_wp2
      go_roundw
      case rel => exact ⟨dg, b, by go_num, rfl, by omega, HA2.out⟩
      case measure => simp [intOf]

theorem takeDigit_any (g o n cap g2 o2 n2 cap2 : Nat) (R D : List Nat) (eR : R.length = n) (eD : D.length = n2) (en : n = n2 + 1) (h0 : 0 < n2) (hn : n2 ≤ 1048576) (hR : ok R) (hD : ok D) (hne : g2 ≠ g) (w : World) (h : Hold w g o R) (h2 : Hold w g2 o2 D) :
    Calls Tryd.prog 115 #[.slice (some ⟨g, o, none⟩) n cap, .slice (some ⟨g2, o2, none⟩) n2 cap2] w (DigitAt g o R D w) := by
  rcases Nat.lt_or_ge (R[n2 - 1 + 1]?.getD 0) (D[n2 - 1]?.getD 0) with h1 | h1
  · exact takeDigit_lt g o n cap g2 o2 n2 cap2 (n2 - 1) R D eR eD (by omega) (by omega) (by omega) hR hD hne w h h2 h1
  · exact takeDigit_ge g o n cap g2 o2 n2 cap2 (n2 - 1) R D eR eD (by omega) (by omega) (by omega) hR hD hne w h h2 h1
end Go.Proofs.YtfompolklkehpaaDoor.Nk


/- The invariant of natural's divide. -/
namespace Go.Proofs.YtfompolklkehpaaDoor.Nk
open Go.RowKit Go.Shelf Go.Proofs.YtfompolklkehpaaDoor.Nm Go.Proofs.YtfompolklkehpaaDoor.Ne Go.Proofs.YtfompolklkehpaaDoor.Nf

theorem hold_keep {W W' : World} {b off : Nat} {l : List Nat} (h : Hold W b off l) (k : ∀ (a : Addr) (v : Value), W.cell? a = some v → W'.cell? a = some v ∧ W'.frozen? a = W.frozen? a) : Hold W' b off l :=
  fun i hi => ⟨(k _ _ (h i hi).1).1, (k _ _ (h i hi).1).2.trans (h i hi).2⟩
/-- The numbers of divide between two rounds, k of which are over. -/
def DivN (R D qs r : List Nat) (m k : Nat) : Prop :=
  val R = val r + val D * val qs ∧ val r < val D * pw (m - k) ∧ ∀ t, t < m - k → qs[t]?.getD 0 = 0
theorem DivN.start {R D : List Nat} {m : Nat} (h : val R < val D * pw m) : DivN R D (List.replicate m 0) R m 0 :=
  ⟨by rw [val_replicate]; omega, h, fun t ht => by rw [Nat.sub_zero] at ht; simp [ht]⟩
theorem val_set {l : List Nat} {i x : Nat} (hi : i < l.length) (h0 : l[i]?.getD 0 = 0) : val (l.set i x) = val l + pw i * x := by
  have e1 := val_take_drop (l.set i x) (i + 1) (by rw [List.length_set]; omega)
  have e2 := val_take_drop l (i + 1) (by omega)
  rw [val_set_take l i x hi, List.drop_set_of_lt (by omega)] at e1
  rw [val_take_succ l i hi, h0] at e2
  omega
/-- The words in the window of a round, and what a digit makes of the numbers. -/
theorem DivN.step {R D qs r : List Nat} {m k n2 i : Nat} (h : DivN R D qs r m k) (hk : k < m) (hi : i = m - 1 - k) (hD : val D < pw n2) (hr : ok r) (hrl : r.length = m + n2) (hq : qs.length = m) :
    val ((r.drop i).take (n2 + 1)) < val D * 4294967296 ∧
    ∀ (q : Nat) (s : List Nat), s.length = n2 + 1 → val s + q * val D = val ((r.drop i).take (n2 + 1)) → val s < val D →
      DivN R D (qs.set i q) (r.take i ++ (s ++ r.drop (i + (n2 + 1)))) m (k + 1) := by
  obtain ⟨h1, h2, h3⟩ := h
  have hmk : m - k = i + 1 := by omega
  have hmk1 : m - (k + 1) = i := by omega
  have hsl : ((r.drop i).take (n2 + 1)).length = n2 + 1 := by simp; omega
  have e2 : r = r.take i ++ ((r.drop i).take (n2 + 1) ++ r.drop (i + (n2 + 1))) := by
    rw [← List.drop_drop, List.take_append_drop, List.take_append_drop]
  have v1 : val r = val (r.take i) + pw i * (val ((r.drop i).take (n2 + 1)) + pw (n2 + 1) * val (r.drop (i + (n2 + 1)))) := by
    conv => lhs; rw [e2]
    rw [val_append, val_append, hsl, List.length_take, Nat.min_eq_left (by omega)]
  rw [hmk] at h2 h3
  have p1 : val D * pw (i + 1) = pw i * (val D * 4294967296) := by
    simp only [pw]
    rw [Nat.mul_comm (val D), Nat.mul_comm (val D) 4294967296, Nat.mul_comm 4294967296 (pw i), Nat.mul_assoc]
  have hlow := val_take_lt hr i
  have hhigh : val (r.drop (i + (n2 + 1))) = 0 := by
    rcases Nat.eq_zero_or_pos (val (r.drop (i + (n2 + 1)))) with h | h
    · exact h
    · have a1 : pw (i + (n2 + 1)) ≤ pw i * (pw (n2 + 1) * val (r.drop (i + (n2 + 1)))) := by
        rw [pw_add]
        exact Nat.mul_le_mul_left _ (Nat.le_mul_of_pos_right _ h)
      have a2 : val D * pw (i + 1) < pw n2 * pw (i + 1) := Nat.mul_lt_mul_of_pos_right hD (pw_pos _)
      rw [← pw_add, show n2 + (i + 1) = i + (n2 + 1) by omega] at a2
      rw [Nat.mul_add] at v1
      omega
  rw [hhigh, Nat.mul_zero, Nat.add_zero] at v1
  have hwin : val ((r.drop i).take (n2 + 1)) < val D * 4294967296 := by
    rcases Nat.lt_or_ge (val ((r.drop i).take (n2 + 1))) (val D * 4294967296) with h | h
    · exact h
    · have := Nat.mul_le_mul_left (pw i) h
      omega
  refine ⟨hwin, fun q s hs hv hlt => ⟨?_, ?_, ?_⟩⟩
  · have hq0 := h3 i (by omega)
    rw [val_set (by omega) hq0, val_append, val_append, hs, List.length_take, Nat.min_eq_left (by omega), hhigh, Nat.mul_zero, Nat.add_zero, h1, v1, ← hv]
    simp only [Nat.mul_add]
    rw [Nat.mul_left_comm (pw i) q (val D), Nat.mul_left_comm (val D) (pw i) q, Nat.mul_comm q (pw i * val D), Nat.mul_assoc]
    rw [Nat.mul_comm (val D) q]
    omega
  · rw [hmk1, val_append, val_append, hs, List.length_take, Nat.min_eq_left (by omega), hhigh, Nat.mul_zero, Nat.add_zero]
    have := Nat.mul_le_mul_left (pw i) (show val s + 1 ≤ val D from hlt)
    rw [Nat.mul_add, Nat.mul_one] at this
    rw [Nat.mul_comm (val D)]
    omega
  · intro t ht
    rw [hmk1] at ht
    rw [List.getElem?_set_ne (by omega)]
    exact h3 t (by omega)
theorem DivN.done {R D qs r : List Nat} {m : Nat} (h : DivN R D qs r m m) : val qs = val R / val D ∧ val r = val R % val D := by
  obtain ⟨h1, h2, _⟩ := h
  rw [Nat.sub_self, pw, Nat.mul_one] at h2
  rw [h1]
  refine ⟨?_, ?_⟩
  · rw [Nat.add_mul_div_left _ _ (by omega), Nat.div_eq_of_lt h2, Nat.zero_add]
  · rw [Nat.add_mul_mod_self_left, Nat.mod_eq_of_lt h2]

/-- Between two rounds. -/
def DivI (w : World) (gq gr gb X m n1 n2 cr cb : Nat) (R D : List Nat) (pre : List (Nat × Nat)) (W : World) : Prop :=
  ((W.cell? ⟨w.heap.size, 0, none⟩ = some (.slice (some ⟨gq, 0, none⟩) m m) ∧ W.frozen? ⟨w.heap.size, 0, none⟩ = false) ∧
   (W.cell? ⟨w.heap.size + 1, 0, none⟩ = some (.slice (some ⟨gr, 0, none⟩) n1 cr) ∧ W.frozen? ⟨w.heap.size + 1, 0, none⟩ = false) ∧
   W.cell? ⟨w.heap.size + 1 + 1, 0, none⟩ = some (.int .i64 n2) ∧ W.cell? ⟨X, 0, none⟩ = some (.slice (some ⟨gb, 0, none⟩) n2 cb)) ∧
  (∃ qs r : List Nat, qs.length = m ∧ r.length = n1 ∧ ok qs ∧ ok r ∧ Hold W gq 0 qs ∧ Hold W gr 0 r ∧ Hold W gb 0 D ∧ (pre.map Prod.fst = dn m pre.length → DivN R D qs r m pre.length)) ∧ Gr w W
theorem divI_own {w : World} {gq gr gb X m n1 n2 cr cb : Nat} {R D : List Nat} {B : Nat} (hB : w.heap.size ≤ B) : OwnFrom B (DivI w gq gr gb X m n1 n2 cr cb R D) :=
  OwnFrom.and (own_keep fun _ _ _ h kk => ⟨⟨(kk _ _ h.1.1).1, (kk _ _ h.1.1).2.trans h.1.2⟩, ⟨(kk _ _ h.2.1.1).1, (kk _ _ h.2.1.1).2.trans h.2.1.2⟩, (kk _ _ h.2.2.1).1, (kk _ _ h.2.2.2).1⟩)
    (OwnFrom.and (own_keep fun _ _ _ h kk => by
      obtain ⟨qs, r, h1, h2, h3, h4, h5, h6, h7, h8⟩ := h
      exact ⟨qs, r, h1, h2, h3, h4, hold_keep h5 kk, hold_keep h6 kk, hold_keep h7 kk, h8⟩) (own_gr hB))
theorem dn_init {m i v : Nat} {pre : List (Nat × Nat)} (h : (pre ++ [(i, v)]).map Prod.fst = dn m (pre ++ [(i, v)]).length) : pre.map Prod.fst = dn m pre.length ∧ i = m - 1 - pre.length := by
  rw [List.map_append, List.length_append, List.length_singleton, dn_succ] at h
  obtain ⟨h1, h2⟩ := List.append_inj' h rfl
  exact ⟨h1, by simpa using h2⟩

theorem up_small (p : Option Addr) (l : List Nat) (n cap N : Nat) (hN : N < 32) (w : World) (h : Nw w p n cap l) :
    Calls Tryd.prog 114 #[.slice p n cap, .int .i64 N] w fun e w' => ∃ (g c : Nat) (r : List Nat), e = .returned (.slice (some ⟨g, 0, none⟩) (n + 1) c) ∧ r.length = n + 1 ∧ n + 1 ≤ c ∧ ok r ∧ val r = val l * 2 ^ N ∧ w.heap.size ≤ g ∧ Hold w' g 0 r ∧ Gr w w' := by
  refine (up_n p l n cap N (by omega) w h).mono ?_
  rintro e w' ⟨g, r, c, rfl, hl, hc, _, ho, hv, hg, hh, gg⟩
  have e1 : r.length = n + 1 := by rw [hl, h.len]; omega
  rw [e1] at hc ⊢
  exact ⟨g, c, r, rfl, e1, hc, ho, hv, hg, hh, gg⟩
theorem bcell {W w1 : World} (hb : Gr W w1) : (∀ b o, b < W.heap.size → w1.cell? ⟨b, o, none⟩ = W.cell? ⟨b, o, none⟩) ∧ (∀ b o, b < W.heap.size → w1.frozen? ⟨b, o, none⟩ = W.frozen? ⟨b, o, none⟩) :=
  ⟨fun b o h => Below.cell hb (p := ⟨b, o, none⟩) h, fun b o h => Below.frozen hb (p := ⟨b, o, none⟩) h⟩
theorem cell_new1 (w : World) (c : Array Value) (t : TypeId) (v : Value) (h : c[0]? = some v) : (w.alloc (.cells c t)).cell? ⟨w.heap.size, 0, none⟩ = some v := by rw [World.cell?_alloc_new]; exact h
theorem cell_new2 (w : World) (c : Array Value) (t : TypeId) (v : Value) (h : c[0]? = some v) : (w.alloc (.cells c t)).drew.cell? ⟨w.heap.size, 0, none⟩ = some v := cell_new1 w c t v h
theorem frozen_new1 (w : World) (c : Array Value) (t : TypeId) : (w.alloc (.cells c t)).frozen? ⟨w.heap.size, 0, none⟩ = false := by simp
theorem frozen_new2 (w : World) (c : Array Value) (t : TypeId) : (w.alloc (.cells c t)).drew.frozen? ⟨w.heap.size, 0, none⟩ = false := frozen_new1 w c t
theorem setCell_ne {w : World} {p q : Addr} {v x : Value} (hne : p.block ≠ q.block) (h : w.cell? q = some x) : (w.setCell p v).cell? q = some x :=
  (World.cell?_setCell_other _ _ _ _ (fun e => hne (by rw [e]))).trans h
theorem alloc_cell {w : World} {o : Obj} {q : Addr} {x : Value} (h : w.cell? q = some x) : (w.alloc o).cell? q = some x := Gr.cell ((Gr.refl _).alloc _) h
theorem drew_cell {w : World} {q : Addr} {x : Value} (h : w.cell? q = some x) : w.drew.cell? q = some x := h
theorem setCell_at {w : World} {p : Addr} {v u : Value} (h : w.cell? p = some u) : (w.setCell p v).cell? p = some v := World.cell?_setCell_same' _ _ _ (by rw [h]; rfl)
theorem alloc_frozen {w : World} {o : Obj} {q : Addr} {x : Value} (h : w.cell? q = some x) (hf : w.frozen? q = false) : (w.alloc o).frozen? q = false := Gr.frozen ((Gr.refl _).alloc _) h hf
theorem setCell_frozen {w : World} {p q : Addr} {v : Value} (hf : w.frozen? q = false) : (w.setCell p v).frozen? q = false := by rw [World.frozen?_setCell]; exact hf
theorem hold_other {w : World} {p : Addr} {v : Value} {b off : Nat} {l : List Nat} (hne : p.block ≠ b) (h : Hold w b off l) : Hold (w.setCell p v) b off l :=
  fun i hi => ⟨setCell_ne hne (h i hi).1, setCell_frozen (h i hi).2⟩
theorem hold_alloc {w : World} {o : Obj} {b off : Nat} {l : List Nat} (h : Hold w b off l) : Hold (w.alloc o) b off l := h.grow ((Gr.refl _).alloc _)
theorem hold_lt {w : World} {b off : Nat} {l : List Nat} (h : Hold w b off l) (h0 : 0 < l.length) : b < w.heap.size := World.block_lt_of_cell? w _ (h 0 h0).1
theorem cell_newS (w : World) (p : Addr) (u : Value) (c : Array Value) (t : TypeId) (v : Value) (h : c[0]? = some v) : ((w.setCell p u).alloc (.cells c t)).cell? ⟨w.heap.size, 0, none⟩ = some v := by
  have e : (w.setCell p u).heap.size = w.heap.size := by simp [World.setCell]
  rw [← e]
  exact cell_new1 _ c t v h
theorem hold_set0 {w : World} {b : Nat} {l : List Nat} (h : Hold w b 0 l) (k x : Nat) (hk : k < l.length) : Hold (w.setCell ⟨b, k, none⟩ (.int .u32 (x : Int))) b 0 (l.set k x) := by
  have := h.set k x hk
  rwa [Nat.zero_add] at this
theorem wr_keeps {b off n B : Nat} {W W' : World} {l : List Nat} (h : Wr b off n W W') (hh : Hold W b 0 l) (h0 : 0 < l.length) : KeepsFrom B W W' :=
  ⟨Nat.le_of_eq h.size.symm, fun k o _ hk ho => by
    by_cases e : k = b
    · subst e
      obtain ⟨c, t, fr, h1, _⟩ := Go.Sort.cells_of_cell? (hh 0 h0).1
      rw [hk] at h1
      cases h1
      simp [Obj.isCells] at ho
    · rw [h.block k e]; exact hk⟩
/-- A round's end. -/
theorem divI_step {w W W' : World} {gq gr gb X Bs m n1 n2 cr cb B i v jj q : Nat} {R D qs r s : List Nat} {pre : List (Nat × Nat)} (hcl : cl m i = jj) (hjm : jj < m) (hw0 : w.heap.size + 1 + 1 < gq) (hw1 : w.heap.size + 1 + 1 < gr)
    (d1 : gq ≠ gr) (d2 : gq ≠ gb) (d3 : gr ≠ gb) (d4 : X ≠ gq) (d5 : X ≠ gr) (d6 : Bs ≠ gq) (d7 : Bs ≠ gr)
    (b0 : W.cell? ⟨w.heap.size, 0, none⟩ = some (.slice (some ⟨gq, 0, none⟩) m m)) (f0 : W.frozen? ⟨w.heap.size, 0, none⟩ = false) (b1 : W.cell? ⟨w.heap.size + 1, 0, none⟩ = some (.slice (some ⟨gr, 0, none⟩) n1 cr)) (f1 : W.frozen? ⟨w.heap.size + 1, 0, none⟩ = false)
    (b2 : W.cell? ⟨w.heap.size + 1 + 1, 0, none⟩ = some (.int .i64 n2)) (bX : W.cell? ⟨X, 0, none⟩ = some (.slice (some ⟨gb, 0, none⟩) n2 cb))
    (hql : qs.length = m) (hrl : r.length = n1) (hqo : ok qs) (hro : ok r) (hhq : Hold W gq 0 qs) (hhr : Hold W gr 0 r) (hhd : Hold W gb 0 D) (hN : pre.map Prod.fst = dn m pre.length → DivN R D qs r m pre.length) (hB : Gr w W) (hpl : pre.length < m)
    (hn1 : n1 = m + n2) (hD : val D < pw n2) (hq : q < 4294967296) (hsl : s.length = n2 + 1) (hso : ok s) (hsh : Hold W' gr jj s) (hwr : Wr gr jj (n2 + 1) W W') (hv : val s + q * val D = val ((r.drop jj).take (n2 + 1))) (hlt : val ((r.drop jj).take (n2 + 1)) < val D * 4294967296 → val s < val D) :
    KeepsFrom B W (W'.setCell ⟨gq, jj, none⟩ (.int .u32 (q : Int))) ∧ (Src Bs (some ⟨gq, 0, none⟩) m m (fun _ _ => True) W → Src Bs (some ⟨gq, 0, none⟩) m m (fun _ _ => True) (W'.setCell ⟨gq, jj, none⟩ (.int .u32 (q : Int)))) ∧
      DivI w gq gr gb X m n1 n2 cr cb R D (pre ++ [(i, v)]) (W'.setCell ⟨gq, jj, none⟩ (.int .u32 (q : Int))) := by
  have hq1 : Hold (W'.setCell ⟨gq, jj, none⟩ (.int .u32 (q : Int))) gq 0 (qs.set jj q) := hold_set0 (hhq.wrOther hwr d1) jj q (by omega)
  have hr1 : Hold W' gr 0 (r.take jj ++ (s ++ r.drop (jj + (n2 + 1)))) := by
    have e2 : r = r.take jj ++ ((r.drop jj).take (n2 + 1) ++ r.drop (jj + (n2 + 1))) := by
      rw [← List.drop_drop, List.take_append_drop, List.take_append_drop]
    have hwl : ((r.drop jj).take (n2 + 1)).length = n2 + 1 := by simp; omega
    have h0 := hhr
    rw [e2] at h0
    obtain ⟨h1, h2⟩ := Hold.append.1 h0
    obtain ⟨_, h4⟩ := Hold.append.1 h2
    rw [hwl, List.length_take, Nat.min_eq_left (by omega), Nat.zero_add] at h4
    refine Hold.append.2 ⟨h1.wr hwr (.inl (by simp; omega)), ?_⟩
    rw [List.length_take, Nat.min_eq_left (by omega), Nat.zero_add]
    refine Hold.append.2 ⟨hsh, ?_⟩
    rw [hsl]
    exact h4.wr hwr (.inr (by omega))
  have cellOf : ∀ {x : Nat} {u : Value}, x ≠ gr → x ≠ gq → W.cell? ⟨x, 0, none⟩ = some u → (W'.setCell ⟨gq, jj, none⟩ (.int .u32 (q : Int))).cell? ⟨x, 0, none⟩ = some u := fun h1 h2 hc =>
    setCell_ne (fun e => h2 e.symm) ((hwr.cellOf h1).trans hc)
  have frozenOf : ∀ {x : Nat}, W.frozen? ⟨x, 0, none⟩ = false → (W'.setCell ⟨gq, jj, none⟩ (.int .u32 (q : Int))).frozen? ⟨x, 0, none⟩ = false := fun hf => setCell_frozen ((hwr.frozen _).trans hf)
  have hgq : Gr w (W'.setCell ⟨gq, jj, none⟩ (.int .u32 (q : Int))) := Gr.setCell (Wr.gr hB hwr (by omega)) (by dsimp only; omega) _
  refine ⟨(wr_keeps hwr hhr (by omega)).trans ((KeepsOthers.setCell _ _ _).from _), fun hS => ⟨cellOf d7 d6 hS.1, .inr ⟨gq, 0, rfl, fun t ht => ⟨_, trivial, (hq1 t (by rw [List.length_set]; omega)).1⟩⟩⟩,
    ⟨⟨cellOf (by omega) (by omega) b0, frozenOf f0⟩, ⟨cellOf (by omega) (by omega) b1, frozenOf f1⟩, cellOf (by omega) (by omega) b2, cellOf d5 d4 bX⟩,
    ⟨qs.set jj q, r.take jj ++ (s ++ r.drop (jj + (n2 + 1))), by simpa using hql, by simp; omega, ok_set hqo _ _ hq, ok_append.2 ⟨ok_take hro _, ok_append.2 ⟨hso, ok_drop hro _⟩⟩, hq1, hold_other d1 hr1, hold_other d2 (hhd.wrOther hwr (fun e => d3 e.symm)), fun e => ?_⟩, hgq⟩
  obtain ⟨h1, h2⟩ := dn_init e
  have hj : jj = m - 1 - pre.length := by rw [← hcl, h2, cl_of (by omega)]
  obtain ⟨h3, h4⟩ := (hN h1).step hpl hj hD hro (by omega) hql
  have := h4 q s hsl hv (hlt h3)
  rwa [List.length_append, List.length_singleton]
theorem shift_fits {k : List Nat} {j x B t : Nat} (hk : ok k) (en : k.length = j + 1) (hx : k[j]?.getD 0 = x) (hB : x < 2 ^ B) (hB2 : B ≤ 32) (ht : t = 32 - B) : val k * 2 ^ t < pw (j + 1) := by
  have h1 := val_take_succ k j (by omega)
  rw [show j + 1 = k.length by omega, List.take_length, hx] at h1
  have h2 := val_take_lt hk j
  have h3 : val k < pw j * 2 ^ B := by
    have := Nat.mul_le_mul_left (pw j) (show x + 1 ≤ 2 ^ B from hB)
    rw [Nat.mul_add, Nat.mul_one] at this
    omega
  have h4 := Nat.mul_lt_mul_of_pos_right h3 (Nat.pos_of_ne_zero (show 2 ^ t ≠ 0 by simp))
  rw [Nat.mul_assoc, ← Nat.pow_add, show B + t = 32 by omega] at h4
  simp only [pw]
  omega
theorem div_start {l k : List Nat} {n j t m : Nat} (hl : ok l) (en : l.length = n) (ek : k.length = j + 1) (tk : Nm.tight k) (hm : m = n - j) (hj : j + 1 ≤ n) : val l * 2 ^ t < val k * 2 ^ t * pw m := by
  have h1 := val_lt hl
  have h2 := pw_le_val tk (fun e => by rw [e] at ek; simp at ek)
  rw [ek, Nat.add_sub_cancel] at h2
  have h3 := Nat.mul_le_mul_right (pw m) h2
  rw [← pw_add, show j + m = l.length by omega] at h3
  have h4 : val l < val k * pw m := by omega
  have h5 := Nat.mul_lt_mul_of_pos_right h4 (Nat.pos_of_ne_zero (show 2 ^ t ≠ 0 by simp))
  rw [Nat.mul_assoc, Nat.mul_comm (pw m), ← Nat.mul_assoc] at h5
  exact h5
theorem take_val' {D : List Nat} {q : Nat} (en : q ≤ D.length) (h : val D < pw q) : val (D.take q) = val D := by
  have h1 := val_take_drop D q en
  rcases Nat.eq_zero_or_pos (val (D.drop q)) with h2 | h2
  · rw [h2] at h1; omega
  · have := Nat.le_mul_of_pos_right (pw q) h2
    omega
theorem hold_take {w : World} {b off : Nat} {l : List Nat} (h : Hold w b off l) (q : Nat) : Hold w b off (l.take q) := by
  have e : l = l.take q ++ l.drop q := (List.take_append_drop q l).symm
  rw [e] at h
  exact (Hold.append.1 h).1
theorem hold_window {w : World} {b i q : Nat} {r : List Nat} (h : Hold w b 0 r) (hi : i ≤ r.length) : Hold w b i ((r.drop i).take q) := by
  have e : r = r.take i ++ r.drop i := (List.take_append_drop i r).symm
  rw [e] at h
  have h1 := (Hold.append.1 h).2
  rw [List.length_take, Nat.min_eq_left hi, Nat.zero_add] at h1
  exact hold_take h1 q
end Go.Proofs.YtfompolklkehpaaDoor.Nk


/- Regions that draw their order: a load may be taken first although its cell is stored into later in the region. -/
namespace Go.Proofs.YtfompolklkehpaaDoor.Kr
open Go

section
variable {P : Program} {ops : Array Oper} {Q : Exit → Act → World → Prop} {md : Region.Mode} {S : World → Prop} {st : List Nat}

/-- None of the operations st has come up. -/
def still (st : List Nat) (listed : Array Bool) : Bool := st.all fun k => listed.getD k true == false
/-- Whatever order is picked from here on, and S holds behind every operation that is carried out, as long as none of st has come up. -/
def wpAnyL (P : Program) (md : Region.Mode) (ops : Array Oper) (Q : Exit → Act → World → Prop) (S : World → Prop) (st : List Nat) : Nat → Array Bool → Act → World → Prop
  | 0, listed, a, w => Region.ready md ops listed = [] ∧ Q .normal a w
  | fuel + 1, listed, a, w =>
    (Region.ready md ops listed = [] → Q .normal a w) ∧
    ∀ i ∈ Region.ready md ops listed, wpOp P ops Q i (fun a' w' => (still st (listed.setIfInBounds i true) = true → S w') ∧ wpAnyL P md ops Q S st fuel (listed.setIfInBounds i true) a' w') a w
theorem wpAny_of_L : ∀ (fuel : Nat) (listed : Array Bool) (a : Act) (w : World), wpAnyL P md ops Q S st fuel listed a w → wpAny P md ops Q fuel listed a w
  | 0, _, _, _, h => h
  | fuel + 1, _, _, _, h => ⟨h.1, fun i hi => wpOp_mono (fun a' w' h' => wpAny_of_L fuel _ a' w' h'.2) (h.2 i hi)⟩

/-- The operations B wait for i: each one directly, or for another one of B. -/
def waitsB (md : Region.Mode) (ops : Array Oper) (i : Nat) (B : List Nat) : Bool :=
  B.all fun b => match ops[b]? with
    | none => false
    | some o => o.after.any fun e => Region.binds md e && (e.on == i || B.contains e.on)
theorem waits_spec {i : Nat} {B : List Nat} (h : waitsB md ops i B = true) {b : Nat} (hb : b ∈ B) : ∃ o, ops[b]? = some o ∧ ∃ e ∈ o.after, Region.binds md e = true ∧ (e.on = i ∨ e.on ∈ B) := by
  have h1 := List.all_eq_true.1 h b hb
  cases ho : ops[b]? with
  | none => rw [ho] at h1; cases h1
  | some o =>
    rw [ho] at h1
    obtain ⟨k, hk, h2⟩ := Array.any_eq_true.1 h1
    simp only [Bool.and_eq_true, Bool.or_eq_true, beq_iff_eq, List.contains_iff_mem] at h2
    exact ⟨o, rfl, _, Array.getElem_mem hk, h2.1, h2.2⟩
theorem ready_after {listed : Array Bool} {j : Nat} {oj : Oper} (hj : j ∈ Region.ready md ops listed) (ho : ops[j]? = some oj) {e : Edge} (he : e ∈ oj.after) (hb : Region.binds md e = true) : listed.getD e.on true ≠ false := by
  obtain ⟨_, oj', hoj', hall⟩ := mem_ready.1 hj
  rw [ho] at hoj'
  cases hoj'
  have := hall e he hb
  intro h0
  rcases Nat.lt_or_ge e.on listed.size with h' | h'
  · simp [h'] at h0 this; rw [h0] at this; cases this
  · simp [Array.getElem?_eq_none h'] at this
theorem still_iff {listed : Array Bool} : still st listed = true ↔ ∀ k ∈ st, listed.getD k true = false := by
  unfold still
  rw [List.all_eq_true]
  exact ⟨fun h k hk => by simpa using h k hk, fun h k hk => by simpa using h k hk⟩
theorem getD_set_self {listed : Array Bool} {i : Nat} (h : (listed.setIfInBounds i true).getD i true = false) : False := by
  rcases Nat.lt_or_ge i listed.size with h' | h'
  · simp [h'] at h
  · simp [Nat.not_lt.2 h'] at h

theorem wpAnyL_first {i : Nat} {oi : Oper} {v : Value} {T : World → Prop} {B : List Nat} (hi : ops[i]? = some oi) (hsel : ∀ (j : Nat) (o : Oper) cs b, ops[j]? = some o → o.op ≠ .select cs b)
    (hQ : ∀ c a w, Q (.panic c) (a.put oi.dst v) w → Q (.panic c) a w) (hist : i ∉ st) (hB : waitsB md ops i B = true) (hT : (∀ w, T w) ∨ (∀ k ∈ st, k ∈ B) ∧ ∀ w, S w → T w) :
    ∀ (fuel : Nat) (listed : Array Bool) (a : Act) (w : World),
      (∀ j oj, ops[j]? = some oj → j ≠ i → listed.getD j true = false → (∀ e ∈ oj.after, Region.binds md e = true → e.on ≠ i) → oi.apart ops oj = true) →
      i ∈ Region.ready md ops listed → (∀ b ∈ B, listed.getD b true = false) → YieldsIf P ops T oi v a → T w → (still st listed = true → S w) →
      wpAnyL P md ops Q S st fuel (listed.setIfInBounds i true) (a.put oi.dst v) w → wpAnyL P md ops Q S st (fuel + 1) listed a w := by
  have hst : ∀ (l : Array Bool), still st (l.setIfInBounds i true) = still st l := fun l => by
    rw [Bool.eq_iff_iff, still_iff, still_iff]
    exact ⟨fun h k hk => by have := h k hk; rwa [getD_set_ne true (fun e => hist (by rw [e]; exact hk))] at this, fun h k hk => by rw [getD_set_ne true (fun e => hist (by rw [e]; exact hk))]; exact h k hk⟩
  intro fuel
  induction fuel with
  | zero =>
    intro listed a w _ hr _ hy hTw hS H
    refine ⟨fun h => (by rw [h] at hr; cases hr), fun j hj => ?_⟩
    by_cases hji : j = i
    · subst hji
      exact hy.wpOp hi hTw ⟨fun h => hS (by rwa [hst] at h), H⟩
    · have := ready_mono hj hji
      rw [H.1] at this
      cases this
  | succ fuel ih =>
    intro listed a w hfree hr hBl hy hTw hS H
    refine ⟨fun h => (by rw [h] at hr; cases hr), fun j hj => ?_⟩
    by_cases hji : j = i
    · subst hji
      exact hy.wpOp hi hTw ⟨fun h => hS (by rwa [hst] at h), H⟩
    · have h1 := H.2 j (ready_mono hj hji)
      obtain ⟨hjun, oj, hoj, hall⟩ := mem_ready.1 hj
      have hiun : listed.getD i true = false := by
        obtain ⟨h0, _⟩ := mem_ready.1 hr
        exact h0
      have hnot : ∀ e ∈ oj.after, Region.binds md e = true → e.on ≠ i := fun e he hb heq => ready_after hj hoj he hb (by rw [heq]; exact hiun)
      have hjB : j ∉ B := fun hjB => by
        obtain ⟨o', ho', e, he, hb, h3⟩ := waits_spec hB hjB
        rcases h3 with h3 | h3
        · exact ready_after hj ho' he hb (by rw [h3]; exact hiun)
        · exact ready_after hj ho' he hb (hBl _ h3)
      have h2 := wpOp_putIf (S := T) hoj (hfree j oj hoj hji hjun hnot) (fun cs b => hsel i oi cs b hi) (fun cs b => hsel j oj cs b hoj) hQ hy h1
      have hfree' : ∀ k ok, ops[k]? = some ok → k ≠ i → (listed.setIfInBounds j true).getD k true = false →
          (∀ e ∈ ok.after, Region.binds md e = true → e.on ≠ i) → oi.apart ops ok = true := fun k ok hk hki hun hno => by
        refine hfree k ok hk hki ?_ hno
        by_cases hjk : j = k
        · subst hjk; exact hjun
        · rw [getD_set_ne true hjk] at hun; exact hun
      have hBl' : ∀ b ∈ B, (listed.setIfInBounds j true).getD b true = false := fun b hb => by
        rw [getD_set_ne true (fun e => hjB (by rw [e]; exact hb))]
        exact hBl b hb
      have hcom : still st ((listed.setIfInBounds i true).setIfInBounds j true) = still st (listed.setIfInBounds j true) := by
        rw [Array.setIfInBounds_comm _ _ (Ne.symm hji), hst]
      refine wpOp_mono (fun a' w' h3 => ?_) h2
      have hS' : still st (listed.setIfInBounds j true) = true → S w' := fun h => h3.2.1 (by rw [hcom]; exact h)
      have hTw' : T w' := by
        rcases hT with hT | ⟨hT1, hT2⟩
        · exact hT w'
        · exact hT2 _ (hS' (still_iff.2 fun k hk => hBl' k (hT1 k hk)))
      refine ⟨hS', ih (listed.setIfInBounds j true) a' w' hfree' (ready_mono hr (Ne.symm hji)) hBl' h3.1 hTw' hS' ?_⟩
      rw [Array.setIfInBounds_comm _ _ hji]
      exact h3.2.2

theorem unlisted_spec {B : List Nat} {listed : Array Bool} (h : B.all (fun b => listed.getD b true == false) = true) : ∀ b ∈ B, listed.getD b true = false := fun b hb => by
  have := List.all_eq_true.1 h b hb
  simpa using this
/-- Take number i first: it yields v in every world. -/
theorem takeP {i : Nat} {oi : Oper} {v : Value} {fuel : Nat} {listed : Array Bool} {a : Act} {w : World} (hi : ops[i]? = some oi) (hs : Region.noSelect ops = true) (hf : Region.free md ops listed i = true) (hr : (Region.ready md ops listed).contains i = true)
    (hst : st.contains i = false) (hQ : ∀ c a w, Q (.panic c) (a.put oi.dst v) w → Q (.panic c) a w) (hy : ∀ w : World, (execOp a.eval oi).run P w = .ok (.value v) w) (hw : Region.wanted oi (yielded ops a.tmps) = true) (hS : still st listed = true → S w)
    (h : wpAnyL P md ops Q S st fuel (listed.setIfInBounds i true) (a.put oi.dst v) w) : wpAnyL P md ops Q S st (fuel + 1) listed a w :=
  wpAnyL_first (T := fun _ => True) (B := []) hi (Region.noSelect_spec hs) hQ (by simpa using hst) rfl (.inl fun _ => trivial) fuel listed a w (Region.free_spec hi hf) (by simpa using hr) (by simp) (.inl ⟨hw, fun w _ => hy w⟩) trivial hS h
/-- Skip number i: its guard is off. -/
theorem skipP {i : Nat} {oi : Oper} {fuel : Nat} {listed : Array Bool} {a : Act} {w : World} (hi : ops[i]? = some oi) (hs : Region.noSelect ops = true) (hf : Region.free md ops listed i = true) (hr : (Region.ready md ops listed).contains i = true)
    (hst : st.contains i = false) (hQ : ∀ c a w, Q (.panic c) (a.put oi.dst undef) w → Q (.panic c) a w) (hw : Region.wanted oi (yielded ops a.tmps) = false) (hS : still st listed = true → S w)
    (h : wpAnyL P md ops Q S st fuel (listed.setIfInBounds i true) (a.put oi.dst undef) w) : wpAnyL P md ops Q S st (fuel + 1) listed a w :=
  wpAnyL_first (T := fun _ => True) (B := []) hi (Region.noSelect_spec hs) hQ (by simpa using hst) rfl (.inl fun _ => trivial) fuel listed a w (Region.free_spec hi hf) (by simpa using hr) (by simp) (.inr ⟨hw, rfl⟩) trivial hS h
/-- Take number i first: it yields v in every world that meets S, and all of st wait for it (B: what lies between). -/
theorem takeS {i : Nat} {oi : Oper} {v : Value} {fuel : Nat} {listed : Array Bool} {a : Act} {w : World} (B : List Nat) (hi : ops[i]? = some oi) (hs : Region.noSelect ops = true) (hf : Region.free md ops listed i = true) (hr : (Region.ready md ops listed).contains i = true)
    (hst : st.contains i = false) (hB : waitsB md ops i B = true) (hBl : B.all (fun b => listed.getD b true == false) = true) (hsub : st.all (fun k => B.contains k) = true) (hQ : ∀ c a w, Q (.panic c) (a.put oi.dst v) w → Q (.panic c) a w)
    (hy : ∀ w : World, S w → (execOp a.eval oi).run P w = .ok (.value v) w) (hw : Region.wanted oi (yielded ops a.tmps) = true) (hS : S w)
    (h : wpAnyL P md ops Q S st fuel (listed.setIfInBounds i true) (a.put oi.dst v) w) : wpAnyL P md ops Q S st (fuel + 1) listed a w :=
  wpAnyL_first (T := S) (B := B) hi (Region.noSelect_spec hs) hQ (by simpa using hst) hB (.inr ⟨fun k hk => by have := List.all_eq_true.1 hsub k hk; simpa using this, fun _ h => h⟩) fuel listed a w (Region.free_spec hi hf) (by simpa using hr) (unlisted_spec hBl) (.inl ⟨hw, hy⟩) hS (fun _ => hS) h

def AllL (P : Program) (md : Region.Mode) (ops : Array Oper) (Q : Exit → Act → World → Prop) (S : World → Prop) (st : List Nat) (fuel : Nat) (listed : Array Bool) (a : Act) (w : World) (rs : List Nat) : Prop :=
  ∀ i ∈ rs, wpOp P ops Q i (fun a' w' => (still st (listed.setIfInBounds i true) = true → S w') ∧ wpAnyL P md ops Q S st fuel (listed.setIfInBounds i true) a' w') a w
theorem AllL.nil {fuel : Nat} {listed : Array Bool} {a : Act} {w : World} : AllL P md ops Q S st fuel listed a w [] := fun _ h => by cases h
theorem AllL.cons {fuel : Nat} {listed : Array Bool} {a : Act} {w : World} {i : Nat} {o : Oper} {rs : List Nat} (ho : ops[i]? = some o)
    (h : ∀ K' : Act → World → Prop, Shut (∀ a w, (still st (listed.setIfInBounds i true) = true → S w) → wpAnyL P md ops Q S st fuel (listed.setIfInBounds i true) a w → K' a w) → if Region.wanted o (yielded ops a.tmps) = true then Oper.wp P o a w K' Q else K' (a.put o.dst undef) w)
    (hs : AllL P md ops Q S st fuel listed a w rs) : AllL P md ops Q S st fuel listed a w (i :: rs) := fun j hj => by
  rcases List.mem_cons.1 hj with rfl | hj
  · exact wpOp_step ho (fun K' hK => h K' (fun a w hS hW => hK a w ⟨hS, hW⟩))
  · exact hs j hj
theorem readyL {rs : List Nat} {fuel : Nat} {listed : Array Bool} {a : Act} {w : World} (hr : Region.ready md ops listed = rs) (hne : rs ≠ [])
    (h : AllL P md ops Q S st fuel listed a w rs) : wpAnyL P md ops Q S st (fuel + 1) listed a w :=
  ⟨fun h0 => absurd (hr ▸ h0) hne, hr ▸ h⟩
theorem doneL {listed : Array Bool} {a : Act} {w : World} (hr : Region.ready md ops listed = []) (h : Q .normal a w) : ∀ fuel, wpAnyL P md ops Q S st fuel listed a w
  | 0 => ⟨hr, h⟩
  | _ + 1 => ⟨fun _ => h, by rw [hr]; simp⟩
theorem startL {id : Nat} {a : Act} {w : World} (S : World → Prop) (st : List Nat) (hm : P.follows .mixedOrders = true)
    (h : wpAnyL P .any ops Q S st ops.size (Array.replicate ops.size false) a w.drew) : (Code.region id ops true).wp P Q a w :=
  wp_region_any hm (wpAny_of_L _ _ _ _ h)
theorem noStill {st : List Nat} {listed : Array Bool} {X : Prop} (h : still st listed = false) : still st listed = true → X := fun h2 => by rw [h] at h2; cases h2
/-! The same, their conditions in one. -/
def okP (md : Region.Mode) (ops : Array Oper) (st : List Nat) (listed : Array Bool) (i : Nat) : Bool := Region.noSelect ops && (Region.free md ops listed i && ((Region.ready md ops listed).contains i && !st.contains i))
def okS (md : Region.Mode) (ops : Array Oper) (st : List Nat) (listed : Array Bool) (i : Nat) (B : List Nat) : Bool := okP md ops st listed i && (waitsB md ops i B && (B.all (fun b => listed.getD b true == false) && st.all (fun k => B.contains k)))
theorem tP (i : Nat) {oi : Oper} {v : Value} {fuel : Nat} {listed : Array Bool} {a : Act} {w : World} (hi : ops[i]? = some oi) (hc : okP md ops st listed i = true) (hQ : ∀ c a w, Q (.panic c) (a.put oi.dst v) w → Q (.panic c) a w) (hw : Region.wanted oi (yielded ops a.tmps) = true) (hS : still st listed = true → S w)
    (hy : ∀ w : World, (execOp a.eval oi).run P w = .ok (.value v) w) (h : wpAnyL P md ops Q S st fuel (listed.setIfInBounds i true) (a.put oi.dst v) w) : wpAnyL P md ops Q S st (fuel + 1) listed a w := by
  simp only [okP, Bool.and_eq_true, Bool.not_eq_true'] at hc
  exact takeP hi hc.1 hc.2.1 hc.2.2.1 hc.2.2.2 hQ hy hw hS h
theorem tO (i : Nat) {oi : Oper} {fuel : Nat} {listed : Array Bool} {a : Act} {w : World} (hi : ops[i]? = some oi) (hc : okP md ops st listed i = true) (hQ : ∀ c a w, Q (.panic c) (a.put oi.dst undef) w → Q (.panic c) a w) (hw : Region.wanted oi (yielded ops a.tmps) = false) (hS : still st listed = true → S w)
    (h : wpAnyL P md ops Q S st fuel (listed.setIfInBounds i true) (a.put oi.dst undef) w) : wpAnyL P md ops Q S st (fuel + 1) listed a w := by
  simp only [okP, Bool.and_eq_true, Bool.not_eq_true'] at hc
  exact skipP hi hc.1 hc.2.1 hc.2.2.1 hc.2.2.2 hQ hw hS h
theorem tS (i : Nat) (B : List Nat) {oi : Oper} {v : Value} {fuel : Nat} {listed : Array Bool} {a : Act} {w : World} (hi : ops[i]? = some oi) (hc : okS md ops st listed i B = true) (hQ : ∀ c a w, Q (.panic c) (a.put oi.dst v) w → Q (.panic c) a w) (hw : Region.wanted oi (yielded ops a.tmps) = true) (hS : S w)
    (hy : ∀ w : World, S w → (execOp a.eval oi).run P w = .ok (.value v) w) (h : wpAnyL P md ops Q S st fuel (listed.setIfInBounds i true) (a.put oi.dst v) w) : wpAnyL P md ops Q S st (fuel + 1) listed a w := by
  simp only [okS, okP, Bool.and_eq_true, Bool.not_eq_true'] at hc
  exact takeS B hi hc.1.1 hc.1.2.1 hc.1.2.2.1 hc.1.2.2.2 hc.2.1 hc.2.2.1 hc.2.2.2 hQ hy hw hS h

/-! A region that keeps its order. -/
theorem seqStart {id : Nat} {l : List Oper} {a : Act} {w : World} (h : wpList P l.toArray Q l a w) : (Code.region id l.toArray false).wp P Q a w := wp_region_lit h
theorem seqP {o : Oper} {rest : List Oper} {v : Value} {a : Act} {w : World} (hw : Region.wanted o (yielded ops a.tmps) = true) (hy : (execOp a.eval o).run P w = .ok (.value v) w)
    (h : wpList P ops Q rest (a.put o.dst v) w) : wpList P ops Q (o :: rest) a w :=
  wpList_step fun K hK => by
    rw [if_pos hw]
    unfold Oper.wp
    rw [hy]
    exact hK _ _ h
theorem seqSkip {o : Oper} {rest : List Oper} {a : Act} {w : World} (hw : Region.wanted o (yielded ops a.tmps) = false) (h : wpList P ops Q rest (a.put o.dst undef) w) : wpList P ops Q (o :: rest) a w :=
  wpList_step fun K hK => by
    rw [if_neg (by rw [hw]; decide)]
    exact hK _ _ h
theorem seqS {o : Oper} {rest : List Oper} {a : Act} {w : World} (h : ∀ K : Act → World → Prop, Shut (∀ a w, wpList P ops Q rest a w → K a w) → if Region.wanted o (yielded ops a.tmps) = true then Oper.wp P o a w K Q else K (a.put o.dst undef) w) : wpList P ops Q (o :: rest) a w :=
  wpList_step fun K hK => h K hK
theorem seqDone {a : Act} {w : World} (h : Q .normal a w) : wpList P ops Q [] a w := wpList_nil h
end
end Go.Proofs.YtfompolklkehpaaDoor.Kr


/- A region that draws its order, in a round of a range over a function, at the wide fence: as outside of a round. -/
namespace Go.Proofs.YtfompolklkehpaaDoor.Nk
open Go.RowKit Go.Shelf Go.Proofs.YtfompolklkehpaaDoor.Nm Go.Proofs.YtfompolklkehpaaDoor.Ne Go.Proofs.YtfompolklkehpaaDoor.Nf

def noDefer : Op → Bool
  | .defer _ => false
  | _ => true
theorem noDefer_spec {o : Op} (h : noDefer o = true) : ∀ c, o ≠ .defer c := by
  rintro c rfl
  simp [noDefer] at h
theorem rows_wide {n l : Nat} {P : Program} {row : String} {args : Array Value} {w : World} {R : Value → World → Prop} (h : Rows P row args w R) : RowsIn (Fence.wide.inRound l) n P row args w R := by
  have h2 : RowsIn Fence.wide n P row args w R := fun c cs _ =>
    let ⟨v, w', r, s⟩ := h c cs
    ⟨v, w', r, stepsIn_wide.2 s⟩
  exact h2
theorem operIn_of {l n : Nat} {P : Program} {o : Oper} {a : Act} {w : World} {K : Act → World → Prop} {Q : Exit → Act → World → Prop} (hd : noDefer o.op = true) (h : o.wp P a w K Q) : o.wpIn (Fence.wide.inRound l) n P a w K Q := by
  unfold Oper.wpIn
  refine ⟨fun _ _ => trivial, ?_⟩
  rw [Oper.semAt_eq _ _ _ (noDefer_spec hd)]
  unfold Oper.wp at h
  generalize (execOp a.eval o).run P w = r at *
  cases r with
  | ok x w' =>
    cases x <;> first
      | exact h
      | exact ⟨(fun e => by cases e), CallsIn.inRound l (callsIn_wide.2 h)⟩
      | exact ⟨(fun e => by cases e), rows_wide h⟩
      | exact h.elim
  | halt x w' => cases x <;> exact h
theorem wpAnyIn_of {l n : Nat} {P : Program} {md : Region.Mode} {ops : Array Oper} {Q : Exit → Act → World → Prop} (hd : ∀ (i : Nat) (o : Oper), ops[i]? = some o → noDefer o.op = true) (hLO : ¬ LetsOut Q) :
    ∀ (fuel : Nat) (listed : Array Bool) (a : Act) (w : World), wpAny P md ops Q fuel listed a w → wpAnyIn (Fence.wide.inRound l) n P md ops Q fuel listed a w
  | 0, _, _, _, h => h
  | fuel + 1, listed, a, w, h => by
    refine ⟨h.1, fun i hi => ?_⟩
    have h2 := h.2 i hi
    unfold wpOp at h2
    unfold wpOpIn
    cases ho : ops[i]? with
    | none =>
      rw [ho] at h2
      exact wpAnyIn_of hd hLO fuel _ _ _ h2
    | some o =>
      rw [ho] at h2
      simp only at h2 ⊢
      by_cases hw : Region.wanted o (yielded ops a.tmps) = true
      · rw [if_pos hw] at h2 ⊢
        rcases h2 with h3 | ⟨_, h3⟩
        · exact Oper.wpIn_mono (fun a w => wpAnyIn_of hd hLO fuel _ a w) (operIn_of (hd i o ho) h3)
        · exact absurd h3 hLO
      · rw [if_neg hw] at h2 ⊢
        exact ⟨fun _ _ => trivial, wpAnyIn_of hd hLO fuel _ _ _ h2⟩
theorem wpIn_round_held {l n id : Nat} {P : Program} {ops : Array Oper} {Q : Exit → Act → World → Prop} {S : World → Prop} {a : Act} {w : World} (hm : P.follows .mixedOrders = true) (hd : ops.all (fun o => noDefer o.op) = true) (hLO : ¬ LetsOut Q) (hS : S w.drew)
    (h : S w.drew → wpAnyH P .any ops Q S ops.size (Array.replicate ops.size false) a w.drew) : (Code.region id ops true).wpIn (Fence.wide.inRound l) n P Q a w :=
  wpIn_region_any hm (wpAnyIn_of (fun i o ho => by
    have h2 := Array.all_eq_true.1 hd
    obtain ⟨hi, rfl⟩ := Array.getElem?_eq_some_iff.1 ho
    exact h2 i hi) hLO _ _ _ _ (wpAny_of_held _ _ _ _ (h hS)))
end Go.Proofs.YtfompolklkehpaaDoor.Nk


/- The contract of natural's Div: where it answers without dividing. -/
namespace Go.Proofs.YtfompolklkehpaaDoor.Nk
open Go.RowKit Go.Shelf Go.Proofs.YtfompolklkehpaaDoor.Nm Go.Proofs.YtfompolklkehpaaDoor.Ne Go.Proofs.YtfompolklkehpaaDoor.Nf

/-- What Div has handed back: two numbers, or an error number. -/
def DivGave (x y : Nat) (w : World) (e : Ending) (w' : World) : Prop :=
  ∃ (p1 p2 : Option Addr) (n1 c1 n2 c2 : Nat), e = .returned (.tuple #[.agg #[.slice p1 n1 c1], .agg #[.slice p2 n2 c2], .int .i64 0]) ∧ Nr w.heap.size w' p1 n1 c1 (digs x) ∧ Nr w.heap.size w' p2 n2 c2 (digs y) ∧ Gr w w'
def DivFailed (c : Nat) (w : World) (e : Ending) (w' : World) : Prop :=
  e = .returned (.tuple #[.agg #[.slice none 0 0], .agg #[.slice none 0 0], .int .i64 (c : Int)]) ∧ Gr w w'

theorem nr_nil (B : Nat) (w : World) : Nr B w none 0 0 (digs 0) := by
  rw [digs_zero]
  exact ⟨⟨rfl, Nat.le_refl _, fun _ => ⟨rfl, rfl⟩, .inl rfl, ok_nil, by decide⟩, .inl rfl⟩

set_option maxHeartbeats 2000000 in
theorem Div_bad (p q : Option Addr) (n m c d : Nat) (l k : List Nat) (w : World) (hl : Nw w p n c l) (hk : Nw w q m d k) (hv : decide (valid l) = false ∨ decide (valid k) = false) :
    Calls Tryd.prog 89 #[.agg #[.slice p n c], .agg #[.slice q m d]] w (DivFailed 1 w) := by
  have HL := Lib.hid hl
  have HK := Lib.hid hk
  have HV := Lib.hid hv
  have G0 := Lib.hid (((((Gr.refl w).alloc (.cells #[.slice p n c] 43)).alloc (.cells #[.slice q m d] 43)).alloc (.cells #[.slice none 0 0] 43)).alloc (.cells #[.slice none 0 0] 43))
  clear hl hk hv
  go_enter Tryd.func89, Tryd.ntmps89
  go_wp2_with fail
  refine (Valid_n p n c l _ (HL.out.grow G0.out)).mono ?_
  rintro e w1 ⟨rfl, hg⟩
  have c1 := hg.cell (p := ⟨w.heap.size, 0, none⟩) (v := .slice p n c) (by simp [go_sem])
  have c2 := hg.cell (p := ⟨w.heap.size + 1, 0, none⟩) (v := .slice q m d) (by simp [go_sem])
  have c3 := hg.cell (p := ⟨w.heap.size + 1 + 1, 0, none⟩) (v := .slice none 0 0) (by simp [go_sem])
  have f3 := hg.frozen (p := ⟨w.heap.size + 1 + 1, 0, none⟩) (v := .slice none 0 0) (by simp [go_sem]) (by simp [go_sem])
  have c4 := hg.cell (p := ⟨w.heap.size + 1 + 1 + 1, 0, none⟩) (v := .slice none 0 0) (by simp [go_sem])
  have f4 := hg.frozen (p := ⟨w.heap.size + 1 + 1 + 1, 0, none⟩) (v := .slice none 0 0) (by simp [go_sem]) (by simp [go_sem])
  have GA := Lib.hid (G0.out.trans hg)
  clear hg
  cases hv1 : decide (valid l)
  · clear hv1
    go_wp2
    exact bodyPost_ret (v := .tuple #[.agg #[.slice none 0 0], .agg #[.slice none 0 0], .int .i64 1]) (by simp [results, Tryd.results89, go_sem, c3, c4]) rfl ⟨rfl, (GA.out.setCell (by simp; omega) _).setCell (by simp; omega) _⟩
  · have hv2 : decide (valid k) = false := by
      rcases HV.out with h | h
      · rw [hv1] at h; cases h
      · exact h
    clear hv1
    go_wp2_with fail
    refine (Valid_n q m d k _ (HK.out.grow GA.out)).mono ?_
    rintro e w2 ⟨rfl, hg⟩
    rw [hv2]
    have e1 := hg.cell c1
    have e2 := hg.cell c2
    have e3 := hg.cell c3
    have e4 := hg.cell c4
    have g3 := hg.frozen c3 f3
    have g4 := hg.frozen c4 f4
    have GB := Lib.hid (GA.out.trans hg)
    clear hg c1 c2 c3 c4 f3 f4
    clear hv2
    go_wp2
    exact bodyPost_ret (v := .tuple #[.agg #[.slice none 0 0], .agg #[.slice none 0 0], .int .i64 1]) (by simp [results, Tryd.results89, go_sem, e3, e4]) rfl ⟨rfl, (GB.out.setCell (by simp; omega) _).setCell (by simp; omega) _⟩

set_option maxHeartbeats 2000000 in
theorem Div_zero (p q : Option Addr) (n c d : Nat) (l : List Nat) (w : World) (hl : Nw w p n c l) (hk : Nw w q 0 d []) (hv1 : decide (valid l) = true) :
    Calls Tryd.prog 89 #[.agg #[.slice p n c], .agg #[.slice q 0 d]] w (DivFailed 10 w) := by
  have hv2 : decide (valid []) = true := decide_eq_true ⟨by decide, .inl rfl⟩
  have HL := Lib.hid hl
  have HK := Lib.hid hk
  have HV1 := Lib.hid hv1
  have HV2 := Lib.hid hv2
  have G0 := Lib.hid (((((Gr.refl w).alloc (.cells #[.slice p n c] 43)).alloc (.cells #[.slice q 0 d] 43)).alloc (.cells #[.slice none 0 0] 43)).alloc (.cells #[.slice none 0 0] 43))
  clear hl hk hv1 hv2
  go_enter Tryd.func89, Tryd.ntmps89
  go_wp2_with fail
  refine (Valid_n p n c l _ (HL.out.grow G0.out)).mono ?_
  rintro e w1 ⟨rfl, hg⟩
  rw [HV1.out]
  have c1 := hg.cell (p := ⟨w.heap.size, 0, none⟩) (v := .slice p n c) (by simp [go_sem])
  have c2 := hg.cell (p := ⟨w.heap.size + 1, 0, none⟩) (v := .slice q 0 d) (by simp [go_sem])
  have c3 := hg.cell (p := ⟨w.heap.size + 1 + 1, 0, none⟩) (v := .slice none 0 0) (by simp [go_sem])
  have f3 := hg.frozen (p := ⟨w.heap.size + 1 + 1, 0, none⟩) (v := .slice none 0 0) (by simp [go_sem]) (by simp [go_sem])
  have c4 := hg.cell (p := ⟨w.heap.size + 1 + 1 + 1, 0, none⟩) (v := .slice none 0 0) (by simp [go_sem])
  have f4 := hg.frozen (p := ⟨w.heap.size + 1 + 1 + 1, 0, none⟩) (v := .slice none 0 0) (by simp [go_sem]) (by simp [go_sem])
  have GA := Lib.hid (G0.out.trans hg)
  clear hg
  go_wp2_with fail
  refine (Valid_n q 0 d [] _ (HK.out.grow GA.out)).mono ?_
  rintro e w2 ⟨rfl, hg⟩
  rw [HV2.out]
  have e1 := hg.cell c1
  have e2 := hg.cell c2
  have e3 := hg.cell c3
  have e4 := hg.cell c4
  have g3 := hg.frozen c3 f3
  have g4 := hg.frozen c4 f4
  have GB := Lib.hid (GA.out.trans hg)
  clear hg c1 c2 c3 c4 f3 f4
  go_wp2
  exact bodyPost_ret (v := .tuple #[.agg #[.slice none 0 0], .agg #[.slice none 0 0], .int .i64 10]) (by simp [results, Tryd.results89, go_sem, e3, e4]) rfl ⟨rfl, (GB.out.setCell (by simp; omega) _).setCell (by simp; omega) _⟩

set_option maxRecDepth 100000 in
set_option maxHeartbeats 4000000 in
theorem Div_less (p q : Option Addr) (n m c d : Nat) (l k : List Nat) (w : World) (hl : Nw w p n c l) (hk : Nw w q m d k) (hv1 : decide (valid l) = true) (hv2 : decide (valid k) = true) (hx : val l < val k) :
    Calls Tryd.prog 89 #[.agg #[.slice p n c], .agg #[.slice q m d]] w (DivGave 0 (val l) w) := by
  have HL := Lib.hid hl
  have HK := Lib.hid hk
  have HV1 := Lib.hid hv1
  have HV2 := Lib.hid hv2
  have HX := Lib.hid hx
  have hm0 : (m : Int) = 0 ↔ False := by
    refine ⟨fun h => ?_, False.elim⟩
    have h1 : k = [] := List.length_eq_zero_iff.1 (by rw [hk.len]; omega)
    rw [h1] at hx
    simp [val] at hx
  have hm1 : m ≠ 0 := fun h => hm0.1 (by omega)
  have G0 := Lib.hid (((((Gr.refl w).alloc (.cells #[.slice p n c] 43)).alloc (.cells #[.slice q m d] 43)).alloc (.cells #[.slice none 0 0] 43)).alloc (.cells #[.slice none 0 0] 43))
  clear hl hk hv1 hv2 hx
  go_enter Tryd.func89, Tryd.ntmps89
  go_wp2_with fail
  refine (Valid_n p n c l _ (HL.out.grow G0.out)).mono ?_
  rintro e w1 ⟨rfl, hg⟩
  rw [HV1.out]
  have c1 := hg.cell (p := ⟨w.heap.size, 0, none⟩) (v := .slice p n c) (by simp [go_sem])
  have c2 := hg.cell (p := ⟨w.heap.size + 1, 0, none⟩) (v := .slice q m d) (by simp [go_sem])
  have c3 := hg.cell (p := ⟨w.heap.size + 1 + 1, 0, none⟩) (v := .slice none 0 0) (by simp [go_sem])
  have f3 := hg.frozen (p := ⟨w.heap.size + 1 + 1, 0, none⟩) (v := .slice none 0 0) (by simp [go_sem]) (by simp [go_sem])
  have c4 := hg.cell (p := ⟨w.heap.size + 1 + 1 + 1, 0, none⟩) (v := .slice none 0 0) (by simp [go_sem])
  have f4 := hg.frozen (p := ⟨w.heap.size + 1 + 1 + 1, 0, none⟩) (v := .slice none 0 0) (by simp [go_sem]) (by simp [go_sem])
  have GA := Lib.hid (G0.out.trans hg)
  clear hg
  go_wp2_with fail
  refine (Valid_n q m d k _ (HK.out.grow GA.out)).mono ?_
  rintro e w2 ⟨rfl, hg⟩
  rw [HV2.out]
  have e1 := hg.cell c1
  have e2 := hg.cell c2
  have e3 := hg.cell c3
  have e4 := hg.cell c4
  have g3 := hg.frozen c3 f3
  have g4 := hg.frozen c4 f4
  have GB := Lib.hid (GA.out.trans hg)
  clear hg c1 c2 c3 c4 f3 f4
  clear GA G0
  go_wp2_with fail
  refine (Compare_ok p q n m c d l k _ (HL.out.grow GB.out) (HK.out.grow GB.out) HV1.out HV2.out).mono ?_
  rintro e w3 ⟨rfl, hg⟩
  have k1 := hg.cell e1
  have k3 := hg.cell e3
  have k4 := hg.cell e4
  have j3 := hg.frozen e3 g3
  have j4 := hg.frozen e4 g4
  have GC := Lib.hid (GB.out.trans hg)
  clear hg e1 e2 e3 e4 g3 g4 GB
  rw [ord_lt HX.out]
  go_wp2_with fail
  refine (clone_at p l n c HL.out.len HL.out.small HL.out.nil _ (GC.out.rd HL.out.rd)).mono ?_
  rintro e w4 ⟨a, cap, rfl, hac, han, how, hg⟩
  have m3 := hg.cell k3
  have m4 := hg.cell k4
  have mf3 := hg.frozen k3 j3
  have mf4 := hg.frozen k4 j4
  have hz : w.heap.size + 1 + 1 + 1 < w3.heap.size := World.block_lt_of_cell? w3 _ k4
  have GD := Lib.hid (GC.out.trans hg)
  have HO := Lib.hid how
  have HA := Lib.hid han
  clear hg k1 k3 k4 j3 j4 how han
  have HR : Hid (Nr w.heap.size ((w4.setCell ⟨w.heap.size + 1 + 1, 0, none⟩ (.slice none 0 0)).setCell ⟨w.heap.size + 1 + 1 + 1, 0, none⟩ (.slice a n cap)) a n cap (digs (val l))) := Lib.hid (by
    have h1 : Nr w3.heap.size w4 a n cap (digs (val l)) := by
      rw [digs_val HL.out.ok (of_decide_eq_true HV1.out).2]
      exact ⟨⟨HL.out.len, hac, HA.out, HO.out.rd, HL.out.ok, HL.out.small⟩, HO.out⟩
    have hne : ∀ (x : Nat), x < w3.heap.size → ∀ y : Addr, a = some y → y.block ≠ x ∨ val (digs (val l)) = 0 := by
      intro x hx y hy
      rcases HO.out with h | ⟨b, off, h2, h3, h4⟩
      · exact .inr (by rw [h, val_digs]; rfl)
      · rw [h2] at hy; cases hy; exact .inl (by dsimp only; omega)
    exact ((h1.set' _ _ (hne _ (by dsimp only; omega)) (tight_digs _)).set' _ _ (hne _ (by dsimp only; omega)) (tight_digs _)).mono (by have := GC.out.le; exact this))
  go_wp2
  exact bodyPost_ret (v := .tuple #[.agg #[.slice none 0 0], .agg #[.slice a n cap], .int .i64 0]) (by simp [results, Tryd.results89, go_sem, m3, m4]) rfl
    ⟨_, _, _, _, _, _, rfl, nr_nil _ _, HR.out, (GD.out.setCell (by simp; omega) _).setCell (by simp; omega) _⟩
end Go.Proofs.YtfompolklkehpaaDoor.Nk


/- The contract of natural's divide: Knuth's algorithm D. -/
namespace Go.Proofs.YtfompolklkehpaaDoor.Nk
open Go.RowKit Go.Shelf Go.Proofs.YtfompolklkehpaaDoor.Nm Go.Proofs.YtfompolklkehpaaDoor.Ne Go.Proofs.YtfompolklkehpaaDoor.Nf

attribute [local go_sem] Oper.semAt_some

/-- What divide has handed back. -/
def DivAt (l k : List Nat) (w : World) (e : Ending) (w' : World) : Prop :=
  ∃ (p1 p2 : Option Addr) (c1 c2 : Nat) (r1 r2 : List Nat), e = .returned (.tuple #[.slice p1 r1.length c1, .slice p2 r2.length c2]) ∧ r1.length ≤ c1 ∧ r2.length ≤ c2 ∧ r1.length ≤ 1000 ∧ r2.length ≤ 1000 ∧ (p1 = none → r1.length = 0 ∧ c1 = 0) ∧ (p2 = none → r2.length = 0 ∧ c2 = 0) ∧ ok r1 ∧ ok r2 ∧
    val r1 = val l / val k ∧ val r2 = val l % val k ∧ Ne.Own w.heap.size w' p1 r1 ∧ Ne.Own w.heap.size w' p2 r2 ∧ Gr w w'

/-- Behind the shifts: the boxes, the shifted words. -/
def Shifted (w : World) (n n2 t : Nat) (l k : List Nat) (s8 : Value) (W : World) : Prop :=
  ∃ (X gr gb cr cb : Nat) (R D : List Nat), s8 = .pointer (some ⟨X, 0, none⟩) ∧ X ≠ gr ∧ X ≠ gb ∧ gr ≠ gb ∧ w.heap.size + 1 + 1 < X ∧ w.heap.size + 1 + 1 < gr ∧ w.heap.size + 1 + 1 < gb ∧
    (W.cell? ⟨w.heap.size, 0, none⟩ = some (.slice none 0 0) ∧ W.frozen? ⟨w.heap.size, 0, none⟩ = false) ∧ (W.cell? ⟨w.heap.size + 1, 0, none⟩ = some (.slice (some ⟨gr, 0, none⟩) (n + 1) cr) ∧ W.frozen? ⟨w.heap.size + 1, 0, none⟩ = false) ∧
    W.cell? ⟨w.heap.size + 1 + 1, 0, none⟩ = some (.int .i64 n2) ∧ W.cell? ⟨X, 0, none⟩ = some (.slice (some ⟨gb, 0, none⟩) n2 cb) ∧
    R.length = n + 1 ∧ D.length = n2 + 1 ∧ n + 1 ≤ cr ∧ n2 + 1 ≤ cb ∧ ok R ∧ ok D ∧ val R = val l * 2 ^ t ∧ val D = val k * 2 ^ t ∧ Hold W gr 0 R ∧ Hold W gb 0 D ∧ Gr w W

theorem own_keeps {B : Nat} {W W' : World} {p : Option Addr} {l : List Nat} (h : Ne.Own B W p l) (k : ∀ (a : Addr) (v : Value), W.cell? a = some v → W'.cell? a = some v ∧ W'.frozen? a = W.frozen? a) : Ne.Own B W' p l := by
  rcases h with rfl | ⟨b, off, rfl, hb, hc⟩
  · exact .inl rfl
  · exact .inr ⟨b, off, rfl, hb, fun i hi => ⟨(k _ _ (hc i hi).1).1, (k _ _ (hc i hi).1).2.trans (hc i hi).2⟩⟩
theorem own_set {B : Nat} {W : World} {p : Option Addr} {l : List Nat} (h : Ne.Own B W p l) (a : Addr) (v : Value) (ha : a.block < B) : Ne.Own B (W.setCell a v) p l := by
  rcases h with rfl | ⟨b, off, rfl, hb, hc⟩
  · exact .inl rfl
  · exact .inr ⟨b, off, rfl, hb, fun i hi => ⟨setCell_ne (by dsimp only; omega) (hc i hi).1, setCell_frozen (hc i hi).2⟩⟩
theorem ib_of {j c : Nat} (h : j + 1 + 1 ≤ c) : (j : Int) + 1 ≤ (c : Int) := by omega

set_option maxRecDepth 100000 in
set_option maxHeartbeats 8000000 in
theorem divide_any (p q : Option Addr) (n m c d : Nat) (l k : List Nat) (w : World) (hl : Nw w p n c l) (hk : Nw w q m d k) (hm0 : 0 < m) (hmn : m ≤ n) (hn : n ≤ 64) (htk : Nm.tight k) :
    Calls Tryd.prog 108 #[.slice p n c, .slice q m d] w (DivAt l k w) := by
  obtain ⟨j, rfl⟩ : ∃ j, m = j + 1 := ⟨m - 1, by omega⟩
  have HL := Lib.hid hl
  have HK := Lib.hid hk
  have HTK := Lib.hid htk
  have G0 := Lib.hid ((((Gr.refl w).alloc (.cells #[.slice none 0 0] 41)).alloc (.cells #[.slice none 0 0] 41)).alloc (.cells #[.int .i64 ((j : Int) + 1)] 3))
  obtain ⟨b, off, rfl, hc⟩ := hk.rd.at (by rw [hk.len]; omega)
  have hcj := hc j (by rw [hk.len]; omega)
  have hb : b < w.heap.size := World.block_lt_of_cell? w _ hcj
  have hb2 : b < w.heap.size + 1 := by omega
  have hb3 : b < w.heap.size + 1 + 1 := by omega
  have hx := ok_get hk.ok j
  have hx0 : k[j]?.getD 0 ≠ 0 := by
    rcases htk with h | h
    · rw [hk.len] at h; omega
    · rw [hk.len] at h; exact h
  have hbl := Lib.bitLen_le (k[j]?.getD 0) 32 (by omega) (by omega)
  have hb1 := (Lib.bitLenAux_bounds 64 (k[j]?.getD 0) (by omega) hx0).1
  change 1 ≤ Lib.bitLen _ at hb1
  have hb2' := (Lib.bitLenAux_bounds 64 (k[j]?.getD 0) (by omega) hx0).2.2
  change _ < 2 ^ Lib.bitLen _ at hb2'
  have HKT : Hid (val k * 2 ^ (32 - Lib.bitLen (k[j]?.getD 0)) < pw (j + 1)) := Lib.hid (shift_fits hk.ok hk.len rfl hb2' hbl rfl)
  clear hb2'
  have HLZ := Lib.hid (fun w => Nb.leading32 ((k[j]?.getD 0 : Nat) : Int) w (by omega) (by omega))
  simp only [Int.toNat_natCast] at HLZ
  generalize k[j]?.getD 0 = x at *
  generalize Lib.bitLen x = B at *
  obtain ⟨t, ht⟩ : ∃ t : Nat, t = 32 - B := ⟨_, rfl⟩
  rw [← ht] at HKT
  have ht32 : t < 32 := by omega
  have HT : Hid ((32 : Int) - (B : Int) = (t : Int)) := Lib.hid (by omega)
  rw [HT.out] at HLZ
  clear hl hk htk hc hx hx0 hbl hb1 ht HT
  have HU1 := Lib.hid (fun W (hW : Gr w W) => up_small p l n c t ht32 W (HL.out.grow hW))
  have HU2 := Lib.hid (fun W (hW : Gr w W) => up_small (some ⟨b, off, none⟩) k (j + 1) d t ht32 W (HK.out.grow hW))
  refine (callsIn_wide (n := 3)).1 ?_
  have t1 : Fence.wide.fn 68 := trivial
  have h1 : 1 ≤ 3 := by decide
  refine callsIn_of_wp_marks Tryd.func108 rfl trivial ?_ rfl
  simp only [Tryd.ntmps108, List.size_toArray, List.length_cons, List.length_nil, Nat.reduceAdd, Nat.reduceSub, Array.replicate_succ, Array.replicate_zero, List.push_toArray, List.append_toArray, List.nil_append, List.cons_append]
  refine wpIn_wide.2 ?_
  go_wp2_with fail
  refine (HLZ.out _).mono ?_
  rintro e w1 ⟨rfl, rfl⟩
  go_upto_region 3 with fail
  go_cut [8] from 18 to 25 (fun s8 W => Shifted w n (j + 1) t l k s8 W)
  case first =>
    have G00 := G0.out
    have ib0 : (0 : Int) ≤ (j : Int) + 1 := by omega
    have Z0 : (((w.alloc (.cells #[.slice none 0 0] 41)).alloc (.cells #[.slice none 0 0] 41)).alloc (.cells #[.int .i64 ((j : Int) + 1)] 3)).drew.cell? ⟨w.heap.size, 0, none⟩ = some (.slice none 0 0) := by simp [go_sem]
    have Z1 : (((w.alloc (.cells #[.slice none 0 0] 41)).alloc (.cells #[.slice none 0 0] 41)).alloc (.cells #[.int .i64 ((j : Int) + 1)] 3)).drew.cell? ⟨w.heap.size + 1, 0, none⟩ = some (.slice none 0 0) := by simp [go_sem]
    have Z2 : (((w.alloc (.cells #[.slice none 0 0] 41)).alloc (.cells #[.slice none 0 0] 41)).alloc (.cells #[.int .i64 ((j : Int) + 1)] 3)).drew.cell? ⟨w.heap.size + 1 + 1, 0, none⟩ = some (.int .i64 ((j : Int) + 1)) := by simp [go_sem]
    have Y0 : (((w.alloc (.cells #[.slice none 0 0] 41)).alloc (.cells #[.slice none 0 0] 41)).alloc (.cells #[.int .i64 ((j : Int) + 1)] 3)).drew.frozen? ⟨w.heap.size, 0, none⟩ = false := by simp [go_sem]
    have Y1 : (((w.alloc (.cells #[.slice none 0 0] 41)).alloc (.cells #[.slice none 0 0] 41)).alloc (.cells #[.int .i64 ((j : Int) + 1)] 3)).drew.frozen? ⟨w.heap.size + 1, 0, none⟩ = false := by simp [go_sem]
    have ZXa : ((((w.alloc (.cells #[.slice none 0 0] 41)).alloc (.cells #[.slice none 0 0] 41)).alloc (.cells #[.int .i64 ((j : Int) + 1)] 3)).drew.alloc (.cells #[.slice none 0 0] 41)).cell? ⟨w.heap.size + 1 + 1 + 1, 0, none⟩ = some (.slice none 0 0) := by simp [go_sem]
    have ZXb : ((((w.alloc (.cells #[.slice none 0 0] 41)).alloc (.cells #[.slice none 0 0] 41)).alloc (.cells #[.int .i64 ((j : Int) + 1)] 3)).alloc (.cells #[.slice none 0 0] 41)).drew.cell? ⟨w.heap.size + 1 + 1 + 1, 0, none⟩ = some (.slice none 0 0) := by simp [go_sem]
    have YXa : ((((w.alloc (.cells #[.slice none 0 0] 41)).alloc (.cells #[.slice none 0 0] 41)).alloc (.cells #[.int .i64 ((j : Int) + 1)] 3)).drew.alloc (.cells #[.slice none 0 0] 41)).frozen? ⟨w.heap.size + 1 + 1 + 1, 0, none⟩ = false := by simp [go_sem]
    have YXb : ((((w.alloc (.cells #[.slice none 0 0] 41)).alloc (.cells #[.slice none 0 0] 41)).alloc (.cells #[.int .i64 ((j : Int) + 1)] 3)).alloc (.cells #[.slice none 0 0] 41)).drew.frozen? ⟨w.heap.size + 1 + 1 + 1, 0, none⟩ = false := by simp [go_sem]
    have ZX2 : ((((w.alloc (.cells #[.slice none 0 0] 41)).alloc (.cells #[.slice none 0 0] 41)).alloc (.cells #[.int .i64 ((j : Int) + 1)] 3)).alloc (.cells #[.slice none 0 0] 41)).drew.cell? ⟨w.heap.size + 1 + 1, 0, none⟩ = some (.int .i64 ((j : Int) + 1)) := by simp [go_sem]
    go_region_held3 (fun w' => w'.cell? ⟨w.heap.size + 1 + 1, 0, none⟩ = some (.int .i64 ((j : Int) + 1)) ∧ Gr w w')
      (first | exact ⟨Z2, G00.drew⟩ | (constructor <;> assumption) | (constructor; (repeat' (first | assumption | exact Z2 | refine alloc_cell ?_ | refine setCell_ne ?_ ?_ | refine drew_cell ?_ | (simp; done) | (dsimp only; omega))); (repeat' (first | assumption | exact G00.drew | refine Gr.alloc ?_ _ | refine Gr.setCell ?_ ?_ _ | refine Gr.drew ?_ | (simp; done) | (dsimp only; omega) | omega))))
      (first
      | (go_at_call_of 114 c; refine (HU1.out _ ?_).mono ?_; (first | exact G00 | exact G00.drew | exact Gr.alloc G00.drew _ | exact (Gr.alloc G00 _).drew | assumption | (refine Gr.alloc ?_ _; assumption)); rintro e w' ⟨ga, ca, ra, rfl, ea1, ea2, ea3, ea4, ea5, ea6, ea7⟩; (first | (have za0 := ea7.cell Z0; have za1 := ea7.cell Z1; have za2 := ea7.cell Z2; have ya0 := ea7.frozen Z0 Y0; have ya1 := ea7.frozen Z1 Y1; have gag := Gr.trans G00.drew ea7) | (have za0 := ea7.cell (Gr.cell ((Gr.refl _).alloc _) Z0); have za1 := ea7.cell (Gr.cell ((Gr.refl _).alloc _) Z1); have za2 := ea7.cell (Gr.cell ((Gr.refl _).alloc _) Z2); have ya0 := ea7.frozen (Gr.cell ((Gr.refl _).alloc _) Z0) (Gr.frozen ((Gr.refl _).alloc _) Z0 Y0); have ya1 := ea7.frozen (Gr.cell ((Gr.refl _).alloc _) Z1) (Gr.frozen ((Gr.refl _).alloc _) Z1 Y1); have gag := Gr.trans (Gr.alloc G00.drew _) ea7) | (have za0 := ea7.cell zb0; have za1 := ea7.cell zb1; have za2 := ea7.cell zb2; have ya0 := ea7.frozen zb0 yb0; have ya1 := ea7.frozen zb1 yb1; have gag := Gr.trans gbg ea7) | (have za0 := ea7.cell (Gr.cell ((Gr.refl _).alloc _) zb0); have za1 := ea7.cell (Gr.cell ((Gr.refl _).alloc _) zb1); have za2 := ea7.cell (Gr.cell ((Gr.refl _).alloc _) zb2); have ya0 := ea7.frozen (Gr.cell ((Gr.refl _).alloc _) zb0) (Gr.frozen ((Gr.refl _).alloc _) zb0 yb0); have ya1 := ea7.frozen (Gr.cell ((Gr.refl _).alloc _) zb1) (Gr.frozen ((Gr.refl _).alloc _) zb1 yb1); have gag := Gr.trans (Gr.alloc gbg _) ea7)); (first | (have zxa := ea7.cell ZXa; have yxa := ea7.frozen ZXa YXa) | (have zxa := ea7.cell ZXb; have yxa := ea7.frozen ZXb YXb) | (have zxa := ea7.cell (cell_new1 _ _ _ _ rfl); have yxa := ea7.frozen (cell_new1 _ _ _ _ rfl) (frozen_new1 _ _ _)) | (have zxa := ea7.cell zxb; have yxa := ea7.frozen zxb yxb) | skip); (first | (have txa := World.block_lt_of_cell? _ _ zxa) | skip); have ta0 : w.heap.size < w'.heap.size := World.block_lt_of_cell? _ _ za0; have ta1 : w.heap.size + 1 < w'.heap.size := World.block_lt_of_cell? _ _ za1; have ta2 : w.heap.size + 1 + 1 < w'.heap.size := World.block_lt_of_cell? _ _ za2; have na1 : (w'.heap.size = w.heap.size + 1) = False := eq_false (Nat.ne_of_gt ta1); have na2 : (w.heap.size + 1 = w'.heap.size) = False := eq_false (Nat.ne_of_lt ta1); have na3 : (w'.heap.size = w.heap.size + 1 + 1) = False := eq_false (Nat.ne_of_gt ta2); have na4 : (w.heap.size + 1 + 1 = w'.heap.size) = False := eq_false (Nat.ne_of_lt ta2))
      | (go_at_call_of 114 d; refine (HU2.out _ ?_).mono ?_; (first | exact G00 | exact G00.drew | exact Gr.alloc G00.drew _ | exact (Gr.alloc G00 _).drew | assumption | (refine Gr.alloc ?_ _; assumption)); rintro e w' ⟨gb, cb, rb, rfl, eb1, eb2, eb3, eb4, eb5, eb6, eb7⟩; (first | (have zb0 := eb7.cell Z0; have zb1 := eb7.cell Z1; have zb2 := eb7.cell Z2; have yb0 := eb7.frozen Z0 Y0; have yb1 := eb7.frozen Z1 Y1; have gbg := Gr.trans G00.drew eb7) | (have zb0 := eb7.cell (Gr.cell ((Gr.refl _).alloc _) Z0); have zb1 := eb7.cell (Gr.cell ((Gr.refl _).alloc _) Z1); have zb2 := eb7.cell (Gr.cell ((Gr.refl _).alloc _) Z2); have yb0 := eb7.frozen (Gr.cell ((Gr.refl _).alloc _) Z0) (Gr.frozen ((Gr.refl _).alloc _) Z0 Y0); have yb1 := eb7.frozen (Gr.cell ((Gr.refl _).alloc _) Z1) (Gr.frozen ((Gr.refl _).alloc _) Z1 Y1); have gbg := Gr.trans (Gr.alloc G00.drew _) eb7) | (have zb0 := eb7.cell za0; have zb1 := eb7.cell za1; have zb2 := eb7.cell za2; have yb0 := eb7.frozen za0 ya0; have yb1 := eb7.frozen za1 ya1; have gbg := Gr.trans gag eb7) | (have zb0 := eb7.cell (Gr.cell ((Gr.refl _).alloc _) za0); have zb1 := eb7.cell (Gr.cell ((Gr.refl _).alloc _) za1); have zb2 := eb7.cell (Gr.cell ((Gr.refl _).alloc _) za2); have yb0 := eb7.frozen (Gr.cell ((Gr.refl _).alloc _) za0) (Gr.frozen ((Gr.refl _).alloc _) za0 ya0); have yb1 := eb7.frozen (Gr.cell ((Gr.refl _).alloc _) za1) (Gr.frozen ((Gr.refl _).alloc _) za1 ya1); have gbg := Gr.trans (Gr.alloc gag _) eb7)); (first | (have zxb := eb7.cell ZXa; have yxb := eb7.frozen ZXa YXa) | (have zxb := eb7.cell ZXb; have yxb := eb7.frozen ZXb YXb) | (have zxb := eb7.cell (cell_new1 _ _ _ _ rfl); have yxb := eb7.frozen (cell_new1 _ _ _ _ rfl) (frozen_new1 _ _ _)) | (have zxb := eb7.cell zxa; have yxb := eb7.frozen zxa yxa) | skip); (first | (have txb := World.block_lt_of_cell? _ _ zxb) | skip); have tb0 : w.heap.size < w'.heap.size := World.block_lt_of_cell? _ _ zb0; have tb1 : w.heap.size + 1 < w'.heap.size := World.block_lt_of_cell? _ _ zb1; have tb2 : w.heap.size + 1 + 1 < w'.heap.size := World.block_lt_of_cell? _ _ zb2; have nb1 : (w'.heap.size = w.heap.size + 1) = False := eq_false (Nat.ne_of_gt tb1); have nb2 : (w.heap.size + 1 = w'.heap.size) = False := eq_false (Nat.ne_of_lt tb1); have nb3 : (w'.heap.size = w.heap.size + 1 + 1) = False := eq_false (Nat.ne_of_gt tb2); have nb4 : (w.heap.size + 1 + 1 = w'.heap.size) = False := eq_false (Nat.ne_of_lt tb2); have ib := ib_of eb2))
    all_goals
      have la := hold_lt ea6 (by omega)
      have lb := hold_lt eb6 (by omega)
      have hga : Hold w' ga 0 ra := by
        first
          | exact ea6.grow eb7
          | exact (hold_alloc ea6).grow eb7
      have l1 := ea7.le
      have l2 := eb7.le
      try simp at l1
      try simp at l2
      try simp at ea5
      try simp at eb5
      have h10 : w.heap.size + 1 ≠ w.heap.size := by omega
      have h12 : w.heap.size + 1 ≠ w.heap.size + 1 + 1 := by omega
      have h1a : w.heap.size + 1 ≠ ga := by omega
      have h1b : w.heap.size + 1 ≠ gb := by omega
      have hw1 : w.heap.size ≤ w.heap.size + 1 := by omega
      go_wp2_with fail
      go_meet
      refine ⟨_, ga, gb, ca, cb, ra, rb, rfl, ?_, ?_, ?_, ?_, ?_, ?_, ⟨?_, ?_⟩, ⟨?_, ?_⟩, ?_, ?_, ea1, eb1, ea2, eb2, ea3, eb3, ea4, eb4, ?_, ?_, ?_⟩
      · omega
      · omega
      · omega
      · omega
      · omega
      · omega
      · first
          | exact alloc_cell (setCell_ne h10 zb0)
          | (refine setCell_ne ?_ (setCell_ne h10 zb0); dsimp only; omega)
      · first
          | exact alloc_frozen (setCell_ne h10 zb0) (setCell_frozen yb0)
          | exact setCell_frozen (setCell_frozen yb0)
      · first
          | exact alloc_cell (setCell_at zb1)
          | (refine setCell_ne ?_ (setCell_at zb1); dsimp only; omega)
      · first
          | exact alloc_frozen (setCell_at zb1) (setCell_frozen yb1)
          | exact setCell_frozen (setCell_frozen yb1)
      · first
          | exact alloc_cell (setCell_ne h12 zb2)
          | (refine setCell_ne ?_ (setCell_ne h12 zb2); dsimp only; omega)
      · first
          | exact cell_newS _ _ _ _ _ _ rfl
          | (refine setCell_at (setCell_ne ?_ zxb); dsimp only; omega)
      · first
          | exact hold_alloc (hold_other h1a hga)
          | (refine hold_other ?_ (hold_other h1a hga); dsimp only; omega)
      · first
          | exact hold_alloc (hold_other h1b eb6)
          | (refine hold_other ?_ (hold_other h1b eb6); dsimp only; omega)
      · first
          | exact Gr.alloc (Gr.setCell gbg hw1 _) _
          | (refine Gr.setCell (Gr.setCell gbg hw1 _) ?_ _; dsimp only; omega)
  case rest =>
    obtain ⟨X, gr, gb, cr, cb, R, D, rfl, hXr, hXb, hrb, hXw, hrw, hbw, ⟨b0, f0⟩, ⟨b1, f1⟩, b2, bX, hRl, hDl, hRc, hDc, hRo, hDo, hRv, hDv, hHR, hHD, hG⟩ := hcut
    obtain ⟨i0, hi, hz0, hz1, hz2⟩ := info_parts infoW
    obtain ⟨m, hm⟩ : ∃ m : Nat, m = n - j := ⟨_, rfl⟩
    have hmi : (n : Int) - ((j : Int) + 1) + 1 = (m : Int) := by omega
    have hm1 : 1 ≤ m := by omega
    have hm64 : m ≤ 64 := by omega
    have HM := Lib.hid hm
    have HRL := Lib.hid hRl
    have HDL := Lib.hid hDl
    have HRO := Lib.hid hRo
    have HDO := Lib.hid hDo
    have HRV := Lib.hid hRv
    have HDV := Lib.hid hDv
    have HHR := Lib.hid hHR
    have HHD := Lib.hid hHD
    have HG := Lib.hid hG
    clear hRl hDl hRo hDo hRv hDv hHR hHD hG hm HU1 HU2 HLZ G0 hcj
    generalize wc = W1 at *
    have hXlt := World.block_lt_of_cell? W1 _ bX
    go_wp2_with (first
      | (refine wpList_make_full (o := ⟨some 31, _, _, _, _, _⟩) _ rfl _ _ _ rfl W1.heap.size 35 i0 (.int .u32 0) 1 Tryd.underlying41 hi hz0 hz1 .i64 .i64 _ _ m rfl rfl rfl rfl (by rw [hz2]; omega) (by unfold maxLen; omega) (Nat.le_refl _) ?_; intro w3 hown hgrow; have k0 := (Gr.grown hgrow).cell b0; have k1 := (Gr.grown hgrow).cell b1; have k2 := (Gr.grown hgrow).cell b2; have kX := (Gr.grown hgrow).cell bX; have g0 := (Gr.grown hgrow).frozen b0 f0; have g1 := (Gr.grown hgrow).frozen b1 f1; have HO := Lib.hid (hold_made hown); have G3 := Lib.hid (Gr.grown hgrow); clear hown hgrow))
    have hgq : W1.heap.size < w3.heap.size := hold_lt HO.out (by simp; omega)
    go_wp2_with fail
    refine (callsIn_wide.1 (back_in Fence.wide 2 trivial rfl _ _ _ _)).mono ?_
    rintro e w4 ⟨rfl, rfl⟩
    go_wp2_with fail
    have hX1 : X < W1.heap.size := hXlt
    have hgr1 := hold_lt HHR.out (by rw [HRL.out]; omega)
    have hgb1 := hold_lt HHD.out (by rw [HDL.out]; omega)
    have hn0 : w.heap.size ≠ W1.heap.size := by omega
    have HD2 : Hid (val (D.take (j + 1)) = val k * 2 ^ t) := Lib.hid (by rw [take_val' (by rw [HDL.out]; omega) (by rw [HDV.out]; exact HKT.out)]; exact HDV.out)
    have HZ : Hid (Hold ((w3.setCell ⟨w.heap.size, 0, none⟩ (.slice (some ⟨W1.heap.size, 0, none⟩) m m)).alloc (.cells #[.slice (some ⟨W1.heap.size, 0, none⟩) m m] 41)) W1.heap.size 0 (List.replicate m 0)) := Lib.hid (hold_alloc (hold_other hn0 HO.out))
    have HS : Hid (Src w3.heap.size (some ⟨W1.heap.size, 0, none⟩) m m (fun _ _ => True) ((w3.setCell ⟨w.heap.size, 0, none⟩ (.slice (some ⟨W1.heap.size, 0, none⟩) m m)).alloc (.cells #[.slice (some ⟨W1.heap.size, 0, none⟩) m m] 41))) := Lib.hid
      ⟨cell_newS _ _ _ _ _ _ rfl, .inr ⟨W1.heap.size, 0, rfl, fun i hi => ⟨_, trivial, (HZ.out i (by simp; omega)).1⟩⟩⟩
    have HI0 : Hid (DivI w W1.heap.size gr gb X m (n + 1) (j + 1) cr cb R (D.take (j + 1)) [] ((w3.setCell ⟨w.heap.size, 0, none⟩ (.slice (some ⟨W1.heap.size, 0, none⟩) m m)).alloc (.cells #[.slice (some ⟨W1.heap.size, 0, none⟩) m m] 41))) := Lib.hid
      ⟨⟨⟨alloc_cell (setCell_at k0), alloc_frozen (setCell_at k0) (setCell_frozen g0)⟩, ⟨alloc_cell (setCell_ne (by dsimp only; omega) k1), alloc_frozen (setCell_ne (by dsimp only; omega) k1) (setCell_frozen g1)⟩, alloc_cell (setCell_ne (by dsimp only; omega) k2), alloc_cell (setCell_ne (by dsimp only; omega) kX)⟩,
        ⟨List.replicate m 0, R, by simp, HRL.out, ok_replicate _, HRO.out, HZ.out, hold_alloc (hold_other (by dsimp only; omega) (HHR.out.grow G3.out)), hold_alloc (hold_other (by dsimp only; omega) (hold_take (HHD.out.grow G3.out) _)), fun _ => DivN.start (by rw [HD2.out, HRV.out]; exact div_start HL.out.ok HL.out.len HK.out.len HTK.out HM.out (by omega))⟩, Gr.alloc (Gr.setCell (HG.out.trans G3.out) (by dsimp only; omega) _) _⟩
    have hwW : w.heap.size ≤ ((w3.setCell ⟨w.heap.size, 0, none⟩ (.slice (some ⟨W1.heap.size, 0, none⟩) m m)).alloc (.cells #[.slice (some ⟨W1.heap.size, 0, none⟩) m m] 41)).heap.size := HI0.out.2.2.le
    refine (wpIn_wide (n := 3)).1 ?_
    refine wpIn_rangeFunc_ownG rfl h1 (gf := 68) (lb := #[.pointer (some ⟨w3.heap.size, 0, none⟩)]) rfl trivial (enters_of Tryd.func68 (by kernel_rfl) rfl)
      (back_stops Fence.wide (3 - 1) trivial rfl (by decide) w3.heap.size (some ⟨W1.heap.size, 0, none⟩) m m (by omega) (fun _ _ => True) _ HS.out) (fun h k s => k (h s)) src_b (Below.refl _ _) (fun _ => rfl)
      (DivI w W1.heap.size gr gb X m (n + 1) (j + 1) cr cb R (D.take (j + 1))) (fun _ _ _ => False) (divI_own hwW) (fun _ _ _ _ _ hs _ _ => hs) HI0.out ?a1 ?assign ?body ?done ?stop
    case assign =>
      intro l x W K hK
      unfold en
      gi_wp2
      exact hK
    case body =>
      rintro l2 pre ⟨i, v⟩ W ⟨⟨⟨p0, u0⟩, ⟨p1, u1⟩, p2, pX⟩, ⟨qs, r, hql, hrl, hqo, hro, hhq, hhr, hhd, hN⟩, hB⟩ hlt
      have hjm : cl m i < m := cl_lt (by omega)
      obtain ⟨jj, hjj⟩ : ∃ jj, cl m i = jj := ⟨_, rfl⟩
      rw [hjj] at hjm ⊢
      have HJ := Lib.hid hjj
      have hmn2 : m + (j + 1) = n + 1 := by have := HM.out; omega
      have hwl : ((r.drop jj).take (j + 1 + 1)).length = j + 1 + 1 := by simp; omega
      have hDl : (D.take (j + 1)).length = j + 1 := by rw [List.length_take, HDL.out]; omega
      have HTD : Hid (Calls Tryd.prog 115 #[.slice (some ⟨gr, jj, none⟩) (j + 1 + 1) (cr - jj), .slice (some ⟨gb, 0, none⟩) (j + 1) cb] W.drew (DigitAt gr jj ((r.drop jj).take (j + 1 + 1)) (D.take (j + 1)) W.drew)) := Lib.hid
        (takeDigit_any gr jj (j + 1 + 1) (cr - jj) gb 0 (j + 1) cb _ _ hwl hDl rfl (by omega) (by omega) (ok_take (ok_drop hro _) _) (ok_take HDO.out _) (fun e => hrb e.symm) W.drew (hold_window hhr (by omega)) hhd)
      have hcq := hhq jj (by omega)
      rw [Nat.zero_add] at hcq
      obtain ⟨y, hy⟩ : ∃ y, qs[jj]?.getD 0 = y := ⟨_, rfl⟩
      rw [hy] at hcq
      obtain ⟨cq, fq⟩ := hcq
      have HSTEP := Lib.hid (fun (q : Nat) (s : List Nat) (W' : World) => divI_step (w := w) (W := W) (W' := W') (gq := W1.heap.size) (gr := gr) (gb := gb) (X := X) (Bs := w3.heap.size) (m := m) (n1 := n + 1) (n2 := j + 1) (cr := cr) (cb := cb) (B := ((w3.setCell ⟨w.heap.size, 0, none⟩ (.slice (some ⟨W1.heap.size, 0, none⟩) m m)).alloc (.cells #[.slice (some ⟨W1.heap.size, 0, none⟩) m m] 41)).heap.size) (i := i) (v := v) (jj := jj) (q := q) (R := R) (D := D.take (j + 1)) (qs := qs) (r := r) (s := s) (pre := pre)
        hjj hjm (by omega) hrw (by omega) (by omega) hrb (by omega) hXr (by omega) (by omega) p0 u0 p1 u1 p2 pX hql hrl hqo hro hhq hhr hhd hN hB hlt hmn2.symm (by rw [HD2.out]; exact HKT.out))
      have HWR : Hid (∀ W' : World, Wr gr jj (j + 1 + 1) W.drew W' → Wr gr jj (j + 1 + 1) W W') := Lib.hid (fun W' hw => ((Wr.refl _ _ _ W).drewN 1).trans hw)
      have HWL := Lib.hid hwl
      clear hql hrl hqo hro hhq hhr hhd hN hB hjj hy hwl hDl
      have q1 : IntKind.i64.wrap ((jj : Int) + ((j : Int) + 1)) = (jj : Int) + ((j : Int) + 1) := IntWalk.i64_in _ (by omega)
      have q2 : IntKind.i64.wrap ((jj : Int) + ((j : Int) + 1) + 1) = (jj : Int) + ((j : Int) + 1) + 1 := IntWalk.i64_in _ (by omega)
      have q3 : (0 : Int) ≤ (jj : Int) := by omega
      have q4 : (jj : Int) ≤ (jj : Int) + ((j : Int) + 1) + 1 := by omega
      have q5 : (jj : Int) + ((j : Int) + 1) + 1 ≤ (cr : Int) := by omega
      have q6 : ((jj : Int) + ((j : Int) + 1) + 1).toNat = jj + (j + 1) + 1 := by omega
      have q7 : jj + (j + 1) + 1 - jj = j + 1 + 1 := by omega
      have q8 : (cr = jj) = False := eq_false (by omega)
      have q9 : (jj : Int) < (m : Int) := by omega
      have q10 : (0 : Int) ≤ (jj : Int) + ((j : Int) + 1) + 1 := by omega
      clear hmn2
      gi_wp2_with fail
      refine wpIn_round_held (S := fun w' => w'.cell? ⟨w.heap.size, 0, none⟩ = some (.slice (some ⟨W1.heap.size, 0, none⟩) m m) ∧ w'.cell? ⟨w.heap.size + 1, 0, none⟩ = some (.slice (some ⟨gr, 0, none⟩) (n + 1) cr) ∧ w'.cell? ⟨w.heap.size + 1 + 1, 0, none⟩ = some (.int .i64 ((j : Int) + 1)) ∧ w'.cell? ⟨X, 0, none⟩ = some (.slice (some ⟨gb, 0, none⟩) (j + 1) cb)) (by kernel_rfl) (by kernel_rfl) (fun ⟨_, _, h⟩ => h) ⟨p0, p1, p2, pX⟩ (fun hS => ?_)
      refine wpAnyH_take (i := 0) (v := ?_) rfl (by kernel_rfl) (by kernel_rfl) (by kernel_rfl) (fun _ _ _ h => h) (Or.inl ⟨by rfl, ?_⟩) hS ?_
      rotate_left
      · (intro wx hSx; go_simp; rfl)
      refine wpAnyH_take (i := 1) (v := ?_) rfl (by kernel_rfl) (by kernel_rfl) (by kernel_rfl) (fun _ _ _ h => h) (Or.inl ⟨by rfl, ?_⟩) hS ?_
      rotate_left
      · (intro wx hSx; go_simp; rfl)
      refine wpAnyH_take (i := 2) (v := ?_) rfl (by kernel_rfl) (by kernel_rfl) (by kernel_rfl) (fun _ _ _ h => h) (Or.inl ⟨by rfl, ?_⟩) hS ?_
      rotate_left
      · (intro wx hSx; go_simp; rfl)
      refine wpAnyH_take (i := 3) (v := ?_) rfl (by kernel_rfl) (by kernel_rfl) (by kernel_rfl) (fun _ _ _ h => h) (Or.inl ⟨by rfl, ?_⟩) hS ?_
      rotate_left
      · (intro wx hSx; go_simp; rfl)
      refine wpAnyH_take (i := 4) (v := ?_) rfl (by kernel_rfl) (by kernel_rfl) (by kernel_rfl) (fun _ _ _ h => h) (Or.inl ⟨by rfl, ?_⟩) hS ?_
      rotate_left
      · (intro wx hSx; go_simp; rfl)
      refine wpAnyH_take (i := 5) (v := ?_) rfl (by kernel_rfl) (by kernel_rfl) (by kernel_rfl) (fun _ _ _ h => h) (Or.inl ⟨by rfl, ?_⟩) hS ?_
      rotate_left
      · (intro wx hSx; go_simp; rfl)
      refine wpAnyH_take (i := 6) (v := ?_) rfl (by kernel_rfl) (by kernel_rfl) (by kernel_rfl) (fun _ _ _ h => h) (Or.inl ⟨by rfl, ?_⟩) hS ?_
      rotate_left
      · (intro wx hSx; go_simp; rfl)
      refine wpAnyH_take (i := 7) (v := ?_) rfl (by kernel_rfl) (by kernel_rfl) (by kernel_rfl) (fun _ _ _ h => h) (Or.inl ⟨by rfl, ?_⟩) hS ?_
      rotate_left
      · (intro wx hSx; go_simp; rfl)
      refine wpAnyH_take (i := 8) (v := ?_) rfl (by kernel_rfl) (by kernel_rfl) (by kernel_rfl) (fun _ _ _ h => h) (Or.inl ⟨by rfl, ?_⟩) hS ?_
      rotate_left
      · (intro wx hSx; go_simp; rfl)
      refine wpAnyH_take (i := 9) (v := ?_) rfl (by kernel_rfl) (by kernel_rfl) (by kernel_rfl) (fun _ _ _ h => h) (Or.inl ⟨by rfl, ?_⟩) hS ?_
      rotate_left
      · (intro wx hSx; go_simp; rfl)
      refine wpAnyH_ready (rs := [10]) (by kernel_rfl) (by simp) ?_
      refine AllReadyH.cons rfl (fun K hK => ?_) AllReadyH.nil
      go_simp
      refine HTD.out.mono ?_
      rintro e W' ⟨q, s, rfl, hq, hsl, hso, hsh, hwr, hv, hlt2⟩
      rw [HWL.out] at hsl hwr
      have hwr2 := HWR.out W' hwr
      have kq := (hwr2.cellOf (o := jj) (show W1.heap.size ≠ gr by omega)).trans cq
      have kf := (hwr2.frozen ⟨W1.heap.size, jj, none⟩).trans fq
      refine hK.out _ _ ⟨(hwr2.cellOf (show w.heap.size ≠ gr by omega)).trans p0, (hwr2.cellOf (show w.heap.size + 1 ≠ gr by omega)).trans p1, (hwr2.cellOf (show w.heap.size + 1 + 1 ≠ gr by omega)).trans p2, (hwr2.cellOf hXr).trans pX⟩ (fun hS2 => ?_)
      clear hK hS
      refine wpAnyH_take (i := 11) (v := ?_) rfl (by kernel_rfl) (by kernel_rfl) (by kernel_rfl) (fun _ _ _ h => h) (Or.inl ⟨by rfl, ?_⟩) hS2 ?_
      rotate_left
      · (intro wx hSx; go_simp; rfl)
      refine wpAnyH_ready (rs := [12]) (by kernel_rfl) (by simp) ?_
      refine AllReadyH.cons rfl (fun K hK => ?_) AllReadyH.nil
      go_simp
      refine hK.out _ _ ⟨setCell_ne (by dsimp only; omega) hS2.1, setCell_ne (by dsimp only; omega) hS2.2.1, setCell_ne (by dsimp only; omega) hS2.2.2.1, setCell_ne (by dsimp only; omega) hS2.2.2.2⟩ (fun _ => ?_)
      refine wpAnyH_done (by kernel_rfl) ?_ _
      exact HSTEP.out q s W' hq hsl hso hsh hwr2 hv hlt2
    case done =>
      rintro Dd xs W hDd hO ⟨⟨⟨p0, u0⟩, ⟨p1, u1⟩, p2, pX⟩, ⟨qs, r, hql, hrl, hqo, hro, hhq, hhr, hhd, hN⟩, hB⟩ hK
      have hxl := Out.length hO
      have hN1 := hN (by rw [hxl]; exact hO.1)
      rw [hxl] at hN1
      obtain ⟨hv1, hv2⟩ := DivN.done hN1
      have HQV : Hid (val qs = val l / val k) := Lib.hid (by rw [hv1, HRV.out, HD2.out, Nat.mul_div_mul_right _ _ (Nat.two_pow_pos t)])
      have hvr : val r < pw (j + 1) := by
        rw [hv2]
        refine Nat.lt_trans (Nat.mod_lt _ ?_) (by rw [HD2.out]; exact HKT.out)
        rcases Nat.eq_zero_or_pos (val (D.take (j + 1))) with h0 | h0
        · exact absurd hN1 (by intro h; have h1 := h.2.1; rw [h0, Nat.zero_mul] at h1; omega)
        · exact h0
      have HRV2 : Hid (val (r.take (j + 1)) / 2 ^ t = val l % val k) := Lib.hid (by rw [take_val' (by rw [hrl]; omega) hvr, hv2, HRV.out, HD2.out, Nat.mul_mod_mul_right, Nat.mul_div_cancel _ (Nat.two_pow_pos t)])
      have hrt : (r.take (j + 1)).length = j + 1 := by rw [List.length_take, hrl]; omega
      have HDN : Hid (∀ W' : World, Gr W W' → Calls Tryd.prog 116 #[.slice (some ⟨gr, 0, none⟩) (j + 1) cr, .int .i64 (t : Int)] W' (DownAt (r.take (j + 1)) t W')) := Lib.hid fun W' hg =>
        down_any _ _ (j + 1) cr t (by omega) W' (Nw.grow ⟨hrt, by omega, (fun e => by cases e), .inr ⟨gr, 0, rfl, fun i hi => (hold_take hhr (j + 1) i hi).1⟩, ok_take hro _, by omega⟩ hg)
      have HRT := Lib.hid hrt
      have HQL := Lib.hid hql
      have HQO := Lib.hid hqo
      have HHQ := Lib.hid hhq
      have HB := Lib.hid hB
      have hDw : w.heap.size ≤ Dd := by have := HI0.out.2.2.le; omega
      have hDk := World.block_lt_of_cell? W _ p0
      clear hxl hN hN1 hv1 hv2 hvr hrt hrl hro hhr hhd hql hqo hhq hO hB
      clear HS HI0 HZ HD2 HO
      go_upto_region 8 with fail
      refine wp_region_noPanic ?_
      have q1 : (0 : Int) ≤ (j : Int) + 1 := by omega
      have q2 : (j : Int) + 1 ≤ (cr : Int) := by omega
      have q3 : ((j : Int) + 1).toNat = j + 1 := by omega
      refine wp_region_held_drew (S := fun w' => w'.cell? ⟨w.heap.size, 0, none⟩ = some (.slice (some ⟨W1.heap.size, 0, none⟩) m m) ∧ w'.cell? ⟨w.heap.size + 1 + 1, 0, none⟩ = some (.int .i64 ((j : Int) + 1))) (by kernel_rfl) ⟨p0, p2⟩ (fun hS => ?_)
      refine wpAnyH_take (i := 0) (v := ?_) rfl (by kernel_rfl) (by kernel_rfl) (by kernel_rfl) (fun _ _ _ h => h) (Or.inl ⟨by rfl, ?_⟩) hS ?_
      rotate_left
      · (intro wx hSx; go_simp; rfl)
      refine wpAnyH_take (i := 2) (v := ?_) rfl (by kernel_rfl) (by kernel_rfl) (by kernel_rfl) (fun _ _ _ h => h) (Or.inl ⟨by rfl, ?_⟩) hS ?_
      rotate_left
      · (intro wx hSx; go_simp; rfl)
      refine wpAnyH_take (i := 4) (v := ?_) rfl (by kernel_rfl) (by kernel_rfl) (by kernel_rfl) (fun _ _ _ h => h) (Or.inl ⟨by rfl, ?_⟩) hS ?_
      rotate_left
      · (intro wx hSx; go_simp; rfl)
      refine wpAnyH_ready (rs := [1]) (by kernel_rfl) (by simp) ?_
      refine AllReadyH.cons rfl (fun K hK2 => ?_) AllReadyH.nil
      go_simp
      refine hK2.out _ _ hS (fun _ => ?_)
      clear hK2
      refine wpAnyH_take (i := 3) (v := ?_) rfl (by kernel_rfl) (by kernel_rfl) (by kernel_rfl) (fun _ _ _ h => h) (Or.inl ⟨by rfl, ?_⟩) hS ?_
      rotate_left
      · (intro wx hSx; go_simp; rfl)
      refine wpAnyH_ready (rs := [5]) (by kernel_rfl) (by simp) ?_
      refine AllReadyH.cons rfl (fun K hK2 => ?_) AllReadyH.nil
      go_simp
      refine (HDN.out _ (Gr.drew (Gr.refl _))).mono ?_
      rintro e W' ⟨y2, r2, c2, rfl, e1, e2, e3, e4, e5, e6, e7⟩
      have z0 := e7.cell p0
      have z1 := e7.cell p1
      have z2 := e7.cell p2
      have y0 := e7.frozen p0 u0
      have y1 := e7.frozen p1 u1
      have hK3 : W'.heap[Dd]? = some (.deferred (some [])) := (e7.block Dd (Array.getElem?_eq_some_iff.1 hK).1).trans hK
      refine hK2.out _ _ ⟨z0, z2⟩ (fun hS3 => ?_)
      clear hK2
      refine wpAnyH_ready (rs := [6]) (by kernel_rfl) (by simp) ?_
      refine AllReadyH.cons rfl (fun K hK2 => ?_) AllReadyH.nil
      go_simp
      refine hK2.out _ _ ⟨setCell_at z0, setCell_ne (by dsimp only; omega) z2⟩ (fun hS4 => ?_)
      clear hK2
      refine wpAnyH_ready (rs := [7]) (by kernel_rfl) (by simp) ?_
      refine AllReadyH.cons rfl (fun K hK2 => ?_) AllReadyH.nil
      go_simp
      refine hK2.out _ _ ⟨setCell_ne (by dsimp only; omega) hS4.1, setCell_ne (by dsimp only; omega) hS4.2⟩ (fun hS5 => ?_)
      clear hK2
      refine wpAnyH_done (by kernel_rfl) ?_ _
      refine NoPanic.normal ?_
      have hle : w.heap.size + 1 < W.heap.size := World.block_lt_of_cell? W _ p1
      have hle2 : W1.heap.size ≠ w.heap.size := by omega
      have hle3 : W1.heap.size ≠ w.heap.size + 1 := by omega
      have hH : Hid (Hold ((W'.setCell ⟨w.heap.size, 0, none⟩ (.slice (some ⟨W1.heap.size, 0, none⟩) m m)).setCell ⟨w.heap.size + 1, 0, none⟩ (.slice y2 r2.length c2)) W1.heap.size 0 qs) := Lib.hid
        (hold_other (fun e => hle3 e.symm) (hold_other (fun e => hle2 e.symm) (HHQ.out.grow ((Gr.drew (Gr.refl W)).trans e7))))
      have hK4 := (KeepsOthers.setCell W' ⟨w.heap.size, 0, none⟩ (.slice (some ⟨W1.heap.size, 0, none⟩) m m)).same Dd _ hK3 rfl
      have hK5 := (KeepsOthers.setCell _ ⟨w.heap.size + 1, 0, none⟩ (.slice y2 r2.length c2)).same Dd _ hK4 rfl
      have x0 := setCell_ne (p := ⟨w.heap.size + 1, 0, none⟩) (v := .slice y2 r2.length c2) (by dsimp only; omega) (setCell_at (v := .slice (some ⟨W1.heap.size, 0, none⟩) m m) z0)
      have x1 := setCell_at (v := .slice y2 r2.length c2) (setCell_ne (p := ⟨w.heap.size, 0, none⟩) (v := .slice (some ⟨W1.heap.size, 0, none⟩) m m) (by dsimp only; omega) z1)
      have hO2 := Lib.hid (own_set (own_set e6 ⟨w.heap.size, 0, none⟩ (.slice (some ⟨W1.heap.size, 0, none⟩) m m) (show w.heap.size < W.heap.size by omega)) ⟨w.heap.size + 1, 0, none⟩ (.slice y2 r2.length c2) hle)
      have hGF := Lib.hid (((HB.out.drew.trans e7).setCell (p := ⟨w.heap.size, 0, none⟩) (Nat.le_refl _) (.slice (some ⟨W1.heap.size, 0, none⟩) m m)).setCell (p := ⟨w.heap.size + 1, 0, none⟩) (Nat.le_succ _) (.slice y2 r2.length c2))
      have E := Lib.hid (And.intro e1 (And.intro e2 (And.intro e3 (And.intro e4 e5))))
      clear hS hS3 hS4 hS5 z0 z1 z2 y0 y1 e1 e2 e3 e4 e5 e6 e7 hK3 hK4 p0 u0 p1 u1 p2 pX
      go_wp2
      refine ⟨by simp, .inl ⟨_, _, rfl, run_takeDeferred hK5, ?_⟩⟩
      have hc0 := cell_kept x0 (grownBy_putObj' _ Dd (.deferred none)) (fun r e => by cases e; exact ⟨_, hK5, rfl⟩)
      have hc1 := cell_kept x1 (grownBy_putObj' _ Dd (.deferred none)) (fun r e => by cases e; exact ⟨_, hK5, rfl⟩)
      have kp : ∀ (a : Addr) (v : Value), ((W'.setCell ⟨w.heap.size, 0, none⟩ (.slice (some ⟨W1.heap.size, 0, none⟩) m m)).setCell ⟨w.heap.size + 1, 0, none⟩ (.slice y2 r2.length c2)).cell? a = some v → _ ∧ _ := fun a v hv => And.intro
        (cell_kept hv (grownBy_putObj' _ Dd (.deferred none)) (fun r e => by cases e; exact ⟨_, hK5, rfl⟩)) (frozen_kept hv (grownBy_putObj' _ Dd (.deferred none)) (fun r e => by cases e; exact ⟨_, hK5, rfl⟩))
      have KP := Lib.hid kp
      clear kp
      refine ⟨.tuple #[.slice (some ⟨W1.heap.size, 0, none⟩) m m, .slice y2 r2.length c2], by simp [results, Tryd.results108, go_sem, hc0, hc1], ?_⟩
      obtain ⟨e1, e2, e3, e4, e5⟩ := E.out
      rw [HRT.out] at e2
      exact ⟨some ⟨W1.heap.size, 0, none⟩, y2, m, c2, qs, r2, by rw [HQL.out], by rw [HQL.out]; exact Nat.le_refl _, e1, by rw [HQL.out]; omega, by omega, (fun e => by cases e), e3, HQO.out, e4, HQV.out, e5.trans HRV2.out,
        (hold_keep hH.out KP.out).own (by omega), (own_keeps hO2.out KP.out).mono (by have h := hle; exact Nat.le_of_lt (Nat.lt_of_succ_lt h)), gr_trans hGF.out (belowK_b (w := w) (Nat.le_refl _) _ Dd _ _ hDw hK5 rfl rfl)⟩
    case stop =>
      rintro D c pre W _ _ h _
      exact h.elim
end Go.Proofs.YtfompolklkehpaaDoor.Nk
