/- The walk of NaturalInts: Valid, Of, Int, Bits and Bit return what is specified. -/
import Derived.Test.YtiefnhpbniaklaaNpre
import Derived.Test.YtiefnhpbniaklaaNrcmp
namespace Go.Proofs.Ytiefnhpbniaklaa.Nlints
open Go.RowKit Go.Shelf Go.Proofs.Ytiefnhpbniaklaa.Nm Go.Proofs.Ytiefnhpbniaklaa.Ne Go.Proofs.Ytiefnhpbniaklaa.Nf Go.Proofs.Ytiefnhpbniaklaa.Nk Go.Proofs.Ytiefnhpbniaklaa.Nv Go.Proofs.Ytiefnhpbniaklaa.Nl Go.Proofs.Ytiefnhpbniaklaa.Nr2

/-- is, at the same number and the same error. -/
theorem is_lit (f : Nat) (E : Int) (hE : E = f) (hf : f < 1000) {p q : Option Addr} {n m c d x : Nat} {w : World} (hl : Nw w p n c (digs x)) (hk : Nw w q m d (digs x)) :
    Calls Try.prog 26 #[.agg #[.slice p n c], .int .i64 E, .agg #[.slice q m d], .int .i64 E] w fun r w' => r = .returned (.bool true) ∧ Gr w w' := by
  subst hE
  have := is_any p q n m c d f f _ _ w hf hf hl hk
  rwa [decide_eq_true (show f = f ∧ digs x = digs x from ⟨rfl, rfl⟩)] at this
/-- What Int hands back. -/
def IntR (l : List Nat) (v e : Nat) : Prop := decide (valid l) = false ∧ v = 0 ∧ e = 1 ∨ decide (valid l) = true ∧ val l < 9223372036854775808 ∧ v = val l ∧ e = 0 ∨ decide (valid l) = true ∧ 9223372036854775808 ≤ val l ∧ v = 0 ∧ e = 9
theorem int_ex {w : World} {p : Option Addr} {n c : Nat} {l : List Nat} (h : Nw w p n c l) :
    ∃ v e : Nat, IntR l v e ∧ ∀ W, Gr w W → Calls Try.prog 24 #[.agg #[.slice p n c]] W fun r w' => r = .returned (.tuple #[.int .i64 (v : Int), .int .i64 (e : Int)]) ∧ Gr W w' := by
  cases va : decide (valid l) with
  | false => exact ⟨0, 1, .inl ⟨va, rfl, rfl⟩, fun W hW => Int_bad p n c l W (h.grow hW) va⟩
  | true =>
    have hb := nbits_le h.ok (of_decide_eq_true va).2 63
    rcases Nat.lt_or_ge (val l) 9223372036854775808 with hx | hx
    · exact ⟨val l, 0, .inr (.inl ⟨va, hx, rfl, rfl⟩), fun W hW => Int_ok p n c l W (h.grow hW) va (by have := hb.2 (by omega); omega)⟩
    · exact ⟨0, 9, .inr (.inr ⟨va, hx, rfl, rfl⟩), fun W hW => Int_big p n c l W (h.grow hW) va (by
        apply Nat.lt_of_not_le
        intro hh
        have := hb.1 hh
        omega)⟩
theorem valid_ex {w : World} {p : Option Addr} {n c : Nat} {l : List Nat} (h : Nw w p n c l) (v : Bool) (hv : decide (valid l) = v) :
    (∀ W, Gr w W → Calls Try.prog 25 #[.agg #[.slice p n c]] W fun e w' => e = .returned (.bool v) ∧ Gr W w') ∧
    (∀ W, Gr w W → Calls Try.prog 22 #[.agg #[.slice p n c]] W fun e w' => e = .returned (.bool v) ∧ Gr W w') := by
  subst hv
  exact ⟨fun W hW => Valid_n p n c l W (h.grow hW), fun W hW => refvalid_any p n c l W (h.grow hW)⟩
theorem bits_bad {w : World} {p : Option Addr} {n c : Nat} {l : List Nat} (h : Nw w p n c l) (hv : decide (valid l) = false) :
    Calls Try.prog 28 #[.agg #[.slice p n c]] w fun e w' => e = .returned (.int .i64 0) ∧ Gr w w' := Bits_bad_n p n c l w h hv
/-- Bit, at whatever index. -/
theorem bit_any {w : World} {p : Option Addr} {n c x : Nat} (i : Int) (hi : i < 9223372036854775808) (h : Nw w p n c (digs x)) (hx : x < pw 64) :
    ∃ t : Bool, (∀ W, Gr w W → Calls Try.prog 29 #[.agg #[.slice p n c], .int .i64 i] W fun e w' => e = .returned (.bool t) ∧ Gr W w') ∧
      (∀ W, Gr w W → Calls Try.prog 31 #[.agg #[.slice p n c], .int .i64 i] W fun e w' => e = .returned (.bool t) ∧ Gr W w') := by
  rcases Int.lt_or_le i 0 with h0 | h0
  · exact ⟨false, fun W hW => Bit_neg p n c _ i h0 W (h.grow hW) (dv hx), fun W hW => rbit_out p n c i W (.inl h0) h.small⟩
  · obtain ⟨i, rfl⟩ := Int.eq_ofNat_of_zero_le h0
    exact ⟨x.testBit i, fun W hW => Bit_v i (by omega) (h.grow hW) hx, fun W hW => rbit_v p n c i x W (h.grow hW)⟩
theorem i64_bounds {a : Int} (h : (Lit.int .i64 a).wf = true) : -9223372036854775808 ≤ a ∧ a < 9223372036854775808 := by
  simp [Lit.wf, IntKind.min, IntKind.max, IntKind.signed, IntKind.bits] at h
  omega
end Go.Proofs.Ytiefnhpbniaklaa.Nlints
