/- The contracts of package natural said of values: which number, and which error. -/
import Derived.Test.YtiefnhpbniaklaaNdiv
import Derived.Test.YtiefnhpbniaklaaNis
namespace Go.Proofs.Ytiefnhpbniaklaa.Nv
open Go.RowKit Go.Shelf Go.Proofs.Ytiefnhpbniaklaa.Nm Go.Proofs.Ytiefnhpbniaklaa.Ne Go.Proofs.Ytiefnhpbniaklaa.Nf Go.Proofs.Ytiefnhpbniaklaa.Nk

theorem dv {x : Nat} (h : x < pw 64) : decide (valid (digs x)) = true := decide_eq_true ⟨(digs_length_le x 64).2 h, tight_digs x⟩
theorem dv_small {x : Nat} (h : x < 18446744073709551616) : x < pw 64 := by
  have := pw_mono (show 2 ≤ 64 by decide)
  have : pw 2 = 18446744073709551616 := rfl
  omega
/-- What a function that hands back a natural number and an error number has handed back: a number, 0 beside an error. -/
def Gives (z c : Nat) (w : World) (e : Ending) (w' : World) : Prop :=
  ∃ (p : Option Addr) (n cap : Nat), e = .returned (.tuple #[.agg #[.slice p n cap], .int .i64 (c : Int)]) ∧ Nr w.heap.size w' p n cap (digs z) ∧ Gr w w'
theorem gave_gives {z : Nat} {w : World} {e : Ending} {w' : World} (h : Gave z w e w') : Gives z 0 w e w' := by
  obtain ⟨p, n, cap, h1, h2, h3⟩ := h
  exact ⟨p, n, cap, h1, h2, h3⟩
theorem failed_gives {c : Nat} {w : World} {e : Ending} {w' : World} (h : Failed c w e w') : Gives 0 c w e w' := by
  obtain ⟨h1, h2⟩ := h
  exact ⟨none, 0, 0, h1, nr_nil _ _, h2⟩
def Gives2 (x y c : Nat) (w : World) (e : Ending) (w' : World) : Prop :=
  ∃ (p q : Option Addr) (n cap m cap2 : Nat), e = .returned (.tuple #[.agg #[.slice p n cap], .agg #[.slice q m cap2], .int .i64 (c : Int)]) ∧ Nr w.heap.size w' p n cap (digs x) ∧ Nr w.heap.size w' q m cap2 (digs y) ∧ Gr w w'
theorem gave_gives2 {x y : Nat} {w : World} {e : Ending} {w' : World} (h : DivGave x y w e w') : Gives2 x y 0 w e w' := by
  obtain ⟨p, q, n, cap, m, cap2, h1, h2, h3, h4⟩ := h
  exact ⟨p, q, n, cap, m, cap2, h1, h2, h3, h4⟩
theorem failed_gives2 {c : Nat} {w : World} {e : Ending} {w' : World} (h : DivFailed c w e w') : Gives2 0 0 c w e w' := by
  obtain ⟨h1, h2⟩ := h
  exact ⟨none, none, 0, 0, 0, 0, h1, nr_nil _ _, nr_nil _ _, h2⟩

/-- z with error c is what op has given for a result x that may be too great. -/
def Fits (x z c : Nat) : Prop := x < pw 64 ∧ z = x ∧ c = 0 ∨ pw 64 ≤ x ∧ z = 0 ∧ c = 9
theorem fits_ex (x : Nat) : ∃ z c, Fits x z c := by
  rcases Nat.lt_or_ge x (pw 64) with h | h
  · exact ⟨x, 0, .inl ⟨h, rfl, rfl⟩⟩
  · exact ⟨0, 9, .inr ⟨h, rfl, rfl⟩⟩
theorem Fits.lt {x z c : Nat} (h : Fits x z c) : z < pw 64 := by
  rcases h with ⟨h, rfl, _⟩ | ⟨_, rfl, _⟩
  · exact h
  · exact pw_pos _
theorem Fits.code {x z c : Nat} (h : Fits x z c) : c = 0 ∨ c = 9 := by
  rcases h with ⟨_, _, h⟩ | ⟨_, _, h⟩
  · exact .inl h
  · exact .inr h
theorem Fits.ok {x z : Nat} (h : Fits x z 0) : z = x ∧ x < pw 64 := by
  rcases h with ⟨h, h1, _⟩ | ⟨_, _, h⟩
  · exact ⟨h1, h⟩
  · cases h
theorem Fits.of {x z c : Nat} (h : Fits x z c) (hx : x < pw 64) : z = x ∧ c = 0 := by
  rcases h with ⟨_, h1, h2⟩ | ⟨h, _⟩
  · exact ⟨h1, h2⟩
  · omega
theorem Fits.big {x z c : Nat} (h : Fits x z c) (hc : c ≠ 0) : z = 0 ∧ c = 9 ∧ pw 64 ≤ x := by
  rcases h with ⟨_, _, h2⟩ | ⟨h, h1, h2⟩
  · exact absurd h2 hc
  · exact ⟨h1, h2, h⟩

section
variable {p q : Option Addr} {n m c d x y : Nat} {w : World}
theorem Add_v (z e : Nat) (hS : Fits (x + y) z e) (hl : Nw w p n c (digs x)) (hk : Nw w q m d (digs y)) (hx : x < pw 64) (hy : y < pw 64) :
    Calls Try.prog 33 #[.agg #[.slice p n c], .agg #[.slice q m d]] w (Gives z e w) := by
  rcases hS with ⟨h, rfl, rfl⟩ | ⟨h, rfl, rfl⟩
  · exact (Add_ok p q n m c d _ _ w hl hk (dv hx) (dv hy) (by rw [val_digs, val_digs]; exact h)).mono fun e w' hg => gave_gives (by rw [val_digs, val_digs] at hg; exact hg)
  · exact (Add_big p q n m c d _ _ w hl hk (dv hx) (dv hy) (by rw [val_digs, val_digs]; exact h)).mono fun e w' hg => failed_gives hg
theorem Mul_v (z e : Nat) (hS : Fits (x * y) z e) (hl : Nw w p n c (digs x)) (hk : Nw w q m d (digs y)) (hx : x < pw 64) (hy : y < pw 64) :
    Calls Try.prog 39 #[.agg #[.slice p n c], .agg #[.slice q m d]] w (Gives z e w) := by
  rcases hS with ⟨h, rfl, rfl⟩ | ⟨h, rfl, rfl⟩
  · exact (Mul_ok p q n m c d _ _ w hl hk (dv hx) (dv hy) (by rw [val_digs, val_digs]; exact h)).mono fun e w' hg => gave_gives (by rw [val_digs, val_digs] at hg; exact hg)
  · exact (Mul_big p q n m c d _ _ w hl hk (dv hx) (dv hy) (by rw [val_digs, val_digs]; exact h)).mono fun e w' hg => failed_gives hg
theorem Sub_v (h : y ≤ x) (hl : Nw w p n c (digs x)) (hk : Nw w q m d (digs y)) (hx : x < pw 64) (hy : y < pw 64) :
    Calls Try.prog 34 #[.agg #[.slice p n c], .agg #[.slice q m d]] w (Gives (x - y) 0 w) :=
  (Sub_ok p q n m c d _ _ w hl hk (dv hx) (dv hy) (by rw [val_digs, val_digs]; exact h)).mono fun e w' hg => gave_gives (by rw [val_digs, val_digs] at hg; exact hg)
theorem Sub_v_neg (h : x < y) (hl : Nw w p n c (digs x)) (hk : Nw w q m d (digs y)) (hx : x < pw 64) (hy : y < pw 64) :
    Calls Try.prog 34 #[.agg #[.slice p n c], .agg #[.slice q m d]] w (Gives 0 2 w) :=
  (Sub_neg p q n m c d _ _ w hl hk (dv hx) (dv hy) (by rw [val_digs, val_digs]; exact h)).mono fun e w' hg => failed_gives hg
theorem Of_v (h : x < 9223372036854775808) : Calls Try.prog 23 #[.int .i64 x] w (Gives x 0 w) :=
  (Of_ok x h w).mono fun _ _ => gave_gives
theorem Div_v (h : 0 < y) (hl : Nw w p n c (digs x)) (hk : Nw w q m d (digs y)) (hx : x < pw 64) (hy : y < pw 64) :
    Calls Try.prog 40 #[.agg #[.slice p n c], .agg #[.slice q m d]] w (Gives2 (x / y) (x % y) 0 w) := by
  rcases Nat.lt_or_ge x y with h1 | h1
  · rw [Nat.div_eq_of_lt h1, Nat.mod_eq_of_lt h1]
    exact (Div_less p q n m c d _ _ w hl hk (dv hx) (dv hy) (by rw [val_digs, val_digs]; exact h1)).mono fun e w' hg => gave_gives2 (by rw [val_digs] at hg; exact hg)
  · have hm : 0 < m := by
      rcases Nat.eq_zero_or_pos m with h0 | h0
      · exfalso
        have := hk.len
        rw [h0] at this
        have e := val_digs y
        rw [List.eq_nil_of_length_eq_zero this] at e
        have : val [] = 0 := rfl
        omega
      · exact h0
    exact (Div_ok p q n m c d _ _ w hl hk (dv hx) (dv hy) hm (by rw [val_digs, val_digs]; exact h1)).mono fun e w' hg => gave_gives2 (by rw [val_digs, val_digs] at hg; exact hg)
theorem Div_v_zero (hl : Nw w p n c (digs x)) (hk : Nw w q m d (digs 0)) (hx : x < pw 64) :
    Calls Try.prog 40 #[.agg #[.slice p n c], .agg #[.slice q m d]] w (Gives2 0 0 10 w) := by
  rw [digs_zero] at hk
  have hm : 0 = m := hk.len
  subst hm
  exact (Div_zero p q n c d _ w hl hk (dv hx)).mono fun _ _ => failed_gives2
theorem Compare_v (hl : Nw w p n c (digs x)) (hk : Nw w q m d (digs y)) (hx : x < pw 64) (hy : y < pw 64) :
    Calls Try.prog 35 #[.agg #[.slice p n c], .agg #[.slice q m d]] w fun e w' => e = .returned (.int .i64 (ord x y)) ∧ Gr w w' :=
  (Compare_ok p q n m c d _ _ w hl hk (dv hx) (dv hy)).mono fun e w' hg => by rw [val_digs, val_digs] at hg; exact hg
theorem Same_v (hl : Nw w p n c (digs x)) (hk : Nw w q m d (digs y)) :
    Calls Try.prog 42 #[.agg #[.slice p n c], .agg #[.slice q m d]] w fun e w' => e = .returned (.bool (decide (x = y))) ∧ Gr w w' :=
  (same_any p q n m c d _ _ w hl hk).mono fun e w' hg => by
    rw [show decide (digs x = digs y) = decide (x = y) from decide_eq_decide.2 digs_inj] at hg; exact hg
theorem Same_v_eq (h : x = y) (hl : Nw w p n c (digs x)) (hk : Nw w q m d (digs y)) :
    Calls Try.prog 42 #[.agg #[.slice p n c], .agg #[.slice q m d]] w fun e w' => e = .returned (.bool true) ∧ Gr w w' :=
  (Same_v hl hk).mono fun e w' hg => by rw [decide_eq_true h] at hg; exact hg
theorem Valid_v (hl : Nw w p n c (digs x)) (hx : x < pw 64) :
    Calls Try.prog 25 #[.agg #[.slice p n c]] w fun e w' => e = .returned (.bool true) ∧ Gr w w' :=
  (Valid_n p n c _ w hl).mono fun e w' hg => by rw [dv hx] at hg; exact hg
/-- The number of bits. -/
def nb (x : Nat) : Nat := nbits (digs x)
theorem nb_le (x k : Nat) : nb x ≤ k ↔ x < 2 ^ k := by
  have := nbits_le (ok_digs x) (tight_digs x) k
  rwa [val_digs] at this
theorem Bits_v (hl : Nw w p n c (digs x)) (hx : x < pw 64) :
    Calls Try.prog 28 #[.agg #[.slice p n c]] w fun e w' => e = .returned (.int .i64 (nb x)) ∧ Gr w w' :=
  Bits_n p n c _ w hl (dv hx)
theorem Bit_v (i : Nat) (hi : i < 9223372036854775808) (hl : Nw w p n c (digs x)) (hx : x < pw 64) :
    Calls Try.prog 29 #[.agg #[.slice p n c], .int .i64 i] w fun e w' => e = .returned (.bool (x.testBit i)) ∧ Gr w w' :=
  (Bit_ok p n c _ i w hl (dv hx) hi).mono fun e w' hg => by rw [val_digs] at hg; exact hg
theorem Int_v (h : x < 9223372036854775808) (hl : Nw w p n c (digs x)) :
    Calls Try.prog 24 #[.agg #[.slice p n c]] w fun e w' => e = .returned (.tuple #[.int .i64 x, .int .i64 0]) ∧ Gr w w' := by
  have hb : nbits (digs x) ≤ 63 := (nb_le x 63).2 (by omega)
  exact (Int_ok p n c _ w hl (dv (dv_small (by omega))) (by omega)).mono fun e w' hg => by rw [val_digs] at hg; exact hg
theorem Up_v (z e N : Nat) (hN : N ≤ 10000) (hS : Fits (x * 2 ^ N) z e) (hl : Nw w p n c (digs x)) (hx : x < pw 64) :
    Calls Try.prog 41 #[.agg #[.slice p n c], .int .i64 (N : Int)] w (Gives z e w) := by
  rcases hS with ⟨h, rfl, rfl⟩ | ⟨h, rfl, rfl⟩
  · exact (Shift_up p n c _ N hN (dv hx) (by rw [val_digs]; exact h) w hl).mono fun e w' hg => gave_gives (by rw [val_digs] at hg; exact hg)
  · exact (Shift_big p n c _ N hN (dv hx) (by rw [val_digs]; exact h) w hl).mono fun e w' hg => failed_gives hg
theorem Down_v (N : Nat) (hN : N ≤ 10000) (hl : Nw w p n c (digs x)) (hx : x < pw 64) :
    Calls Try.prog 41 #[.agg #[.slice p n c], .int .i64 (-(N : Int))] w (Gives (x / 2 ^ N) 0 w) := by
  rcases Nat.eq_zero_or_pos N with h0 | h0
  · subst h0
    have := Up_v (w := w) x 0 0 hN (.inl ⟨by simpa using hx, by simp, rfl⟩) hl hx
    simpa using this
  · exact (Shift_down p n c _ N hN h0 (dv hx) w hl).mono fun e w' hg => gave_gives (by rw [val_digs] at hg; exact hg)
end

/-- A valid argument is a value. -/
theorem nw_value {w : World} {p : Option Addr} {n c : Nat} {l : List Nat} (h : Nw w p n c l) (hv : decide (valid l) = true) : ∃ x, x < pw 64 ∧ l = digs x := by
  have hv' : valid l := of_decide_eq_true hv
  refine ⟨val l, Nat.lt_of_lt_of_le (val_lt h.ok) (pw_mono hv'.1), (digs_val h.ok hv'.2).symm⟩

/-- A slice that has been written out. -/
theorem nw_lit {w : World} {b n : Nat} {l : List Nat} (en : l.length = n) (hok : ok l) (hs : n ≤ 1048576) (hc : ∀ i, i < n → w.cell? ⟨b, i, none⟩ = some (.int .u32 ((l[i]?.getD 0 : Nat) : Int))) : Nw w (some ⟨b, 0, none⟩) n n l :=
  ⟨en, Nat.le_refl _, (fun e => by cases e), .inr ⟨b, 0, rfl, fun i hi => by rw [Nat.zero_add]; exact hc i (by omega)⟩, hok, hs⟩
/-- great, where no number is, and where one is. -/
theorem great_no {b n c : Nat} {xs : List (Option Addr × Nat × Nat)} {w : World} (ex : xs.length = n) (hn : n ≤ 1000) (h : Nats w b 0 xs) (hs : ∀ i, i < xs.length → (xs[i]?.getD (none, 0, 0)).2.1 ≤ 100) :
    Calls Try.prog 21 #[.slice (some ⟨b, 0, none⟩) n c] w fun e w' => e = .returned (.bool false) ∧ Gr w w' := by
  refine (great_any b 0 n c xs ex hn w h).mono ?_
  rintro e w' ⟨⟨v, rfl, hv⟩, hg⟩
  refine ⟨?_, hg⟩
  cases v with
  | false => rfl
  | true =>
    obtain ⟨j, h1, h2⟩ := hv.1 rfl
    have := hs j h1
    omega
theorem great_yes {b n c : Nat} {xs : List (Option Addr × Nat × Nat)} {w : World} (ex : xs.length = n) (hn : n ≤ 1000) (h : Nats w b 0 xs) (hs : ∃ i, i < xs.length ∧ 100 < (xs[i]?.getD (none, 0, 0)).2.1) :
    Calls Try.prog 21 #[.slice (some ⟨b, 0, none⟩) n c] w fun e w' => e = .returned (.bool true) ∧ Gr w w' := by
  refine (great_any b 0 n c xs ex hn w h).mono ?_
  rintro e w' ⟨⟨v, rfl, hv⟩, hg⟩
  exact ⟨by rw [hv.2 hs], hg⟩
end Go.Proofs.Ytiefnhpbniaklaa.Nv
