/- The contracts of package natural for whatever numbers: some number, and some error; and words of the call's own that are counted up. -/
import Derived.Test.YtiefnhpbniaklaaNpre
namespace Go.Proofs.Ytiefnhpbniaklaa.Nv
open Go.RowKit Go.Shelf Go.Proofs.Ytiefnhpbniaklaa.Nm Go.Proofs.Ytiefnhpbniaklaa.Ne Go.Proofs.Ytiefnhpbniaklaa.Nf Go.Proofs.Ytiefnhpbniaklaa.Nk Go.Proofs.Ytiefnhpbniaklaa.Nl

def Some1 (w : World) (e : Ending) (w' : World) : Prop := ∃ z c, Gives z c w e w'
def Some2 (w : World) (e : Ending) (w' : World) : Prop := ∃ x y c, Gives2 x y c w e w'
section
variable {p q : Option Addr} {n m c d : Nat} {l k : List Nat} {w : World}
theorem Add_any (hl : Nw w p n c l) (hk : Nw w q m d k) : Calls Try.prog 33 #[.agg #[.slice p n c], .agg #[.slice q m d]] w (Some1 w) := by
  cases va : decide (valid l) with
  | false => exact (Add_bad p q n m c d l k w hl hk (.inl va)).mono fun e w' h => ⟨_, _, failed_gives h⟩
  | true =>
    cases vb : decide (valid k) with
    | false => exact (Add_bad p q n m c d l k w hl hk (.inr vb)).mono fun e w' h => ⟨_, _, failed_gives h⟩
    | true =>
      obtain ⟨x, hx, rfl⟩ := nw_value hl va
      obtain ⟨y, hy, rfl⟩ := nw_value hk vb
      obtain ⟨z, e, hf⟩ := fits_ex (x + y)
      exact (Add_v z e hf hl hk hx hy).mono fun e w' h => ⟨_, _, h⟩
theorem Sub_any (hl : Nw w p n c l) (hk : Nw w q m d k) : Calls Try.prog 34 #[.agg #[.slice p n c], .agg #[.slice q m d]] w (Some1 w) := by
  cases va : decide (valid l) with
  | false => exact (Sub_bad p q n m c d l k w hl hk (.inl va)).mono fun e w' h => ⟨_, _, failed_gives h⟩
  | true =>
    cases vb : decide (valid k) with
    | false => exact (Sub_bad p q n m c d l k w hl hk (.inr vb)).mono fun e w' h => ⟨_, _, failed_gives h⟩
    | true =>
      obtain ⟨x, hx, rfl⟩ := nw_value hl va
      obtain ⟨y, hy, rfl⟩ := nw_value hk vb
      rcases Nat.lt_or_ge x y with h | h
      · exact (Sub_v_neg h hl hk hx hy).mono fun e w' h => ⟨_, _, h⟩
      · exact (Sub_v h hl hk hx hy).mono fun e w' h => ⟨_, _, h⟩
theorem Mul_any (hl : Nw w p n c l) (hk : Nw w q m d k) : Calls Try.prog 39 #[.agg #[.slice p n c], .agg #[.slice q m d]] w (Some1 w) := by
  cases va : decide (valid l) with
  | false => exact (Mul_bad p q n m c d l k w hl hk (.inl va)).mono fun e w' h => ⟨_, _, failed_gives h⟩
  | true =>
    cases vb : decide (valid k) with
    | false => exact (Mul_bad p q n m c d l k w hl hk (.inr vb)).mono fun e w' h => ⟨_, _, failed_gives h⟩
    | true =>
      obtain ⟨x, hx, rfl⟩ := nw_value hl va
      obtain ⟨y, hy, rfl⟩ := nw_value hk vb
      obtain ⟨z, e, hf⟩ := fits_ex (x * y)
      exact (Mul_v z e hf hl hk hx hy).mono fun e w' h => ⟨_, _, h⟩
theorem Div_any (hl : Nw w p n c l) (hk : Nw w q m d k) : Calls Try.prog 40 #[.agg #[.slice p n c], .agg #[.slice q m d]] w (Some2 w) := by
  cases va : decide (valid l) with
  | false => exact (Div_bad p q n m c d l k w hl hk (.inl va)).mono fun e w' h => ⟨_, _, _, failed_gives2 h⟩
  | true =>
    cases vb : decide (valid k) with
    | false => exact (Div_bad p q n m c d l k w hl hk (.inr vb)).mono fun e w' h => ⟨_, _, _, failed_gives2 h⟩
    | true =>
      obtain ⟨x, hx, rfl⟩ := nw_value hl va
      obtain ⟨y, hy, rfl⟩ := nw_value hk vb
      rcases Nat.eq_zero_or_pos y with h | h
      · subst h; exact (Div_v_zero hl hk hx).mono fun e w' h => ⟨_, _, _, h⟩
      · exact (Div_v h hl hk hx hy).mono fun e w' h => ⟨_, _, _, h⟩
theorem Shift0_any (hl : Nw w p n c l) : Calls Try.prog 41 #[.agg #[.slice p n c], .int .i64 0] w (Some1 w) := by
  cases va : decide (valid l) with
  | false => exact (Shift_bad p n c l 0 va w hl).mono fun e w' h => ⟨_, _, failed_gives h⟩
  | true =>
    obtain ⟨x, hx, rfl⟩ := nw_value hl va
    have := Up_v (w := w) x 0 0 (by decide) (.inl ⟨by simpa using hx, by simp, rfl⟩) hl hx
    exact Calls.mono (by simpa using this) fun e w' h => ⟨_, _, h⟩
end

/-- Words of the call's own, in blocks from B up to L, whatever their values. -/
def OwnU (B L : Nat) (w : World) (p : Option Addr) (n : Nat) : Prop :=
  n = 0 ∨ ∃ b off, p = some ⟨b, off, none⟩ ∧ B ≤ b ∧ b < L ∧ ∀ j, j < n → (∃ v : Int, w.cell? ⟨b, off + j, none⟩ = some (.int .u32 v)) ∧ w.frozen? ⟨b, off + j, none⟩ = false
theorem OwnU.of {B : Nat} {w : World} {p : Option Addr} {n c : Nat} {l : List Nat} (h : Nr B w p n c l) : OwnU B w.heap.size w p n := by
  rcases h.own with h0 | ⟨b, off, rfl, hb, hc⟩
  · left; rw [← h.len, h0]; rfl
  · rcases Nat.eq_zero_or_pos n with h0 | h0
    · exact .inl h0
    · have h1 := World.block_lt_of_cell? w _ (hc 0 (by rw [h.len]; exact h0)).1
      exact .inr ⟨b, off, rfl, hb, h1, fun j hj => ⟨⟨_, (hc j (by rw [h.len]; exact hj)).1⟩, (hc j (by rw [h.len]; exact hj)).2⟩⟩
theorem OwnU.set {B L : Nat} {w : World} {p : Option Addr} {n : Nat} (h : OwnU B L w p n) (a : Addr) (v : Int) : OwnU B L (w.setCell a (.int .u32 v)) p n := by
  rcases h with h0 | ⟨b, off, rfl, hb, hl, hc⟩
  · exact .inl h0
  · refine .inr ⟨b, off, rfl, hb, hl, fun j hj => ⟨?_, by rw [World.frozen?_setCell]; exact (hc j hj).2⟩⟩
    by_cases e : (⟨b, off + j, none⟩ : Addr) = a
    · subst e
      obtain ⟨u, hu⟩ := (hc j hj).1
      exact ⟨v, World.cell?_setCell_same' _ _ _ (by rw [hu]; rfl)⟩
    · obtain ⟨u, hu⟩ := (hc j hj).1
      exact ⟨u, by rw [World.cell?_setCell_other _ _ _ _ (fun h => e h.symm)]; exact hu⟩
theorem OwnU.grow {B L : Nat} {w w' : World} {p : Option Addr} {n : Nat} (h : OwnU B L w p n) (g : Gr w w') : OwnU B L w' p n := by
  rcases h with h0 | ⟨b, off, rfl, hb, hl, hc⟩
  · exact .inl h0
  · refine .inr ⟨b, off, rfl, hb, hl, fun j hj => ?_⟩
    obtain ⟨⟨u, hu⟩, hf⟩ := hc j hj
    exact ⟨⟨u, g.cell hu⟩, g.frozen hu hf⟩

/-- What holds between two rounds of counting up. -/
structure OInv (wc : World) (L : Nat) (xs : List (Option Addr × Nat × Nat)) (W : World) : Prop where
  below : Below wc.heap.size wc W
  list : Nats W L 0 xs
  own : ∀ x ∈ xs, OwnU wc.heap.size L W x.1 x.2.1
  lt : L < W.heap.size
theorem OInv.alloc {wc : World} {L : Nat} {xs : List (Option Addr × Nat × Nat)} {W : World} (h : OInv wc L xs W) (o : Obj) : OInv wc L xs (W.alloc o) :=
  ⟨h.below.alloc h.below.size o, fun i hi => ((Gr.refl W).alloc o).cell (h.list i hi), fun x hx => (h.own x hx).grow ((Gr.refl W).alloc o), by rw [World.size_alloc]; exact Nat.lt_succ_of_lt h.lt⟩
theorem OInv.set {wc : World} {L : Nat} {xs : List (Option Addr × Nat × Nat)} {W : World} (h : OInv wc L xs W) (b i : Nat) (hb : wc.heap.size ≤ b) (hl : b < L) (v : Int) : OInv wc L xs (W.setCell ⟨b, i, none⟩ (.int .u32 v)) :=
  ⟨Below.setCell h.below hb _, fun j hj => by rw [World.cell?_setCell_other _ _ _ _ (by intro e; injection e with e1; omega)]; exact h.list j hj, fun x hx => (h.own x hx).set _ _, by simpa [World.setCell] using h.lt⟩
theorem OInv.drew {wc : World} {L : Nat} {xs : List (Option Addr × Nat × Nat)} {W : World} (h : OInv wc L xs W) : OInv wc L xs W.drew := ⟨h.below.drew, h.list, h.own, h.lt⟩
theorem OInv.drewN {wc : World} {L : Nat} {xs : List (Option Addr × Nat × Nat)} {W : World} (h : OInv wc L xs W) (n : Nat) : OInv wc L xs (W.drewN n) := ⟨⟨h.below.os, h.below.tape, h.below.output, h.below.size, h.below.block⟩, h.list, h.own, h.lt⟩
end Go.Proofs.Ytiefnhpbniaklaa.Nv
