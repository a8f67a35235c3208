/- What every law over natural numbers begins with: the examples, the list of its arguments, whether they are great, whether they are valid. -/
import Derived.Test.YtiefnhpbniaklaaNawake
import Derived.Test.YtiefnhpbniaklaaNlaw
namespace Go.Proofs.Ytiefnhpbniaklaa.Nv
open Go.RowKit Go.Shelf Go.Proofs.Ytiefnhpbniaklaa.Nm Go.Proofs.Ytiefnhpbniaklaa.Ne Go.Proofs.Ytiefnhpbniaklaa.Nf Go.Proofs.Ytiefnhpbniaklaa.Nk Go.Proofs.Ytiefnhpbniaklaa.Nl

/-- The list of arguments that great is handed. -/
theorem nats1 (w : World) (p : Option Addr) (n c : Nat) : Nats (w.alloc (.cells #[.slice p n c] 24)) w.heap.size 0 [(p, n, c)] := by
  intro i hi
  match i, hi with
  | 0, _ => simp [go_sem]
theorem nats2 (w : World) (p q : Option Addr) (n c m d : Nat) : Nats (w.alloc (.cells #[.slice p n c, .slice q m d] 24)) w.heap.size 0 [(p, n, c), (q, m, d)] := by
  intro i hi
  match i, hi with
  | 0, _ => simp [go_sem]
  | 1, _ => simp [go_sem]
theorem nats3 (w : World) (p q r : Option Addr) (n c m d k e : Nat) : Nats (w.alloc (.cells #[.slice p n c, .slice q m d, .slice r k e] 24)) w.heap.size 0 [(p, n, c), (q, m, d), (r, k, e)] := by
  intro i hi
  match i, hi with
  | 0, _ => simp [go_sem]
  | 1, _ => simp [go_sem]
  | 2, _ => simp [go_sem]
theorem le1 {p : Option Addr} {n c : Nat} (h : n ≤ 100) : ∀ i, i < [(p, n, c)].length → ([(p, n, c)][i]?.getD (none, 0, 0)).2.1 ≤ 100 := by
  intro i hi
  match i, hi with
  | 0, _ => exact h
theorem le2 {p q : Option Addr} {n c m d : Nat} (h : n ≤ 100) (h2 : m ≤ 100) : ∀ i, i < [(p, n, c), (q, m, d)].length → ([(p, n, c), (q, m, d)][i]?.getD (none, 0, 0)).2.1 ≤ 100 := by
  intro i hi
  match i, hi with
  | 0, _ => exact h
  | 1, _ => exact h2
theorem le3 {p q r : Option Addr} {n c m d k e : Nat} (h : n ≤ 100) (h2 : m ≤ 100) (h3 : k ≤ 100) : ∀ i, i < [(p, n, c), (q, m, d), (r, k, e)].length → ([(p, n, c), (q, m, d), (r, k, e)][i]?.getD (none, 0, 0)).2.1 ≤ 100 := by
  intro i hi
  match i, hi with
  | 0, _ => exact h
  | 1, _ => exact h2
  | 2, _ => exact h3
theorem gt1 {p : Option Addr} {n c : Nat} (h : 100 < n) : ∃ i, i < [(p, n, c)].length ∧ 100 < ([(p, n, c)][i]?.getD (none, 0, 0)).2.1 := ⟨0, by simp, h⟩
theorem gt2 {p q : Option Addr} {n c m d : Nat} (h : 100 < n ∨ 100 < m) : ∃ i, i < [(p, n, c), (q, m, d)].length ∧ 100 < ([(p, n, c), (q, m, d)][i]?.getD (none, 0, 0)).2.1 := by
  rcases h with h | h
  · exact ⟨0, by simp, h⟩
  · exact ⟨1, by simp, h⟩
theorem gt3 {p q r : Option Addr} {n c m d k e : Nat} (h : 100 < n ∨ 100 < m ∨ 100 < k) : ∃ i, i < [(p, n, c), (q, m, d), (r, k, e)].length ∧ 100 < ([(p, n, c), (q, m, d), (r, k, e)][i]?.getD (none, 0, 0)).2.1 := by
  rcases h with h | h | h
  · exact ⟨0, by simp, h⟩
  · exact ⟨1, by simp, h⟩
  · exact ⟨2, by simp, h⟩
/-- The reference's Valid. -/
theorem RValid_v {p : Option Addr} {n c x : Nat} {w : World} (hl : Nw w p n c (digs x)) (hx : x < pw 64) :
    Calls Try.prog 22 #[.agg #[.slice p n c]] w fun e w' => e = .returned (.bool true) ∧ Gr w w' :=
  (refvalid_any p n c _ w hl).mono fun e w' hg => by rw [dv hx] at hg; exact hg
theorem RValid_no {p : Option Addr} {n c : Nat} {l : List Nat} {w : World} (hl : Nw w p n c l) (hx : decide (valid l) = false) :
    Calls Try.prog 22 #[.agg #[.slice p n c]] w fun e w' => e = .returned (.bool false) ∧ Gr w w' :=
  (refvalid_any p n c _ w hl).mono fun e w' hg => by rw [hx] at hg; exact hg
end Go.Proofs.Ytiefnhpbniaklaa.Nv
