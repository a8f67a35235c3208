/- A list of words that a loop builds by append: what holds between two rounds. -/
import Derived.Test.YtiefnhpbniaklaaNrcmp
import Derived.Deep.Onto
namespace Go.Proofs.Ytiefnhpbniaklaa.Nr2
open Go.RowKit Go.Shelf Go.Proofs.Ytiefnhpbniaklaa.Nm Go.Proofs.Ytiefnhpbniaklaa.Ne Go.Proofs.Ytiefnhpbniaklaa.Nf Go.Proofs.Ytiefnhpbniaklaa.Nk Go.Proofs.Ytiefnhpbniaklaa.Nv

/-- The slice v holds the words r, in a block of its own that is younger than W0; what was in W0 is there. -/
def Bld (W0 : World) (v : Value) (r : List Nat) (w : World) : Prop :=
  (∃ p cap, v = .slice p r.length cap) ∧ w.ownsRow W0.heap.size 62 1 v r.length (cw r) ∧ Below W0.heap.size W0 w
theorem Bld.start (W0 : World) : Bld W0 (.slice none 0 0) [] W0 := ⟨⟨none, 0, rfl⟩, ⟨by simp [cw], .inl ⟨rfl, rfl⟩⟩, Below.refl _ _⟩
theorem ownsRow_below {w w' : World} {B : Nat} {e : TypeId} {s n : Nat} {v : Value} {xs : List Value} (h : w.ownsRow B e s v n xs) (g : Gr w w') : w'.ownsRow B e s v n xs := by
  refine ⟨h.1, ?_⟩
  rcases h.2 with h0 | ⟨b, cap, cur, h1, h2, h3, h4⟩
  · exact .inl h0
  · refine .inr ⟨b, cap, cur, h1, h2, ?_, h4⟩
    rw [g.block b (Array.getElem?_eq_some_iff.1 h3).1]
    exact h3
theorem Bld.grow {W0 w w' : World} {v : Value} {r : List Nat} (h : Bld W0 v r w) (g : Gr w w') : Bld W0 v r w' :=
  ⟨h.1, ownsRow_below h.2.1 g, Below.trans h.2.2 (Below.mono g h.2.2.size)⟩
theorem Bld.cell {W0 w : World} {v : Value} {r : List Nat} (h : Bld W0 v r w) {a : Addr} {u : Value} (hc : W0.cell? a = some u) : w.cell? a = some u :=
  Gr.cell (w := W0) h.2.2 hc
theorem Bld.frozen {W0 w : World} {v : Value} {r : List Nat} (h : Bld W0 v r w) {a : Addr} {u : Value} (hc : W0.cell? a = some u) (hf : W0.frozen? a = false) : w.frozen? a = false :=
  Gr.frozen (w := W0) h.2.2 hc hf
/-- The step: a word has been appended, out of a block that has just been written. -/
theorem Bld.step {W0 w w1 : World} {v v1 : Value} {r : List Nat} {x k : Nat} (hk : r.length = k) (h : Bld W0 v r w) (ho : w1.ownsRow W0.heap.size 62 1 v1 (k + 1) (cw r ++ [.int .u32 (x : Int)])) (hg : w.grownBy w1 v.ownBlock) :
    Bld W0 v1 (r ++ [x]) w1 ∧ ∃ p cap, v1 = .slice p (k + 1) cap := by
  subst hk
  have hl : (r ++ [x]).length = r.length + 1 := by simp
  have hc : cw (r ++ [x]) = cw r ++ [.int .u32 (x : Int)] := by simp [cw]
  have ho' : w1.ownsRow W0.heap.size 62 1 v1 (r ++ [x]).length (cw (r ++ [x])) := by rw [hl, hc]; exact ho
  have hs : ∃ p cap, v1 = .slice p (r ++ [x]).length cap := by
    obtain ⟨p, cap, e, _⟩ := own_row rfl ho'
    exact ⟨p, cap, e⟩
  refine ⟨⟨hs, ho', ?_⟩, by rw [hl] at hs; exact hs⟩
  refine ⟨hg.os.trans h.2.2.os, hg.tape.trans h.2.2.tape, hg.output.trans h.2.2.output, Nat.le_trans h.2.2.size hg.size, fun k hk => ?_⟩
  rw [← h.2.2.block k hk]
  refine hg.block k (Nat.lt_of_lt_of_le hk h.2.2.size) (fun e => ?_)
  rcases h.2.1.2 with ⟨e0, _⟩ | ⟨b, cap, cur, e0, hb, _⟩
  · rw [e0] at e; cases e
  · rw [e0] at e
    have : k = b := Option.some.inj e
    omega
theorem Bld.row {W0 w : World} {v : Value} {r : List Nat} {k : Nat} (hk : r.length = k) (h : Bld W0 v r w) (o : Obj) : (w.alloc o).ownsRow W0.heap.size 62 1 v k (cw r) := by
  subst hk
  exact h.2.1.alloc o
theorem Bld.nw' {W0 w : World} {p : Option Addr} {n cap : Nat} {r : List Nat} (h : Bld W0 (.slice p n cap) r w) (hok : ok r) (hs : r.length ≤ 1048576) : Nw w p n cap r := by
  obtain ⟨p', cap', e, hcap, hpn, ho⟩ := own_row rfl h.2.1
  cases e
  exact ⟨rfl, hcap, fun e => ⟨by rw [(hpn e).1]; rfl, (hpn e).2⟩, ho.rd, hok, hs⟩
theorem one_new (w : World) (x : Nat) : ∀ (j : Nat) (u : Value), ([Value.int .u32 (x : Int)])[j]? = some u → (w.alloc (.cells #[.int .u32 (x : Int)] 62)).cell? ((⟨w.heap.size, 0, none⟩ : Addr).add j) = some u := by
  intro j u hu
  match j, hu with
  | 0, hu =>
    simp at hu
    rw [← hu, addr_add]
    simp [go_sem]
  | j + 1, hu => simp at hu

theorem mod_step (x k : Nat) : x % pw (k + 1) = x % pw k + pw k * dg x k := by
  rw [pw_add, Nat.mod_mul]
  rfl
theorem val_snoc (r : List Nat) (x : Nat) : val (r ++ [x]) = val r + pw r.length * x := by
  rw [val_append]
  simp [val]
end Go.Proofs.Ytiefnhpbniaklaa.Nr2
