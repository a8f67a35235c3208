/- The steps of a walk, the state behind each of them worked out by itself. -/
import Derived.Test.YtlciocebbckdcaaPk2
namespace Go.Proofs.Ytlciocebbckdcaa.Kr
open Go
section
variable {P : Program} {ops : Array Oper} {Q : Exit → Act → World → Prop} {md : Region.Mode} {S : World → Prop} {st : List Nat}
/-- A list of operations that is still to be walked: a shell that no tactic looks into (a bare 'wpList' is unfolded by whoever asks for its head, and behind an operation whose guard is off that grows without end). -/
structure WL (P : Program) (ops : Array Oper) (Q : Exit → Act → World → Prop) (l : List Oper) (a : Act) (w : World) : Prop where
  out : wpList P ops Q l a w
theorem seqStartW {id : Nat} {l : List Oper} {a : Act} {w : World} (h : WL P l.toArray Q l a w) : (Code.region id l.toArray false).wp P Q a w := seqStart h.out
theorem seqQ {o : Oper} {rest : List Oper} {v : Value} {a a' : Act} {w : World} (hw : Region.wanted o (yielded ops a.tmps) = true) (hy : (execOp a.eval o).run P w = .ok (.value v) w)
    (ha : a.put o.dst v = a') (h : WL P ops Q rest a' w) : WL P ops Q (o :: rest) a w := by
  subst ha
  exact ⟨seqP hw hy h.out⟩
theorem seqSkipQ {o : Oper} {rest : List Oper} {a a' : Act} {w : World} (hw : Region.wanted o (yielded ops a.tmps) = false) (ha : a.put o.dst undef = a') (h : WL P ops Q rest a' w) : WL P ops Q (o :: rest) a w := by
  subst ha
  exact ⟨seqSkip hw h.out⟩
theorem outS {rest : List Oper} {K : Act → World → Prop} (hK : Shut (∀ a w, WL P ops Q rest a w → K a w)) {a a' : Act} {w : World} (ha : a = a') (h : WL P ops Q rest a' w) : K a w := by
  subst ha
  exact hK a w h
theorem seqR {o : Oper} {rest : List Oper} {a : Act} {w : World} (hw : Region.wanted o (yielded ops a.tmps) = true) (h : ∀ K : Act → World → Prop, Shut (∀ a w, WL P ops Q rest a w → K a w) → Oper.wp P o a w K Q) : WL P ops Q (o :: rest) a w :=
  ⟨seqS fun K hK => by rw [if_pos hw]; exact h K fun a w hw => hK a w hw.out⟩
theorem seqDoneW {a : Act} {w : World} (h : Q .normal a w) : WL P ops Q [] a w := ⟨seqDone h⟩
theorem tPQ (i : Nat) {oi : Oper} {v : Value} {fuel : Nat} {listed : Array Bool} {a a' : Act} {w : World} (hi : ops[i]? = some oi) (hc : okP md ops st listed i = true) (hQ : ∀ c a w, Q (.panic c) (a.put oi.dst v) w → Q (.panic c) a w) (hw : Region.wanted oi (yielded ops a.tmps) = true) (hS : still st listed = true → S w)
    (hy : ∀ w : World, (execOp a.eval oi).run P w = .ok (.value v) w) (ha : a.put oi.dst v = a') (h : wpAnyL P md ops Q S st fuel (listed.setIfInBounds i true) a' w) : wpAnyL P md ops Q S st (fuel + 1) listed a w := by
  subst ha
  exact tP i hi hc hQ hw hS hy h
theorem tOQ (i : Nat) {oi : Oper} {fuel : Nat} {listed : Array Bool} {a a' : Act} {w : World} (hi : ops[i]? = some oi) (hc : okP md ops st listed i = true) (hQ : ∀ c a w, Q (.panic c) (a.put oi.dst undef) w → Q (.panic c) a w) (hw : Region.wanted oi (yielded ops a.tmps) = false) (hS : still st listed = true → S w)
    (ha : a.put oi.dst undef = a') (h : wpAnyL P md ops Q S st fuel (listed.setIfInBounds i true) a' w) : wpAnyL P md ops Q S st (fuel + 1) listed a w := by
  subst ha
  exact tO i hi hc hQ hw hS h
theorem tSQ (i : Nat) (B : List Nat) {oi : Oper} {v : Value} {fuel : Nat} {listed : Array Bool} {a a' : Act} {w : World} (hi : ops[i]? = some oi) (hc : okS md ops st listed i B = true) (hQ : ∀ c a w, Q (.panic c) (a.put oi.dst v) w → Q (.panic c) a w) (hw : Region.wanted oi (yielded ops a.tmps) = true) (hS : S w)
    (hy : ∀ w : World, S w → (execOp a.eval oi).run P w = .ok (.value v) w) (ha : a.put oi.dst v = a') (h : wpAnyL P md ops Q S st fuel (listed.setIfInBounds i true) a' w) : wpAnyL P md ops Q S st (fuel + 1) listed a w := by
  subst ha
  exact tS i B hi hc hQ hw hS hy h
theorem outL {K : Act → World → Prop} {fuel : Nat} {listed : Array Bool} (hK : Shut (∀ a w, (still st listed = true → S w) → wpAnyL P md ops Q S st fuel listed a w → K a w)) {a a' : Act} {w : World} (ha : a = a') (hS : still st listed = true → S w) (h : wpAnyL P md ops Q S st fuel listed a' w) : K a w := by
  subst ha
  exact hK a w hS h
end
section
open Go.RowKit Go.Proofs.Ytlciocebbckdcaa.Ne
variable {w W y : World} {cs : List (Nat × Nat × Value)} {fs : List (World → Prop)}
theorem set_self {α : Type} {x : α} : ∀ {l : List α} {i : Nat}, l[i]? = some x → l.set i x = l
  | [], _, h => by simp at h
  | z :: _, 0, h => by
    have e : z = x := by simpa using h
    rw [e]; rfl
  | z :: l, i + 1, h => by
    rw [List.set_cons_succ, set_self (l := l) (by simpa using h)]
/-- The same value is stored again. -/
theorem Sta.same (H : Sta w W cs fs) (i : Nat) {b o : Nat} {v : Value} (hy : W.setCell ⟨b, o, none⟩ v = y) (h : cs[i]? = some (b, o, v)) (hv : noData v = true) : Sta w y cs fs := by
  have := H.store i hy h hv
  rwa [set_self h] at this
theorem Sta.tl {F : World → Prop} (H : Sta w W cs (F :: fs)) : Sta w W cs fs := ⟨H.g, H.c, H.low, H.ne, fun G hG => H.f G (List.mem_cons_of_mem _ hG), fun G hG => H.k G (List.mem_cons_of_mem _ hG)⟩
theorem Sta.tlC {x : Nat × Nat × Value} (H : Sta w W (x :: cs) fs) : Sta w W cs fs := H.drop 1
end
end Go.Proofs.Ytlciocebbckdcaa.Kr
