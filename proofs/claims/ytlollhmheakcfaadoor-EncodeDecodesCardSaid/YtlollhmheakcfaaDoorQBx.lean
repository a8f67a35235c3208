/- The reference's read: what it says. -/
import Derived.Test.YtlollhmheakcfaaDoorQBu
import Derived.Test.YtlollhmheakcfaaDoorQBw
import Derived.Deep.Cut
namespace Go.Proofs.YtlollhmheakcfaaDoor.Dg
open Go Go.RowKit Go.Proofs.YtlollhmheakcfaaDoor.Ne Go.Proofs.YtlollhmheakcfaaDoor.Kr

theorem results_row_tmp2 {P : Program} {fn : Func} {p u u2 : Tmp} {ty : TypeId} (h : fn.results = #[.cell p ty, .tmp u, .tmp u2]) (tmps : Array Value) (w : World) (g : Nat) (t : TypeId) (cs : Array Value) (fr : Nat × Nat) (d : TypeDesc) {v v2 : Value}
    (hp : tmps.getD p undef = .pointer (some ⟨g, 0, none⟩)) (hg : w.heap[g]? = some (.cells cs t fr))
    (hu : P.underlying ty = some d) (hd : (match d with | .struct _ | .array _ _ => true | _ => false) = true) (hi : (P.info? ty).map (·.size) = some cs.size) (hv : tmps.getD u undef = v) (hv2 : tmps.getD u2 undef = v2) :
    (results fn tmps).run P w = .ok (.tuple #[.agg cs, v, v2]) w := by
  have hp' : tmps[p]?.getD undef = .pointer (some ⟨g, 0, none⟩) := by simpa using hp
  have hv' : tmps[u]?.getD undef = v := by simpa using hv
  have hv2' : tmps[u2]?.getD undef = v2 := by simpa using hv2
  simp only [results, h]
  simp [hp', hv', hv2', asAddr, run_loadVar_row w g t ty cs fr d hg hu hd hi, Result.andThen]
theorem slA {w : World} {b off o n c a k c2 : Nat} {z : Int} (hz : z = (a : Int)) (h : a + k = n) (h1 : n ≤ c) (h3 : n < 9223372036854775808) (hc : cutA b off c a = ⟨b, o, none⟩) (hc2 : c - a = c2) : (Instr.sliceAt 22 (.slice (some ⟨b, off, none⟩) n c) (some (.int .i64 z)) none none).run Tryd.prog w = .ok (.slice (some ⟨b, o, none⟩) k c2) w := by
  subst hz
  rw [← hc, ← hc2]
  have h4 : (0 : Int) ≤ (n : Int) := by omega
  have h5 : (n : Int) ≤ (c : Int) := by omega
  have h6 : (0 : Int) ≤ (a : Int) := by omega
  have h8 : n - a = k := by omega
  have h10 : a ≤ n := by omega
  have h11 : n ≤ c := by omega
  have h12 : (a : Int) ≤ (n : Int) := by omega
  unfold cutA
  clear h h1 h3 hc hc2
  by_cases h7 : c = a
  · obtain rfl : c = a := h7
    obtain rfl : n = c := by omega
    obtain rfl : 0 = k := by omega
    clear h4 h5 h8 h10 h11 h12
    go_simp
  · have h9 : ¬ c - a = 0 := by omega
    go_simp
theorem slE {w : World} {b off n c e : Nat} {z : Int} (hz : z = (e : Int)) (h1 : e ≤ c) (h3 : e < 9223372036854775808) : (Instr.sliceAt 22 (.slice (some ⟨b, off, none⟩) n c) none (some (.int .i64 z)) none).run Tryd.prog w = .ok (.slice (some ⟨b, off, none⟩) e c) w := by
  subst hz
  have h4 : (0 : Int) ≤ (e : Int) := by omega
  have h5 : (e : Int) ≤ (c : Int) := by omega
  clear h3
  by_cases h7 : c = 0
  · obtain rfl : c = 0 := h7
    obtain rfl : e = 0 := by omega
    go_simp
  · go_simp
theorem srcB_drop {b off n c a : Nat} {l : List (BitVec 8)} {W : World} (h : SrcB (some ⟨b, off, none⟩) l W) (hl : l.length = n) (hn : n ≤ c) (ha : a ≤ n) : ∃ o, cutA b off c a = ⟨b, o, none⟩ ∧ SrcB (some ⟨b, o, none⟩) (l.drop a) W := by
  have h2 := srcB_cut (a := a) (k := n - a) h hl hn (by omega)
  rw [List.take_of_length_le (by rw [List.length_drop]; omega)] at h2
  unfold cutA at h2 ⊢
  split
  · rw [if_pos ‹_›] at h2; exact ⟨_, rfl, h2⟩
  · rw [if_neg ‹_›] at h2; exact ⟨_, rfl, h2⟩
theorem srcB_tk {p : Option Addr} {l : List (BitVec 8)} {W : World} (k : Nat) (h : SrcB p l W) : SrcB p (l.take k) W := by
  rcases h with h | ⟨b, off, e, h⟩
  · subst h; exact .inl (by simp)
  · refine .inr ⟨b, off, e, fun j x hx => ?_⟩
    rw [List.getElem?_take] at hx
    split at hx
    · exact h _ _ hx
    · cases hx
theorem srcB_back {b o : Nat} {l : List (BitVec 8)} {w W : World} (h : SrcB (some ⟨b, o, none⟩) l W) (g : Gr w W) (hb : b < w.heap.size) : SrcB (some ⟨b, o, none⟩) l w := by
  rcases h with h | ⟨b2, o2, e, h⟩
  · exact .inl h
  · cases e
    refine .inr ⟨b, o, rfl, fun j x hx => ?_⟩
    exact (World.cell?_of_block (a := ⟨b, o + j, none⟩) (g.block b hb)).symm.trans (h j x hx)
theorem ix0 {w : World} {b off n c : Nat} (h : 0 < n) : (Instr.indexAt 22 (.slice (some ⟨b, off, none⟩) n c) (.int .i64 0)).run Tryd.prog w = .ok (.pointer (some ⟨b, off, none⟩)) w := by
  have h1 := ixB (w := w) (b := b) (off := off) (n := n) (c := c) (j := 0) h
  rw [Nat.add_zero] at h1
  exact h1
theorem cvBk {w : World} {x : BitVec 8} {z : Int} (h : (x.toNat : Int) = z) : (convert 5 3 (.int .u8 (x.toNat : Int))).run Tryd.prog w = .ok (.int .i64 z) w := by
  subst h
  have e : IntKind.i64.wrap (x.toNat : Int) = (x.toNat : Int) := by
    have := x.isLt
    exact IntWalk.i64_in _ (by omega)
  go_simp
theorem cvUz {w : World} {X : BitVec 64} {z : Int} (h : X.toInt = z) : (convert 58 3 (.int .u64 (X.toNat : Int))).run Tryd.prog w = .ok (.int .i64 z) w := by
  subst h
  exact cvU rfl
/-- What the reference says that reads an item. -/
def ReadP (w : World) (b d : Nat) (l : List (BitVec 8)) (o : Ending) (w' : World) : Prop :=
  ∃ (v0 v1 v2 v3 : Value) (pr : Option Addr) (nr cr : Nat) (e : Int), o = .returned (.tuple #[.agg #[v0, v1, v2, v3], .slice pr nr cr, .int .i64 e]) ∧ Gr w w' ∧ (∀ u ∈ ([v0, v1, v2, v3] : List Value), u.oneCell' = true) ∧
    ((e = 0 ∧ ∃ t m ps, rd d l = .ok (t, m) ∧ m ≤ l.length ∧ pr = some ⟨b, ps, none⟩ ∧ nr = l.length - m ∧ nr ≤ cr ∧ SrcB pr (l.drop m) w ∧ ItV w' (d + 1) (fun b => w.heap.size ≤ b ∧ b < w'.heap.size) (.agg #[v0, v1, v2, v3]) t) ∨
     (e ≠ 0 ∧ rd d l = .error e ∧ v0 = .int .i64 0 ∧ v1 = .int .i64 0 ∧ v2 = .slice none 0 0 ∧ v3 = .slice none 0 0))
theorem key_x {b : BitVec 8} {k : Int} (h : (b.toNat : Int) = k) {z : Nat} (hz : z < 256) (hk : k ≠ (z : Int)) : b ≠ BitVec.ofNat 8 z := fun e => by
  subst e
  rw [BitVec.toNat_ofNat, Nat.mod_eq_of_lt hz] at h
  exact hk h.symm
theorem key_eq {b : BitVec 8} {z : Nat} (hz : z < 256) (h : (b.toNat : Int) = (z : Int)) : b = BitVec.ofNat 8 z := by
  apply BitVec.eq_of_toNat_eq
  rw [BitVec.toNat_ofNat, Nat.mod_eq_of_lt hz]
  omega

end Go.Proofs.YtlollhmheakcfaaDoor.Dg
