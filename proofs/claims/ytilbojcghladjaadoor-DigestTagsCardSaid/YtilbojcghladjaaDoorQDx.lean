/- Rows of one's own that grow by append, beside other blocks of one's own: for whatever elements of one cell; a source that may be empty. -/
import Derived.Test.YtilbojcghladjaaDoorQDw
import Derived.Maps.AppendAt
namespace Go.Proofs.YtilbojcghladjaaDoor.Dg
open Go Go.RowKit Go.Proofs.YtilbojcghladjaaDoor.Ne Go.Proofs.YtilbojcghladjaaDoor.Kr
/-- The slice v is the call's own and holds these values. -/
def RowG (T : TypeId) (B : Nat) (v : Value) (xs : List Value) (W : World) : Prop := W.ownsRow B T 1 v xs.length xs
theorem RowG.nil (T : TypeId) (B : Nat) (W : World) : RowG T B (.slice none 0 0) [] W := ⟨rfl, .inl ⟨rfl, rfl⟩⟩
theorem RowG.grow {T : TypeId} {B : Nat} {v : Value} {xs : List Value} {W W' : World} (h : RowG T B v xs W) (g : Gr W W') : RowG T B v xs W' := Nr2.ownsRow_below h g
theorem RowG.lt {T : TypeId} {B : Nat} {v : Value} {xs : List Value} {W : World} (h : RowG T B v xs W) : ∀ k, v.ownBlock = some k → B ≤ k ∧ k < W.heap.size := World.ownsRow.lt h
/-- These values lie behind p. -/
def SrcG (p : Option Addr) (xs : List Value) (W : World) : Prop := xs = [] ∨ ∃ b off, p = some ⟨b, off, none⟩ ∧ ∀ j u, xs[j]? = some u → W.cell? ⟨b, off + j, none⟩ = some u
theorem SrcB.srcG {p : Option Addr} {l : List (BitVec 8)} {W : World} (h : SrcB p l W) : SrcG p (l.map w8) W := by
  rcases h with rfl | ⟨b, off, rfl, h⟩
  · exact .inl rfl
  · refine .inr ⟨b, off, rfl, fun j u hu => ?_⟩
    rw [List.getElem?_map, Option.map_eq_some_iff] at hu
    obtain ⟨x, hx, rfl⟩ := hu
    exact h j x hx
theorem RowG.src {T : TypeId} {B : Nat} {v : Value} {xs : List Value} {W : World} (h : RowG T B v xs W) : ∃ p c, v = .slice p xs.length c ∧ xs.length ≤ c ∧ (p = none → c = 0) ∧ SrcG p xs W := by
  rcases h.2 with ⟨h1, h2⟩ | ⟨g, cap, cur, h1, _, h3, h4, _, _, h6⟩
  · exact ⟨none, 0, by rw [h1, h2], by omega, fun _ => rfl, .inl (List.eq_nil_of_length_eq_zero h2)⟩
  · refine ⟨_, cap, h1, h4, (fun e => by cases e), .inr ⟨g, 0, rfl, fun j u hu => ?_⟩⟩
    have hj : j < xs.length := (List.getElem?_eq_some_iff.1 hu).1
    rw [Nat.zero_add, cell_of_row W g j cur _ _ h3]
    rw [← h6, Nat.mul_one, List.getElem?_take, if_pos hj] at hu
    simpa using hu
/-- The row lies in none of these blocks. -/
def Apt (v : Value) (rs : List Blk) : Prop := ∀ k, v.ownBlock = some k → ∀ x ∈ rs, x.1 ≠ k
theorem Apt.nil (rs : List Blk) : Apt (.slice none 0 0) rs := fun _ h => by cases h
theorem Apt.none (v : Value) : Apt v [] := fun _ _ _ h => by cases h
theorem Ow.grown {w W W' : World} {rs : List Blk} {row : Option Nat} (H : Ow w W rs) (g : W.grownBy W' row) (hr : ∀ k, row = some k → w.heap.size ≤ k ∧ ∀ x ∈ rs, x.1 ≠ k) : Ow w W' rs := by
  refine ⟨gr_grown H.g g (fun k e => (hr k e).1), fun x hx => ?_, H.low, H.ne⟩
  rw [g.block x.1 (H.lt hx) (fun e => (hr _ e.symm).2 x hx rfl)]
  exact H.r x hx
/-- The empty literal. -/
theorem row_new {w W : World} {T : TypeId} {rs : List Blk} (H : Ow w W rs) : RowG T w.heap.size (.slice (some ⟨W.heap.size, 0, none⟩) 0 0) [] (W.alloc (.cells #[] T)) ∧ Apt (.slice (some ⟨W.heap.size, 0, none⟩) 0 0) rs := by
  refine ⟨⟨rfl, .inr ⟨W.heap.size, 0, #[], rfl, H.g.le, heap_alloc_last _ _, Nat.le_refl _, Nat.zero_le _, rfl, rfl⟩⟩, fun k hk x hx e => ?_⟩
  have := H.lt hx
  simp [Value.ownBlock] at hk
  omega
/-- A literal's values. -/
theorem lit_src {W : World} {T : TypeId} (xs : List Value) : SrcG (some ⟨W.heap.size, 0, none⟩) xs (W.alloc (.cells xs.toArray T)) := by
  refine .inr ⟨W.heap.size, 0, rfl, fun j u hu => ?_⟩
  rw [Nat.zero_add, cell_of_row _ _ j _ _ _ (heap_alloc_last W _)]
  simpa using hu
theorem SrcG.grow {p : Option Addr} {xs : List Value} {W W' : World} (h : SrcG p xs W) (g : Gr W W') : SrcG p xs W' := by
  rcases h with h | ⟨b, off, e, h⟩
  · exact .inl h
  · exact .inr ⟨b, off, e, fun j u hu => g.cell (h j u hu)⟩
theorem wp_appG {T TS : TypeId} {z : Value} {bytes : Nat} (hu : Tryd.prog.underlying TS = some (.slice T)) (hi : (Tryd.prog.info? T).map (fun i => (i.zero, i.size, i.bytes)) = some (some z, 1, bytes)) (hz : z.cells.size = 1)
    {w W : World} {o : Oper} {a : Act} {K : Act → World → Prop} {Q : Exit → Act → World → Prop} (s x : Operand) (ho : o.op = .call { callee := .builtin .append, args := #[s, x], argTypes := #[TS, TS] })
    {v : Value} {r d : List Value} {p : Option Addr} {m c : Nat} {rs : List Blk} (hs : a.eval s = v) (hx : a.eval x = .slice p m c) (hl : d.length = m) (hsrc : SrcG p d W) (h1 : ∀ u ∈ d, u.oneCell' = true) (hp : p = none → c = 0)
    (H : Ow w W rs) (HR : RowG T w.heap.size v r W) (HA : Apt v rs) (hb : r.length + m ≤ 100000000) (hby : bytes ≤ 8)
    (h : ∀ v1 W', Ow w W' rs → RowG T w.heap.size v1 (r ++ d) W' → Apt v1 rs → K (a.put o.dst v1) W') : o.wp Tryd.prog a W K Q := by
  obtain ⟨i0, hi0, hz0, hz1, hz2⟩ := info_parts hi
  subst hl
  have hmul : (r.length + d.length) * bytes ≤ 100000000 * 8 := Nat.mul_le_mul hb hby
  have key : ∀ a0 : Addr, p = some a0 → (∀ j u, d[j]? = some u → W.cell? (a0.add j) = some u) → o.wp Tryd.prog a W K Q := by
    intro a0 hpa hnews
    subst hpa
    obtain ⟨v1, W', hr, ho1, hg1, _, hb1⟩ := run_append_own_at (P := Tryd.prog) W w.heap.size TS o.type T i0 z 1 bytes hu hi0 hz0 hz1 hz2 hz (by decide) v r.length r HR a0 d.length c d (by omega) hnews h1 (by unfold maxLen; omega) (by omega) H.g.le
    unfold Oper.wp execOp
    simp only [ho, resolve, invoke, builtin, Sem.run_bind, Sem.run_pure, Result.andThen_ok, List.map_toArray, List.map_cons, List.map_nil, hs, hx, hr]
    refine h v1 W' (H.grown hg1 (fun k e => ⟨(HR.lt k e).1, HA k e⟩)) ?_ ?_
    · show W'.ownsRow w.heap.size T 1 v1 (r ++ d).length (r ++ d)
      rw [List.length_append]; exact ho1
    · intro k hk y hy e
      rcases hb1 with hb1 | hb1
      · rw [hb1] at hk; exact HA k hk y hy e
      · rw [hb1] at hk
        have := H.lt hy
        have e2 := Option.some.inj hk
        omega
  cases p with
  | some a0 =>
    refine key a0 rfl (fun j u hj => ?_)
    rcases hsrc with h0 | ⟨b, off, e, h2⟩
    · rw [h0] at hj; simp at hj
    · cases e
      rw [addr_add]; exact h2 j u hj
  | none =>
    rcases hsrc with h0 | ⟨b, off, e, h2⟩
    · subst h0
      have hc := hp rfl
      subst hc
      have hr := run_append_owned_none (P := Tryd.prog) (w := W) w.heap.size TS o.type T i0 1 hu hi0 v r.length r HR
      have hx' : a.eval x = .slice none 0 0 := hx
      unfold Oper.wp execOp
      simp only [ho, resolve, invoke, builtin, Sem.run_bind, Sem.run_pure, Result.andThen_ok, List.map_toArray, List.map_cons, List.map_nil, hs, hx', hr]
      exact h v W H (by rw [List.append_nil]; exact HR) HA
    · cases e
theorem info32 : (Tryd.prog.info? 51).map (fun i => (i.zero, i.size, i.bytes)) = some (some (.int .u32 0), 1, 4) := by kernel_rfl
end Go.Proofs.YtilbojcghladjaaDoor.Dg
