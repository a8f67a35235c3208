/- Reading, as a function; rows of items that grow. -/
import Derived.Test.YtlollhmheakcfaaDoorQBj
import Derived.Deep.Cut
import Derived.Maps.AppendAt
namespace Go.Proofs.YtlollhmheakcfaaDoor.Dg
open Go Go.RowKit Go.Proofs.YtlollhmheakcfaaDoor.Ne Go.Proofs.YtlollhmheakcfaaDoor.Kr

/-- So many items, one behind the other: the items, and how many bytes they take; or an error. -/
def rdl (f : List (BitVec 8) → Except Int (It × Nat)) : Nat → List (BitVec 8) → Except Int (List It × Nat)
  | 0, _ => .ok ([], 0)
  | n + 1, b => match f b with
    | .error e => .error e
    | .ok (x, m) => match rdl f n (b.drop m) with
      | .error e => .error e
      | .ok (xs, m2) => .ok (x :: xs, m + m2)
def sh4 : Except Int (List It × Nat) → Except Int (List It × Nat)
  | .error e => .error e
  | .ok (xs, m) => .ok (xs, 4 + m)
/-- A list behind its first byte. -/
def rdB (f : List (BitVec 8) → Except Int (It × Nat)) (b : List (BitVec 8)) : Except Int (List It × Nat) :=
  if b.length < 4 then .error 4 else if 1000 < (nb (b.take 4)).toNat then .error 3 else sh4 (rdl f (nb (b.take 4)).toNat (b.drop 4))
def rdS (b : List (BitVec 8)) : Except Int (It × Nat) :=
  if b.length < 4 then .error 4 else if (b.drop 4).length < (nb (b.take 4)).toNat then .error 4 else .ok (.mk 2 0 ((b.drop 4).take (nb (b.take 4)).toNat) [], 5 + (nb (b.take 4)).toNat)
def rdN (b : List (BitVec 8)) : Except Int (It × Nat) := if b.length < 8 then .error 4 else .ok (.mk 1 (nb (b.take 8)).toInt [] [], 9)
def sh1 : Except Int (List It × Nat) → Except Int (It × Nat)
  | .error e => .error e
  | .ok (xs, m) => .ok (.mk 3 0 [] xs, 1 + m)
/-- The item at the beginning of some bytes, within so many lists, and how many bytes it takes; or an error. -/
def rd : Nat → List (BitVec 8) → Except Int (It × Nat)
  | _, [] => .error 4
  | 0, k :: b => if k = 1#8 then rdN b else if k = 2#8 then rdS b else .error 3
  | d + 1, k :: b => if k = 1#8 then rdN b else if k = 2#8 then rdS b else if k = 3#8 then sh1 (rdB (rd d) b) else .error 3
def pref (ts : List It) (m : Nat) : Except Int (List It × Nat) → Except Int (List It × Nat)
  | .error e => .error e
  | .ok (xs, m2) => .ok (ts ++ xs, m + m2)
theorem rdl_err {f : List (BitVec 8) → Except Int (It × Nat)} {n : Nat} {b : List (BitVec 8)} {e : Int} (h : f b = .error e) : rdl f (n + 1) b = .error e := by rw [rdl, h]
theorem rdl_ok {f : List (BitVec 8) → Except Int (It × Nat)} {n m : Nat} {b : List (BitVec 8)} {x : It} (h : f b = .ok (x, m)) : rdl f (n + 1) b = pref [x] m (rdl f n (b.drop m)) := by
  rw [rdl, h]
  dsimp only
  generalize rdl f n (b.drop m) = r
  cases r <;> rfl
theorem pref_pref (ts us : List It) (m k : Nat) (r : Except Int (List It × Nat)) : pref ts m (pref us k r) = pref (ts ++ us) (m + k) r := by
  cases r with
  | error e => rfl
  | ok r => simp [pref, List.append_assoc, Nat.add_assoc]
/-- What a call says of an item. -/
def Out (r : Except Int (It × Nat)) (ps ps2 : Nat) (e : Int) (P : It → Prop) : Prop :=
  match r with
  | .ok (t, m) => e = 0 ∧ ps2 = ps + m ∧ P t
  | .error c => e = c ∧ c ≠ 0
def OutL (r : Except Int (List It × Nat)) (ps ps2 : Nat) (e : Int) (P : List It → Prop) : Prop :=
  match r with
  | .ok (t, m) => e = 0 ∧ ps2 = ps + m ∧ P t
  | .error c => e = c ∧ c ≠ 0
/-- The items of a slice. -/
def LsV (W : World) (d : Nat) (F : Nat → Prop) (pl : Option Addr) (ts : List It) : Prop :=
  ∀ (j : Nat) (x : It), ts[j]? = some x → ∃ (b off : Nat) (v0 v1 v2 v3 : Value), pl = some ⟨b, off, none⟩ ∧ F b ∧ W.cell? ⟨b, off + j * 4, none⟩ = some v0 ∧ W.cell? ⟨b, off + j * 4 + 1, none⟩ = some v1 ∧ W.cell? ⟨b, off + j * 4 + 2, none⟩ = some v2 ∧ W.cell? ⟨b, off + j * 4 + 3, none⟩ = some v3 ∧ ItV W d F (.agg #[v0, v1, v2, v3]) x
theorem LsV.kept {W W' : World} {d : Nat} {F : Nat → Prop} {pl : Option Addr} {ts : List It} (h : LsV W d F pl ts) (g : ∀ b, F b → W'.heap[b]? = W.heap[b]?) : LsV W' d F pl ts := fun j x hx => by
  obtain ⟨b, off, v0, v1, v2, v3, e, f, c0, c1, c2, c3, h⟩ := h j x hx
  exact ⟨b, off, v0, v1, v2, v3, e, f, (World.cell?_of_block (a := ⟨b, off + j * 4, none⟩) (g b f)).trans c0, (World.cell?_of_block (a := ⟨b, off + j * 4 + 1, none⟩) (g b f)).trans c1, (World.cell?_of_block (a := ⟨b, off + j * 4 + 2, none⟩) (g b f)).trans c2, (World.cell?_of_block (a := ⟨b, off + j * 4 + 3, none⟩) (g b f)).trans c3, h.kept g⟩
theorem LsV.mono {W : World} {d : Nat} {F G : Nat → Prop} {pl : Option Addr} {ts : List It} (h : LsV W d F pl ts) (g : ∀ b, F b → G b) : LsV W d G pl ts := fun j x hx => by
  obtain ⟨b, off, v0, v1, v2, v3, e, f, c0, c1, c2, c3, h⟩ := h j x hx
  exact ⟨b, off, v0, v1, v2, v3, e, g b f, c0, c1, c2, c3, h.mono g⟩
/-- The items read so far: a row of one's own, and the blocks of the items. -/
def Kids (w W : World) (d : Nat) (v : Value) (xs : List Value) (ts : List It) : Prop :=
  ∃ G : Nat → Prop, (∀ b, G b → w.heap.size ≤ b ∧ b < W.heap.size ∧ v.ownBlock ≠ some b) ∧
    ∀ j x, ts[j]? = some x → ∃ v0 v1 v2 v3, xs[j * 4]? = some v0 ∧ xs[j * 4 + 1]? = some v1 ∧ xs[j * 4 + 2]? = some v2 ∧ xs[j * 4 + 3]? = some v3 ∧ ItV W d G (.agg #[v0, v1, v2, v3]) x
theorem Kids.kept {w W W' : World} {d : Nat} {v : Value} {xs : List Value} {ts : List It} (h : Kids w W d v xs ts) (hs : W.heap.size ≤ W'.heap.size) (g : ∀ b, w.heap.size ≤ b → b < W.heap.size → v.ownBlock ≠ some b → W'.heap[b]? = W.heap[b]?) : Kids w W' d v xs ts := by
  obtain ⟨G, h1, h2⟩ := h
  refine ⟨G, fun b hb => ⟨(h1 b hb).1, Nat.lt_of_lt_of_le (h1 b hb).2.1 hs, (h1 b hb).2.2⟩, fun j x hx => ?_⟩
  obtain ⟨v0, v1, v2, v3, e0, e1, e2, e3, h⟩ := h2 j x hx
  exact ⟨v0, v1, v2, v3, e0, e1, e2, e3, h.kept (fun b hb => g b (h1 b hb).1 (h1 b hb).2.1 (h1 b hb).2.2)⟩
theorem Kids.lsv {w W : World} {d k : Nat} {v : Value} {xs : List Value} {ts : List It} (h : Kids w W d v xs ts) (ho : W.ownsRow w.heap.size 25 4 v k xs) (hk : ts.length = k) :
    ∃ pl cl, v = .slice pl k cl ∧ (pl = none → cl = 0) ∧ LsV W d (fun b => w.heap.size ≤ b ∧ b < W.heap.size) pl ts := by
  obtain ⟨G, h1, h2⟩ := h
  rcases ho.2 with ⟨e1, e2⟩ | ⟨g, cap, cur, e1, e2, e3, e4, _, _, e7⟩
  · refine ⟨none, 0, by rw [e1, e2], fun _ => rfl, fun j x hx => ?_⟩
    have := (List.getElem?_eq_some_iff.1 hx).1
    omega
  · refine ⟨_, cap, e1, (fun e => by cases e), fun j x hx => ?_⟩
    have hj : j < k := by have := (List.getElem?_eq_some_iff.1 hx).1; omega
    obtain ⟨v0, v1, v2, v3, c0, c1, c2, c3, h⟩ := h2 j x hx
    have hc : ∀ i u, i < k * 4 → xs[i]? = some u → W.cell? ⟨g, 0 + i, none⟩ = some u := fun i u hi hu => by
      rw [Nat.zero_add, cell_of_row W g i cur _ _ e3]
      rw [← e7, List.getElem?_take, if_pos hi] at hu
      simpa using hu
    exact ⟨g, 0, v0, v1, v2, v3, rfl, ⟨e2, lt_of_heap e3⟩, hc _ _ (by omega) c0, hc _ _ (by omega) c1, hc _ _ (by omega) c2, hc _ _ (by omega) c3, h.mono (fun b hb => ⟨(h1 b hb).1, (h1 b hb).2.1⟩)⟩
theorem infoIt : (Tryd.prog.info? 25).map (fun i => (i.zero, i.size)) = some (some (.agg #[.int .i64 0, .int .i64 0, .slice none 0 0, .slice none 0 0]), 4) := by kernel_rfl
theorem infoItB : ∃ i, Tryd.prog.info? 25 = some i ∧ i.zero = some (.agg #[.int .i64 0, .int .i64 0, .slice none 0 0, .slice none 0 0]) ∧ i.size = 4 ∧ i.bytes ≤ 100 := by
  cases hq : Tryd.prog.info? 25 with
  | none => have h := infoIt; rw [hq] at h; cases h
  | some i =>
    have h := infoIt
    rw [hq] at h
    simp only [Option.map_some, Option.some.injEq, Prod.mk.injEq] at h
    refine ⟨i, rfl, h.1, h.2, ?_⟩
    have hb : (Tryd.prog.info? 25).map (fun i => decide (i.bytes ≤ 100)) = some true := by kernel_rfl
    rw [hq] at hb
    simpa using hb
theorem wp_appI {br : Nat} {w W : World} {o : Oper} {a : Act} {K : Act → World → Prop} {Q : Exit → Act → World → Prop} (s x : Operand) (ho : o.op = .call { callee := .builtin .append, args := #[s, x], argTypes := #[23, 23] })
    {v : Value} {k bone : Nat} {xs : List Value} {v0 v1 v2 v3 : Value} {rs : List Blk} (hs : a.eval s = v) (hx : a.eval x = .slice (some ⟨bone, 0, none⟩) 1 1) (hsrc : SrcG (some ⟨bone, 0, none⟩) [v0, v1, v2, v3] W) (h1 : ∀ u ∈ ([v0, v1, v2, v3] : List Value), u.oneCell' = true)
    (H : OwX br w W rs) (HR : W.ownsRow w.heap.size 25 4 v k xs) (HA : Apt v rs) (hb : k ≤ 100000)
    (h : ∀ u W', OwX br w W' rs → W'.ownsRow w.heap.size 25 4 u (k + 1) (xs ++ [v0, v1, v2, v3]) → Apt u rs → W.grownBy W' v.ownBlock → (u.ownBlock = v.ownBlock ∨ u.ownBlock = some W.heap.size) → K (a.put o.dst u) W') : o.wp Tryd.prog a W K Q := by
  obtain ⟨i0, hi0, hz0, hz1, hz2⟩ := infoItB
  have hbytes : (k + 1) * i0.bytes ≤ 140737488355328 := by
    have : (k + 1) * i0.bytes ≤ 100001 * 100 := Nat.mul_le_mul (by omega) hz2
    omega
  obtain ⟨u, W', hr, ho1, hg1, _, hb1⟩ := run_append_own_at (P := Tryd.prog) W w.heap.size 23 o.type 25 i0 _ 4 i0.bytes Tryd.underlying23 hi0 hz0 hz1 rfl (by rfl) (by decide) v k xs HR ⟨bone, 0, none⟩ 1 1 [v0, v1, v2, v3] rfl (fun j u hj => by
    rcases hsrc with h0 | ⟨b, off, e, h2⟩
    · cases h0
    · cases e
      rw [addr_add]; exact h2 j u hj) h1 (by unfold maxLen; omega) hbytes H.g.size
  unfold Oper.wp execOp
  simp only [ho, resolve, invoke, builtin, Sem.run_bind, Sem.run_pure, Result.andThen_ok, List.map_toArray, List.map_cons, List.map_nil, hs, hx, hr]
  refine h u W' (H.grown hg1 (fun k hk => ⟨(World.ownsRow.lt HR k hk).1, HA k hk⟩)) ho1 (fun k hk y hy e => ?_) hg1 hb1
  rcases hb1 with hb1 | hb1
  · rw [hb1] at hk; exact HA k hk y hy e
  · rw [hb1] at hk
    have := H.lt hy
    have e2 := Option.some.inj hk
    omega
/-- One item more. -/
theorem Kids.snoc {w W1 W2 W3 : World} {d k : Nat} {v u : Value} {xs : List Value} {ts : List It} {v0 v1 v2 v3 : Value} {x : It} (h : Kids w W1 d v xs ts) (hk : ts.length = k) (hxs : xs.length = k * 4) (hw : w.heap.size ≤ W1.heap.size) (hv : ∀ b, v.ownBlock = some b → b < W1.heap.size)
    (g12 : ∀ b, w.heap.size ≤ b → b < W1.heap.size → W2.heap[b]? = W1.heap[b]?) (h12 : W1.heap.size ≤ W2.heap.size) (hx : ItV W2 d (fun b => W1.heap.size ≤ b ∧ b < W2.heap.size) (.agg #[v0, v1, v2, v3]) x)
    (g23 : ∀ b, b < W2.heap.size → v.ownBlock ≠ some b → W3.heap[b]? = W2.heap[b]?) (h23 : W2.heap.size ≤ W3.heap.size) (hu : u.ownBlock = v.ownBlock ∨ ∃ b, u.ownBlock = some b ∧ W2.heap.size ≤ b) : Kids w W3 d u (xs ++ [v0, v1, v2, v3]) (ts ++ [x]) := by
  obtain ⟨G, h1, h2⟩ := h
  refine ⟨fun b => G b ∨ (W1.heap.size ≤ b ∧ b < W2.heap.size), fun b hb => ?_, fun j y hy => ?_⟩
  · have hb2 : w.heap.size ≤ b ∧ b < W2.heap.size ∧ v.ownBlock ≠ some b := by
      rcases hb with hb | hb
      · exact ⟨(h1 b hb).1, by have := (h1 b hb).2.1; omega, (h1 b hb).2.2⟩
      · exact ⟨by omega, hb.2, fun e => by have := hv b e; omega⟩
    refine ⟨hb2.1, by omega, fun e => ?_⟩
    rcases hu with hu | ⟨c, hu, hc⟩
    · exact hb2.2.2 (hu ▸ e)
    · rw [hu] at e
      have := Option.some.inj e
      omega
  · rcases Nat.lt_or_ge j ts.length with hj | hj
    · rw [List.getElem?_append_left hj] at hy
      obtain ⟨a0, a1, a2, a3, e0, e1, e2, e3, hi⟩ := h2 j y hy
      have hi2 := (hi.kept (fun b hb => g12 b (h1 b hb).1 (h1 b hb).2.1)).kept (W' := W3) (fun b hb => g23 b (by have := (h1 b hb).2.1; omega) (h1 b hb).2.2)
      exact ⟨a0, a1, a2, a3, by rw [List.getElem?_append_left (by omega)]; exact e0, by rw [List.getElem?_append_left (by omega)]; exact e1, by rw [List.getElem?_append_left (by omega)]; exact e2, by rw [List.getElem?_append_left (by omega)]; exact e3, hi2.mono (fun b hb => .inl hb)⟩
    · have hj2 : j = ts.length := by
        have := (List.getElem?_eq_some_iff.1 hy).1
        rw [List.length_append] at this
        simp at this
        omega
      rw [hj2, List.getElem?_append_right (Nat.le_refl _), Nat.sub_self] at hy
      obtain rfl : x = y := by simpa using hy
      have hi2 := hx.kept (W' := W3) (fun b hb => g23 b hb.2 (fun e => by have := hv b e; omega))
      refine ⟨v0, v1, v2, v3, ?_, ?_, ?_, ?_, hi2.mono (fun b hb => .inr hb)⟩
      · rw [List.getElem?_append_right (by omega), show j * 4 - xs.length = 0 by omega]; rfl
      · rw [List.getElem?_append_right (by omega), show j * 4 + 1 - xs.length = 1 by omega]; rfl
      · rw [List.getElem?_append_right (by omega), show j * 4 + 2 - xs.length = 2 by omega]; rfl
      · rw [List.getElem?_append_right (by omega), show j * 4 + 3 - xs.length = 3 by omega]; rfl

end Go.Proofs.YtlollhmheakcfaaDoor.Dg
