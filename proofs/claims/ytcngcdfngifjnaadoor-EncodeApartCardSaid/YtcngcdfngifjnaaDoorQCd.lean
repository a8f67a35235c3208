/- An item among the arguments: it reads as a tree. -/
import Derived.Test.YtcngcdfngifjnaaDoorPf4
import Derived.Test.YtcngcdfngifjnaaDoorPf2
import Derived.ChangeSlices
import Derived.Lib.SmallJoins
import Derived.SizedLaws
namespace Go.Proofs.YtcngcdfngifjnaaDoor.Dl
open Go Go.RowKit Go.Proofs.YtcngcdfngifjnaaDoor.Ne Go.Proofs.YtcngcdfngifjnaaDoor.Dg
open Go.ChangeShapes Go.WideShapes Go.ChangeAt Go.WideElems

theorem wf_i64 {n : Int} (h : (Lit.int .i64 n).wf = true) : InR n := by
  simp [Lit.wf, IntKind.min, IntKind.max, IntKind.signed, IntKind.bits] at h
  unfold InR
  omega
theorem cIt : Tryd.prog.cellsOf 25 = 4 := by kernel_rfl
theorem cI64 : Tryd.prog.cellsOf 3 = 1 := by kernel_rfl
theorem cSB : Tryd.prog.cellsOf 22 = 1 := by kernel_rfl
theorem cSL : Tryd.prog.cellsOf 23 = 1 := by kernel_rfl
theorem bulk_one {H : Type} (d : DataW H) : 1 ≤ Rows.uptoBulk d := by
  cases d with
  | lit l => cases l <;> simp [Rows.uptoBulk]
  | nil => simp [Rows.uptoBulk]
  | ptr d => simp [Rows.uptoBulk]
  | slice elems spare => simp [Rows.uptoBulk]
  | agg parts => simp [Rows.uptoBulk]
  | iface t d => simp [Rows.uptoBulk]
  | map entries => simp [Rows.uptoBulk]
  | held h => simp [Rows.uptoBulk]
theorem bulk_len {H : Type} (l : List (DataW H)) : l.length ≤ Rows.uptoBulkAll l := by
  induction l with
  | nil => simp [Rows.uptoBulkAll]
  | cons x r ih => have := bulk_one x; simp only [Rows.uptoBulkAll, List.length_cons]; omega
theorem weightsAll_mem {H : Type} {P : Program} {e : TypeId} : ∀ {l : List (DataW H)} {d : DataW H}, d ∈ l → ∀ n ∈ d.weights P e, n ∈ DataW.weightsAll P e l
  | x :: l, d, hd, n, hn => by
    simp only [DataW.weightsAll, List.mem_append]
    rcases List.mem_cons.1 hd with rfl | hd
    · exact .inl hn
    · exact .inr (weightsAll_mem hd n hn)
/-- No part is greater than the reach. -/
def Light {H : Type} (t : TypeId) (d : DataW H) : Prop := ∀ n ∈ d.weights Tryd.prog t, n ≤ reachBytes
theorem light_slice {H : Type} {t e : TypeId} {elems spare : List (DataW H)} (hu : Tryd.prog.underlying t = some (.slice e)) (hb : 1 ≤ Tryd.prog.bytesOf e) (h : Light t (.slice elems spare : DataW H)) : elems.length ≤ 4611686018427387904 ∧ ∀ d ∈ elems, Light e d := by
  unfold Light at *
  simp only [DataW.weights, hu] at h
  have h1 := h _ (List.mem_cons_self ..)
  refine ⟨?_, fun d hd n hn => h n (List.mem_cons_of_mem _ (List.mem_append_left _ (weightsAll_mem hd n hn)))⟩
  have h2 : (elems.length + spare.length) * 1 ≤ (elems.length + spare.length) * Tryd.prog.bytesOf e := Nat.mul_le_mul_left _ hb
  unfold reachBytes at h1
  omega
theorem bU8 : 1 ≤ Tryd.prog.bytesOf 5 := by
  have h : decide (1 ≤ Tryd.prog.bytesOf 5) = true := by kernel_rfl
  exact of_decide_eq_true h
theorem bIt : 1 ≤ Tryd.prog.bytesOf 25 := by
  have h : decide (1 ≤ Tryd.prog.bytesOf 25) = true := by kernel_rfl
  exact of_decide_eq_true h
/-- Trees chosen one by one. -/
theorem trees_of {P : Nat → It → Prop} : ∀ n, (∀ j, j < n → ∃ t, P j t) → ∃ ts : List It, ts.length = n ∧ ∀ j t, ts[j]? = some t → P j t
  | 0, _ => ⟨[], rfl, fun j t h => by simp at h⟩
  | n + 1, h => by
    obtain ⟨ts, h1, h2⟩ := trees_of n (fun j hj => h j (by omega))
    obtain ⟨t, ht⟩ := h n (by omega)
    refine ⟨ts ++ [t], by simp [h1], fun j x hx => ?_⟩
    rcases Nat.lt_or_ge j ts.length with hj | hj
    · rw [List.getElem?_append_left hj] at hx; exact h2 j x hx
    · have hj2 : j = n := by
        have := (List.getElem?_eq_some_iff.1 hx).1
        simp at this
        omega
      subst hj2
      rw [List.getElem?_append_right hj, h1, Nat.sub_self] at hx
      obtain rfl : t = x := by simpa using hx
      exact ht
theorem bulk_flat {H : Type} {f : It → List (BitVec 8)} : ∀ (ts : List It) (ds : List (DataW H)), ts.length = ds.length → (∀ (j : Nat) (t : It) (d : DataW H), ts[j]? = some t → ds[j]? = some d → (f t).length ≤ 9 * Rows.uptoBulk d) → (ts.flatMap f).length ≤ 9 * Rows.uptoBulkAll ds
  | [], [], _, _ => Nat.zero_le _
  | t :: ts, d :: ds, h1, h2 => by
    have h3 := h2 0 t d rfl rfl
    have h4 := bulk_flat ts ds (by simpa using h1) (fun j t d ht hd => h2 (j + 1) t d ht hd)
    rw [List.flatMap_cons, List.length_append]
    simp only [Rows.uptoBulkAll]
    omega
theorem cells_four {W : World} {b off : Nat} {cs : List Value} (h : W.cells? 0 ⟨b, off, none⟩ 4 = some cs) : ∃ v0 v1 v2 v3, cs = [v0, v1, v2, v3] ∧ W.cell? ⟨b, off, none⟩ = some v0 ∧ W.cell? ⟨b, off + 1, none⟩ = some v1 ∧ W.cell? ⟨b, off + 2, none⟩ = some v2 ∧ W.cell? ⟨b, off + 3, none⟩ = some v3 := by
  unfold World.cells? at h
  split at h
  · have hl := mapM_some_length h
    match cs, hl, h with
    | [v0, v1, v2, v3], _, h =>
      have g := fun (i : Nat) (hi : i < 4) => mapM_some_get h i i (show (List.range 4)[i]? = some i by simp [hi])
      have g0 := g 0 (by decide)
      have g1 := g 1 (by decide)
      have g2 := g 2 (by decide)
      have g3 := g 3 (by decide)
      rw [Ne.addr_add] at g0 g1 g2 g3
      exact ⟨v0, v1, v2, v3, rfl, g0, g1, g2, g3⟩
  · cases h
theorem spot_of {W : World} {a : Addr} {cs : List Value} {n : Nat} (h : W.cells? 0 (a.add (0 * n)) 4 = some cs) : a.spot = none := by
  unfold World.cells? at h
  split at h
  · have hl := mapM_some_length h
    match cs, hl, h with
    | [v0, v1, v2, v3], _, h =>
      have g0 := mapM_some_get h 0 0 (by simp)
      refine Nl.addr_at (W := W) (v := v0) ?_
      simpa [Addr.add] using g0
  · cases h
def Ok4 {H : Type} (W : World) (fuel : Nat) (cs : List Value) (d : DataW H) : Prop :=
  ∃ v0 v1 v2 v3 t, cs = [v0, v1, v2, v3] ∧ ItV W fuel (fun _ => True) (.agg #[v0, v1, v2, v3]) t ∧ ∀ e, (enc e t).length ≤ 9 * Rows.uptoBulk d
/-- A slice of items. -/
def OkL {H : Type} (W : World) (fuel : Nat) (v : Value) (d : DataW H) : Prop :=
  ∃ (pl : Option Addr) (cl : Nat) (ts : List It), v = .slice pl ts.length cl ∧ ts.length ≤ 4611686018427387904 ∧ ts.length ≤ cl ∧ (pl = none → cl = 0) ∧ (∀ e, (ts.flatMap (enc e)).length ≤ 9 * Rows.uptoBulk d) ∧
    ∀ (j : Nat) (x : It), ts[j]? = some x → ∃ (b off : Nat) (v0 v1 v2 v3 : Value), pl = some ⟨b, off, none⟩ ∧ W.cell? ⟨b, off + j * 4, none⟩ = some v0 ∧ W.cell? ⟨b, off + j * 4 + 1, none⟩ = some v1 ∧ W.cell? ⟨b, off + j * 4 + 2, none⟩ = some v2 ∧ W.cell? ⟨b, off + j * 4 + 3, none⟩ = some v3 ∧ ItV W fuel (fun _ => True) (.agg #[v0, v1, v2, v3]) x
theorem trod_list {H : Type} {ec : TypeId × Value → H} {W : World} {n : Nat} {v : Value} {x : DataW H × List MemPlace}
    (ih : ∀ m, m < n → ∀ {cs : List Value} {x : DataW H × List MemPlace}, DataW.trod ec Tryd.prog W 0 (fun _ => true) true m 25 cs = some x → Light 25 x.1 → Ok4 W m cs x.1)
    (h : DataW.trod ec Tryd.prog W 0 (fun _ => true) true n 23 [v] = some x) (hw : Light 23 x.1) : OkL W (n - 1) v x.1 := by
  rcases DataW.trod_slice Tryd.underlying23 h with ⟨hc, hx⟩ | ⟨a, len, cap, elems, rest, m, hm, hc, hx, _, hl, hmx, hlen, hel, _⟩
  · simp only [List.cons.injEq, and_true] at hc
    exact ⟨none, 0, [], hc, Nat.zero_le _, Nat.le_refl _, fun _ => rfl, fun e => Nat.zero_le _, fun j y hy => by simp at hy⟩
  · simp only [List.cons.injEq, and_true] at hc
    subst hm
    have hx1 : x.1 = .slice (elems.map (·.1)) (rest.map (·.1)) := by rw [hx]
    rw [hx1] at hw
    obtain ⟨hmx', hlt⟩ := light_slice Tryd.underlying23 bIt hw
    rw [List.length_map, hlen] at hmx'
    have each : ∀ j, j < len → ∃ cs y, W.cells? 0 (a.add (j * 4)) 4 = some cs ∧ elems[j]? = some y ∧ Ok4 W m cs y.1 := by
      intro j hj
      have h1 := hel j hj
      rw [cIt, List.getElem?_eq_getElem (show j < elems.length by omega), Option.bind_eq_some_iff] at h1
      obtain ⟨cs, hcs, hy⟩ := h1
      exact ⟨cs, _, hcs, List.getElem?_eq_getElem (by omega), ih m (by omega) hy (hlt _ (List.mem_map.2 ⟨_, List.getElem_mem _, rfl⟩))⟩
    obtain ⟨ts, ht1, ht2⟩ := trees_of (P := fun j t => ∃ cs y v0 v1 v2 v3, W.cells? 0 (a.add (j * 4)) 4 = some cs ∧ elems[j]? = some y ∧ cs = [v0, v1, v2, v3] ∧ ItV W m (fun _ => True) (.agg #[v0, v1, v2, v3]) t ∧ ∀ e, (enc e t).length ≤ 9 * Rows.uptoBulk y.1) len (fun j hj => by
      obtain ⟨cs, y, h1, h2, v0, v1, v2, v3, t, h3, h4, h5⟩ := each j hj
      exact ⟨t, cs, y, v0, v1, v2, v3, h1, h2, h3, h4, h5⟩)
    refine ⟨some a, cap, ts, by rw [ht1]; exact hc, by omega, by omega, (fun e => by cases e), fun e => ?_, fun j y hy => ?_⟩
    · have hb := bulk_flat (f := enc e) ts (elems.map (·.1)) (by rw [List.length_map]; omega) (fun j t d ht hd => by
        obtain ⟨cs, y, v0, v1, v2, v3, h1, h2, h3, h4, h5⟩ := ht2 j t ht
        rw [List.getElem?_map, h2] at hd
        cases hd
        exact h5 e)
      rw [hx]
      simp only [Rows.uptoBulk]
      omega
    · have hj : j < len := by rw [← ht1]; exact (List.getElem?_eq_some_iff.1 hy).1
      obtain ⟨cs0, y0, h01, _⟩ := each 0 (by omega)
      have hs := spot_of h01
      obtain ⟨b, off, sp⟩ := a
      subst hs
      obtain ⟨cs, y', v0, v1, v2, v3, h1, h2, h3, h4, h5⟩ := ht2 j y hy
      rw [Ne.addr_add] at h1
      obtain ⟨u0, u1, u2, u3, e, c0, c1, c2, c3⟩ := cells_four h1
      rw [h3] at e
      cases e
      exact ⟨b, off, v0, v1, v2, v3, rfl, c0, c1, c2, c3, h4⟩
theorem trod_bytes {H : Type} {ec : TypeId × Value → H} {W : World} {n : Nat} {v : Value} {x : DataW H × List MemPlace}
    (h : DataW.trod ec Tryd.prog W 0 (fun _ => true) true n 22 [v] = some x) (hwt : Light 22 x.1) :
    ∃ (pb : Option Addr) (cb : Nat) (l : List (BitVec 8)), v = .slice pb l.length cb ∧ l.length ≤ 4611686018427387904 ∧ l.length ≤ cb ∧ (pb = none → cb = 0) ∧ l.length ≤ Rows.uptoBulk x.1 ∧ SrcB pb l W := by
  rcases open_ints Tryd.underlying22 Tryd.underlying5 cU8 h with ⟨hc, _⟩ | ⟨a, len, cap, zs, hc, _, hl, hm, hz, hx, hcell, hw⟩
  · simp only [List.cons.injEq, and_true] at hc
    exact ⟨none, 0, [], hc, Nat.zero_le _, Nat.le_refl _, fun _ => rfl, Nat.zero_le _, .inl rfl⟩
  · simp only [List.cons.injEq, and_true] at hc
    have hz' : zs.length = cap := by simpa using hz
    have hx1 : x.1 = .slice (lits .u8 (zs.take len)) (lits .u8 (zs.drop len)) := by rw [hx]
    rw [hx1] at hwt
    have hm' := (light_slice Tryd.underlying22 bU8 hwt).1
    rw [show (lits (H := H) .u8 (zs.take len)).length = len by simp [lits]; omega] at hm'
    have hll : ((zs.take len).map (fun z => BitVec.ofNat 8 z.toNat)).length = len := by simp; omega
    refine ⟨some a, cap, (zs.take len).map (fun z => BitVec.ofNat 8 z.toNat), by rw [hll]; exact hc, by omega, by omega, (fun e => by cases e), ?_, ?_⟩
    · rw [hll, hx]
      have := bulk_len (H := H) (lits .u8 (zs.take len))
      simp only [Rows.uptoBulk]
      have h2 : (lits (H := H) .u8 (zs.take len)).length = len := by simp [lits]; omega
      omega
    · rcases Nat.eq_zero_or_pos len with h0 | h0
      · subst h0
        exact .inl (by simp)
      · have hs : a.spot = none := Nl.addr_at (v := .int .u8 (zs.getD 0 0)) (by simpa [Addr.add] using hcell 0 (by omega))
        obtain ⟨b, off, sp⟩ := a
        subst hs
        refine .inr ⟨b, off, rfl, fun i x hx => ?_⟩
        rw [List.getElem?_map, Option.map_eq_some_iff] at hx
        obtain ⟨z, hx, rfl⟩ := hx
        have hi : i < len := by have := (List.getElem?_eq_some_iff.1 hx).1; simp at this; omega
        rw [List.getElem?_take, if_pos hi] at hx
        have e := hcell i (by omega)
        rw [Ne.addr_add] at e
        rw [e, List.getD_eq_getElem?_getD, hx]
        exact congrArg some (w8_of (wf_u8 (hw z (List.mem_of_getElem? hx))))
theorem enc_any (e : Nat) (t : It) {B : Nat} (h : ∀ e, (t.l.flatMap (enc e)).length ≤ 9 * B) : (enc e t).length ≤ 9 + t.b.length + 9 * B := by
  have hL : (encL t).length ≤ 9 + t.b.length := by
    unfold encL
    split
    · simp [beI_length]
    · simp [beI_length]; omega
  cases e with
  | zero => show (encL t).length ≤ _; omega
  | succ e =>
    by_cases h3 : t.k = 3
    · rw [enc3 h3 e, List.length_cons, List.length_append, beI_length]
      have := h e
      omega
    · have : enc (e + 1) t = encL t := by simp [enc, h3]
      rw [this]; omega
theorem trod_item {H : Type} {ec : TypeId × Value → H} {W : World} (fuel : Nat) : ∀ {cs : List Value} {x : DataW H × List MemPlace}, DataW.trod ec Tryd.prog W 0 (fun _ => true) true fuel 25 cs = some x → Light 25 x.1 → Ok4 W fuel cs x.1 := by
  induction fuel using Nat.strongRecOn with
  | _ fuel ih =>
    intro cs x h hw
    cases fuel with
    | zero => simp [DataW.trod] at h
    | succ fuel =>
      have h' := h
      unfold DataW.trod at h'
      rw [Tryd.underlying25] at h'
      dsimp only at h'
      split at h'
      · rename_i hlen
        rw [cIt] at hlen
        match cs, hlen with
        | [v0, v1, v2, v3], _ =>
          simp only [Option.map_eq_some_iff] at h'
          obtain ⟨xs, hxs, hx⟩ := h'
          have g := fun i f hi => mapM_some_get hxs i f hi
          have g0 := g 0 _ rfl
          have g1 := g 1 _ rfl
          have g2 := g 2 _ rfl
          have g3 := g 3 _ rfl
          dsimp only at g0 g1 g2 g3
          rw [cI64] at g0 g1
          rw [cSB] at g2
          rw [cSL] at g3
          have hxl : xs.length = 4 := mapM_some_length hxs
          match xs, hxl, hx, g0, g1, g2, g3 with
          | [y0, y1, y2, y3], _, hx, g0, g1, g2, g3 =>
            obtain ⟨k, e0, _, w0⟩ := DataW.trod_int Tryd.underlying3 g0
            obtain ⟨n, e1, _, w1⟩ := DataW.trod_int Tryd.underlying3 g1
            have hx1 : x.1 = .agg [y0.1, y1.1, y2.1, y3.1] := by rw [← hx]; rfl
            rw [hx1] at hw
            have hw2 : Light 22 y2.1 := fun m hm => hw m (by
              simp only [DataW.weights, Tryd.underlying25]
              exact DataW.weights_mem_each (j := 2) rfl rfl m hm)
            have hw3 : Light 23 y3.1 := fun m hm => hw m (by
              simp only [DataW.weights, Tryd.underlying25]
              exact DataW.weights_mem_each (j := 3) rfl rfl m hm)
            obtain ⟨pb, cb, l, e2, hb1, hb2, hb3, hb4, hb5⟩ := trod_bytes g2 hw2
            obtain ⟨pl, cl, ts, e3, hl1, hl2, hl3, hl4, hl5⟩ := trod_list (fun m hm => ih m (by omega)) g3 hw3
            have e0' : v0 = .int .i64 k := by simpa using e0
            have e1' : v1 = .int .i64 n := by simpa using e1
            subst e0' e1' e2 e3
            refine ⟨_, _, _, _, .mk k n l ts, rfl, ?_, fun e => ?_⟩
            · refine ⟨pb, cb, pl, cl, rfl, wf_i64 w0, wf_i64 w1, hb3, hb2, hb1, hl1, ?_, fun j y hy => ?_⟩
              · rcases hb5 with h0 | ⟨b, off, e, h⟩
                · exact .inl h0
                · exact .inr ⟨b, off, e, trivial, h⟩
              · obtain ⟨b, off, u0, u1, u2, u3, e, c0, c1, c2, c3, hi⟩ := hl5 j y hy
                exact ⟨b, off, u0, u1, u2, u3, e, trivial, c0, c1, c2, c3, hi.deep (by omega)⟩
            · have h9 := enc_any e (.mk k n l ts) (B := Rows.uptoBulk y3.1) hl4
              have hbl : (It.mk k n l ts).b.length ≤ Rows.uptoBulk y2.1 := hb4
              have o0 := bulk_one y0.1
              have o1 := bulk_one y1.1
              rw [hx1]
              simp only [Rows.uptoBulk, Rows.uptoBulkAll]
              omega
      · cases h'
theorem open_item {H : Type} {ec : TypeId × Value → H} {W : World} {r : Reach} {b0 : Nat} {v : Value} {d : DataW H} {p : List MemPlace}
    (hv : Value.okWide Tryd.prog W r b0 25 v) (h : DataW.Trod ec Tryd.prog W 0 (fun _ => true) true 25 v d p) (hw : Light 25 d) :
    ∃ v0 v1 v2 v3 k t, v = .agg #[v0, v1, v2, v3] ∧ ItV W k (fun _ => True) (.agg #[v0, v1, v2, v3]) t ∧ ∀ e, (enc e t).length ≤ 9 * Rows.uptoBulk d := by
  simp only [Value.okWide, Tryd.underlying25] at hv
  obtain ⟨cs, rfl, h2, _⟩ := hv
  obtain ⟨fuel, hf⟩ := h
  have hf' : DataW.trod ec Tryd.prog W 0 (fun _ => true) true fuel 25 cs.toList = some (d, p) := by simpa [Value.cells] using hf
  obtain ⟨v0, v1, v2, v3, t, e, hi, hb⟩ := trod_item fuel hf' hw
  refine ⟨v0, v1, v2, v3, fuel, t, ?_, hi, hb⟩
  congr 1
  apply Array.ext'
  exact e
/-- A slice of items among the arguments. -/
theorem open_items {H : Type} {ec : TypeId × Value → H} {W : World} {r : Reach} {b0 : Nat} {v : Value} {d : DataW H} {p : List MemPlace}
    (hv : Value.okWide Tryd.prog W r b0 23 v) (h : DataW.Trod ec Tryd.prog W 0 (fun _ => true) true 23 v d p) (hw : Light 23 d) :
    ∃ (k : Nat) (q : Option Addr) (n c : Nat), v = .slice q n c ∧ OkL W k v d := by
  obtain ⟨a0, len0, cap0, rfl⟩ := okWide_slice Tryd.underlying23 hv
  obtain ⟨fuel, hf⟩ := h
  have hf' : DataW.trod ec Tryd.prog W 0 (fun _ => true) true fuel 23 [.slice a0 len0 cap0] = some (d, p) := by simpa [Value.cells] using hf
  exact ⟨fuel - 1, a0, len0, cap0, rfl, trod_list (fun m _ {_ _} h => trod_item m h) hf' hw⟩
end Go.Proofs.YtcngcdfngifjnaaDoor.Dl
