/- Transcripts: their cells, the operations on them; rows of items. -/
import Derived.Test.YtldgjhmefaapeaaDoorPs4
import Derived.Deep.Cut
import Derived.Deep.MidRow
import Derived.Laws.StructEq
import Derived.Laws.Tables
import Derived.Maps.AppendAt
import Derived.Laws.AppendOwnNone
namespace Go.Proofs.YtldgjhmefaapeaaDoor.Dg
open Go Go.RowKit Go.Proofs.YtldgjhmefaapeaaDoor.Ne Go.Proofs.YtldgjhmefaapeaaDoor.Kr

/-- A transcript's cells. -/
def tr (l : List (BitVec 8)) (c : Int) : List Value := l.map w8 ++ [.int .i64 c]
theorem tr_len {l : List (BitVec 8)} (c : Int) (h : l.length = 32) : (tr l c).length = 33 := by simp [tr, h]
theorem tr_one (l : List (BitVec 8)) (c : Int) : ∀ v ∈ tr l c, v.oneCell' = true := by
  intro v hv
  simp only [tr, List.mem_append, List.mem_map, List.mem_singleton] at hv
  rcases hv with ⟨x, _, rfl⟩ | rfl <;> rfl
theorem tr_cnt {l : List (BitVec 8)} (c : Int) (h : l.length = 32) : (tr l c)[32]? = some (.int .i64 c) := by
  unfold tr
  rw [List.getElem?_append_right (by simp [h])]
  simp [h]
theorem tr_byt {l : List (BitVec 8)} {c : Int} {j : Nat} {v : Value} (h : (l.map w8)[j]? = some v) : (tr l c)[j]? = some v := by
  unfold tr
  rw [List.getElem?_append_left (List.getElem?_eq_some_iff.1 h).1]; exact h
theorem infoT : (Tryd.prog.info? 25).map (·.size) = some 33 := by kernel_rfl
theorem boxT {w : World} {l : List Value} : (Instr.box 25 (.agg l.toArray)).run Tryd.prog w = .ok (.pointer (some ⟨w.heap.size, 0, none⟩)) (w.alloc (.cells l.toArray 25)) := by
  go_simp
theorem newT {w : World} : (Instr.alloc 25 true (.tuple #[])).run Tryd.prog w = .ok (.pointer (some ⟨w.heap.size, 0, none⟩)) (w.alloc (.cells (tr zH 0).toArray 25)) := by
  go_simp
  rfl
theorem ldT {w : World} {b : Nat} {T : TypeId} {l : List Value} (h : w.heap[b]? = some (.cells l.toArray T (0, 0))) (hl : l.length = 33) : (Instr.loadAt 25 (.pointer (some ⟨b, 0, none⟩))).run Tryd.prog w = .ok (.agg l.toArray) w := by
  simp only [Instr.loadAt, Instr.sureAddr, Sem.run_bind, Sem.run_pure, Result.andThen_ok, run_loadVar_row w b T 25 l.toArray (0, 0) _ h Tryd.underlying25 rfl (by rw [List.size_toArray, hl]; kernel_rfl)]
theorem stT {w : World} {b : Nat} {T : TypeId} {old l : List Value} (h : w.heap[b]? = some (.cells old.toArray T (0, 0))) (ho : old.length = 33) (hl : l.length = 33) (h1 : ∀ v ∈ l, v.oneCell' = true) :
    (Instr.storeAt 25 (.pointer (some ⟨b, 0, none⟩)) (.agg l.toArray)).run Tryd.prog w = .ok () (w.setRow b l.toArray) := by
  simp only [Instr.storeAt, Instr.sureAddr, Sem.run_bind, Sem.run_pure, Result.andThen_ok, run_storeVar_row w b T 25 old.toArray l.toArray h (by rw [List.size_toArray, hl]; exact infoT) (by simp [ho, hl]) (Array.all_eq_true_iff_forall_mem.2 (fun v hv => h1 v (by simpa using hv)))]
/-- The state of a transcript is read. -/
theorem ldTH {w : World} {b : Nat} {T : TypeId} {l : List (BitVec 8)} {c : Int} (h : w.heap[b]? = some (.cells (tr l c).toArray T (0, 0))) (hl : l.length = 32) : (Instr.loadAt 23 (.pointer (some ⟨b, 0, none⟩))).run Tryd.prog w = .ok (.agg (l.map w8).toArray) w :=
  run_loadAt_mid w b 0 23 (l.map w8) _ (fun j v hj => by rw [Nat.zero_add]; exact rowCell h (tr_byt hj)) Tryd.underlying23 rfl (by rw [List.length_map, hl]; exact infoH)
theorem bytesAt_tr {W : World} {b : Nat} {T : TypeId} {l : List (BitVec 8)} {c : Int} {fr : Nat × Nat} (h : W.heap[b]? = some (.cells (tr l c).toArray T fr)) : BytesAt b 0 l W := fun j x e => by
  rw [Nat.zero_add]; exact rowCell h (tr_byt (map_get8 e))
theorem bldT0 {w : World} : (Instr.build 25 #[]).run Tryd.prog w = .ok (.agg (tr zH 0).toArray) w := by
  go_simp
  rfl
theorem list32 {l : List Value} (h : l.length = 32) : ∃ a0 a1 a2 a3 a4 a5 a6 a7 a8 a9 b0 b1 b2 b3 b4 b5 b6 b7 b8 b9 c0 c1 c2 c3 c4 c5 c6 c7 c8 c9 d0 d1, l = [a0, a1, a2, a3, a4, a5, a6, a7, a8, a9, b0, b1, b2, b3, b4, b5, b6, b7, b8, b9, c0, c1, c2, c3, c4, c5, c6, c7, c8, c9, d0, d1] := by
  have step : ∀ {n : Nat} {l : List Value}, l.length = n + 1 → ∃ a r, l = a :: r ∧ r.length = n := fun {n l} h => by
    cases l with
    | nil => simp at h
    | cons a r => exact ⟨a, r, rfl, by simpa using h⟩
  obtain ⟨a0, l0, e0, h0⟩ := step h
  obtain ⟨a1, l1, e1, h1⟩ := step h0
  obtain ⟨a2, l2, e2, h2⟩ := step h1
  obtain ⟨a3, l3, e3, h3⟩ := step h2
  obtain ⟨a4, l4, e4, h4⟩ := step h3
  obtain ⟨a5, l5, e5, h5⟩ := step h4
  obtain ⟨a6, l6, e6, h6⟩ := step h5
  obtain ⟨a7, l7, e7, h7⟩ := step h6
  obtain ⟨a8, l8, e8, h8⟩ := step h7
  obtain ⟨a9, l9, e9, h9⟩ := step h8
  obtain ⟨b0, l10, e10, h10⟩ := step h9
  obtain ⟨b1, l11, e11, h11⟩ := step h10
  obtain ⟨b2, l12, e12, h12⟩ := step h11
  obtain ⟨b3, l13, e13, h13⟩ := step h12
  obtain ⟨b4, l14, e14, h14⟩ := step h13
  obtain ⟨b5, l15, e15, h15⟩ := step h14
  obtain ⟨b6, l16, e16, h16⟩ := step h15
  obtain ⟨b7, l17, e17, h17⟩ := step h16
  obtain ⟨b8, l18, e18, h18⟩ := step h17
  obtain ⟨b9, l19, e19, h19⟩ := step h18
  obtain ⟨c0, l20, e20, h20⟩ := step h19
  obtain ⟨c1, l21, e21, h21⟩ := step h20
  obtain ⟨c2, l22, e22, h22⟩ := step h21
  obtain ⟨c3, l23, e23, h23⟩ := step h22
  obtain ⟨c4, l24, e24, h24⟩ := step h23
  obtain ⟨c5, l25, e25, h25⟩ := step h24
  obtain ⟨c6, l26, e26, h26⟩ := step h25
  obtain ⟨c7, l27, e27, h27⟩ := step h26
  obtain ⟨c8, l28, e28, h28⟩ := step h27
  obtain ⟨c9, l29, e29, h29⟩ := step h28
  obtain ⟨d0, l30, e30, h30⟩ := step h29
  obtain ⟨d1, l31, e31, h31⟩ := step h30
  obtain e := List.eq_nil_of_length_eq_zero h31
  exact ⟨a0, a1, a2, a3, a4, a5, a6, a7, a8, a9, b0, b1, b2, b3, b4, b5, b6, b7, b8, b9, c0, c1, c2, c3, c4, c5, c6, c7, c8, c9, d0, d1, by rw [e0, e1, e2, e3, e4, e5, e6, e7, e8, e9, e10, e11, e12, e13, e14, e15, e16, e17, e18, e19, e20, e21, e22, e23, e24, e25, e26, e27, e28, e29, e30, e31, e]⟩
theorem bld32 : ∀ a0 a1 a2 a3 a4 a5 a6 a7 a8 a9 b0 b1 b2 b3 b4 b5 b6 b7 b8 b9 c0 c1 c2 c3 c4 c5 c6 c7 c8 c9 d0 d1 : Value, Tryd.prog.built 25 [(0, .agg #[a0, a1, a2, a3, a4, a5, a6, a7, a8, a9, b0, b1, b2, b3, b4, b5, b6, b7, b8, b9, c0, c1, c2, c3, c4, c5, c6, c7, c8, c9, d0, d1])] = some #[a0, a1, a2, a3, a4, a5, a6, a7, a8, a9, b0, b1, b2, b3, b4, b5, b6, b7, b8, b9, c0, c1, c2, c3, c4, c5, c6, c7, c8, c9, d0, d1, .int .i64 0] := by
  intro a0 a1 a2 a3 a4 a5 a6 a7 a8 a9 b0 b1 b2 b3 b4 b5 b6 b7 b8 b9 c0 c1 c2 c3 c4 c5 c6 c7 c8 c9 d0 d1
  kernel_rfl
theorem bld33 : ∀ (a0 a1 a2 a3 a4 a5 a6 a7 a8 a9 b0 b1 b2 b3 b4 b5 b6 b7 b8 b9 c0 c1 c2 c3 c4 c5 c6 c7 c8 c9 d0 d1 : Value) (c : Int), Tryd.prog.built 25 [(0, .agg #[a0, a1, a2, a3, a4, a5, a6, a7, a8, a9, b0, b1, b2, b3, b4, b5, b6, b7, b8, b9, c0, c1, c2, c3, c4, c5, c6, c7, c8, c9, d0, d1]), (1, .int .i64 c)] = some #[a0, a1, a2, a3, a4, a5, a6, a7, a8, a9, b0, b1, b2, b3, b4, b5, b6, b7, b8, b9, c0, c1, c2, c3, c4, c5, c6, c7, c8, c9, d0, d1, .int .i64 c] := by
  intro a0 a1 a2 a3 a4 a5 a6 a7 a8 a9 b0 b1 b2 b3 b4 b5 b6 b7 b8 b9 c0 c1 c2 c3 c4 c5 c6 c7 c8 c9 d0 d1 c
  kernel_rfl
theorem bldT1 {w : World} {l : List (BitVec 8)} (hl : l.length = 32) : (Instr.build 25 #[(0, .agg (l.map w8).toArray)]).run Tryd.prog w = .ok (.agg (tr l 0).toArray) w := by
  refine run_build w _ _ _ ?_
  unfold tr
  obtain ⟨a0, a1, a2, a3, a4, a5, a6, a7, a8, a9, b0, b1, b2, b3, b4, b5, b6, b7, b8, b9, c0, c1, c2, c3, c4, c5, c6, c7, c8, c9, d0, d1, e⟩ := list32 (l := l.map w8) (by rw [List.length_map, hl])
  rw [e]; exact bld32 a0 a1 a2 a3 a4 a5 a6 a7 a8 a9 b0 b1 b2 b3 b4 b5 b6 b7 b8 b9 c0 c1 c2 c3 c4 c5 c6 c7 c8 c9 d0 d1
theorem bldT2 {w : World} {l : List (BitVec 8)} {c : Int} (hl : l.length = 32) : (Instr.build 25 #[(0, .agg (l.map w8).toArray), (1, .int .i64 c)]).run Tryd.prog w = .ok (.agg (tr l c).toArray) w := by
  refine run_build w _ _ _ ?_
  unfold tr
  obtain ⟨a0, a1, a2, a3, a4, a5, a6, a7, a8, a9, b0, b1, b2, b3, b4, b5, b6, b7, b8, b9, c0, c1, c2, c3, c4, c5, c6, c7, c8, c9, d0, d1, e⟩ := list32 (l := l.map w8) (by rw [List.length_map, hl])
  rw [e]; exact bld33 a0 a1 a2 a3 a4 a5 a6 a7 a8 a9 b0 b1 b2 b3 b4 b5 b6 b7 b8 b9 c0 c1 c2 c3 c4 c5 c6 c7 c8 c9 d0 d1 c
set_option linter.unusedSimpArgs false in
set_option maxRecDepth 100000 in
theorem partT0 {w : World} {l : List (BitVec 8)} {c : Int} (hl : l.length = 32) : (part 23 (tr l c).toArray 0).run Tryd.prog w = .ok (.agg (l.map w8).toArray) w := by
  have hx : (tr l c).toArray.extract 0 (0 + 32) = (l.map w8).toArray := by
    unfold tr
    simp [hl]
  have hi : ∃ i, Tryd.prog.info? 23 = some i := ⟨_, rfl⟩
  obtain ⟨i, hi⟩ := hi
  have hc : Tryd.prog.cellsOf 23 = 32 := by kernel_rfl
  simp [part, isAgg, run_underlying Tryd.underlying23, run_sizeOf w hi, hc]
  simpa using hx
theorem partT1 {w : World} {l : List (BitVec 8)} {c : Int} (hl : l.length = 32) : (part 3 (tr l c).toArray 32).run Tryd.prog w = .ok (.int .i64 c) w :=
  run_part_plain w (by kernel_rfl) (by simpa using tr_cnt c hl)
set_option maxRecDepth 100000 in
theorem eqIn8 {w : World} {d : Nat} {la lb : List (BitVec 8)} (ha : la.length = 32) (hb : lb.length = 32) : (Op.equalIn (d + 1 + 1) 23 (.agg (la.map w8).toArray) (.agg (lb.map w8).toArray)).run Tryd.prog w = .ok (decide (la = lb)) w := by
  have hi : ∃ i, Tryd.prog.info? 5 = some i := ⟨_, rfl⟩
  obtain ⟨i, hi⟩ := hi
  have hr := run_equalIn_array (P := Tryd.prog) w (d + 1) (la.map w8).toArray (lb.map w8).toArray Tryd.underlying23 hi
  have hc : Tryd.prog.cellsOf 5 = 1 := by kernel_rfl
  rw [hc, List.range_eq_range', eqItems8 32 0 (by omega) (by omega), List.drop_zero, List.drop_zero] at hr
  exact hr
set_option linter.unusedSimpArgs false in
set_option maxRecDepth 100000 in
theorem eqInT {w : World} {la lb : List (BitVec 8)} {x y : Int} (ha : la.length = 32) (hb : lb.length = 32) : (Op.equalIn 10000 25 (.agg (tr la x).toArray) (.agg (tr lb y).toArray)).run Tryd.prog w = .ok (decide (la = lb ∧ x = y)) w := by
  have hr := run_equalIn_struct (P := Tryd.prog) w 9999 25 (tr la x).toArray (tr lb y).toArray (by kernel_rfl) (by kernel_rfl)
  have hf : ∃ f g : Field, (Tryd.prog.fieldsOf 25).toList = [f, g] ∧ f.name ≠ "_" ∧ g.name ≠ "_" ∧ f.type = 23 ∧ f.offset = 0 ∧ g.type = 3 ∧ g.offset = 32 := ⟨_, _, rfl, by decide, by decide, rfl, rfl, rfl, rfl⟩
  obtain ⟨f, g, e1, e2, e3, e4, e5, e6, e7⟩ := hf
  rw [e1] at hr
  simp only [Op.eqFields, e2, e3, e4, e5, e6, e7, ne_eq, not_false_eq_true, if_true, Sem.run_bind, partT0 ha, partT0 hb, Result.andThen_ok, eqIn8 (d := 9997) ha hb] at hr
  rw [hr]
  by_cases h1 : la = lb
  · simp only [h1, decide_true, Bool.not_true, Bool.false_eq_true, if_false, Sem.run_bind, partT1 hb, Result.andThen_ok, run_equalIn_int w 9998 3 _ _ _ _ Tryd.underlying3, true_and]
    by_cases h2 : x = y <;> simp [h2]
  · simp [h1]
theorem eqT {w : World} {la lb : List (BitVec 8)} {x y : Int} {b : Bool} (ha : la.length = 32) (hb : lb.length = 32) (h : decide (la = lb ∧ x = y) = b) : (binOp .eql 25 (.agg (tr la x).toArray) (.agg (tr lb y).toArray)).run Tryd.prog w = .ok (.bool b) w := by
  rw [run_eql_struct, eqInT ha hb, h]; rfl
theorem neT {w : World} {la lb : List (BitVec 8)} {x y : Int} {b : Bool} (ha : la.length = 32) (hb : lb.length = 32) (h : (!decide (la = lb ∧ x = y)) = b) : (binOp .neq 25 (.agg (tr la x).toArray) (.agg (tr lb y).toArray)).run Tryd.prog w = .ok (.bool b) w := by
  rw [run_neq_struct, eqInT ha hb, ← h]; rfl
/-! Rows of items. -/
theorem src_lt {p : Option Addr} {l : List (BitVec 8)} {w : World} {b off : Nat} (h : SrcB p l w) (hp : p = some ⟨b, off, none⟩) (hl : 0 < l.length) : b < w.heap.size := by
  obtain ⟨b2, o2, e, h⟩ := src_some h hl
  rw [e] at hp
  cases hp
  have h1 := h 0 _ (List.getElem?_eq_getElem hl)
  rcases Nat.lt_or_ge b w.heap.size with h' | h'
  · exact h'
  · simp [World.cell?, Array.getElem?_eq_none h'] at h1
/-- The list that is hashed. -/
def fr (st lb : List (BitVec 8)) (xs : List It) : It := .mk 3 0 [] (.mk 2 0 st [] :: .mk 2 0 lb [] :: xs)
theorem inR0 : InR 0 := ⟨by decide, by decide⟩
theorem inR1 : InR 1 := ⟨by decide, by decide⟩
theorem inR2 : InR 2 := ⟨by decide, by decide⟩
theorem inR3 : InR 3 := ⟨by decide, by decide⟩
theorem itv_bytes {W : World} {b c n : Nat} {l : List (BitVec 8)} (h : BytesAt b 0 l W) (hl : l.length = n) (hc : n ≤ c) (hn : n ≤ 4611686018427387904) :
    ItV W 1 (fun _ => True) (.agg #[.int .i64 2, .int .i64 0, .slice (some ⟨b, 0, none⟩) n c, .slice none 0 0]) (.mk 2 0 l []) :=
  ⟨_, c, none, 0, by rw [← hl]; rfl, inR2, inR0, (fun e => by cases e), by rw [← hl] at hc; exact hc, by rw [← hl] at hn; exact hn, Nat.zero_le _, .inr ⟨b, 0, rfl, trivial, h⟩, fun j x hx => by cases hx⟩
theorem itv_int {W : World} {n : Int} (h : InR n) : ItV W 1 (fun _ => True) (.agg #[.int .i64 1, .int .i64 n, .slice none 0 0, .slice none 0 0]) (.mk 1 n [] []) :=
  ⟨none, 0, none, 0, rfl, inR1, h, fun _ => rfl, Nat.zero_le _, Nat.zero_le _, Nat.zero_le _, .inl rfl, fun j x hx => by cases hx⟩
/-- Each of the row's items reads as this. -/
def KidT (W : World) (d : Nat) (xs : List Value) (ts : List It) : Prop :=
  ∀ j x, ts[j]? = some x → ∃ v0 v1 v2 v3, xs[j * 4]? = some v0 ∧ xs[j * 4 + 1]? = some v1 ∧ xs[j * 4 + 2]? = some v2 ∧ xs[j * 4 + 3]? = some v3 ∧ ItV W d (fun _ => True) (.agg #[v0, v1, v2, v3]) x
theorem KidT.nil (W : World) (d : Nat) : KidT W d [] [] := fun j x hx => by simp at hx
theorem KidT.grow {W W' : World} {d : Nat} {xs : List Value} {ts : List It} (h : KidT W d xs ts) (g : Gr W W') : KidT W' d xs ts := fun j x hx => by
  obtain ⟨v0, v1, v2, v3, e0, e1, e2, e3, hi⟩ := h j x hx
  exact ⟨v0, v1, v2, v3, e0, e1, e2, e3, hi.grow g⟩
theorem KidT.snoc {W : World} {d k : Nat} {xs : List Value} {ts : List It} {v0 v1 v2 v3 : Value} {x : It} (h : KidT W d xs ts) (hk : ts.length = k) (hxs : xs.length = k * 4) (hx : ItV W d (fun _ => True) (.agg #[v0, v1, v2, v3]) x) : KidT W d (xs ++ [v0, v1, v2, v3]) (ts ++ [x]) := by
  intro j y hy
  rcases Nat.lt_or_ge j ts.length with hj | hj
  · rw [List.getElem?_append_left hj] at hy
    obtain ⟨a0, a1, a2, a3, e0, e1, e2, e3, hi⟩ := h j y hy
    exact ⟨a0, a1, a2, a3, by rw [List.getElem?_append_left (by omega)]; exact e0, by rw [List.getElem?_append_left (by omega)]; exact e1, by rw [List.getElem?_append_left (by omega)]; exact e2, by rw [List.getElem?_append_left (by omega)]; exact e3, hi⟩
  · have hj2 : j = ts.length := by
      have := (List.getElem?_eq_some_iff.1 hy).1
      rw [List.length_append] at this
      simp at this
      omega
    rw [hj2, List.getElem?_append_right (Nat.le_refl _), Nat.sub_self] at hy
    obtain rfl : x = y := by simpa using hy
    refine ⟨v0, v1, v2, v3, ?_, ?_, ?_, ?_, hx⟩
    · rw [List.getElem?_append_right (by omega), show j * 4 - xs.length = 0 by omega]; rfl
    · rw [List.getElem?_append_right (by omega), show j * 4 + 1 - xs.length = 1 by omega]; rfl
    · rw [List.getElem?_append_right (by omega), show j * 4 + 2 - xs.length = 2 by omega]; rfl
    · rw [List.getElem?_append_right (by omega), show j * 4 + 3 - xs.length = 3 by omega]; rfl
theorem itv_row {W : World} {B k d : Nat} {v : Value} {xs : List Value} {ts : List It} (ho : W.ownsRow B 49 4 v k xs) (hk : ts.length = k) (hb : k ≤ 4611686018427387904) (h : KidT W d xs ts) :
    ItV W (d + 1) (fun _ => True) (.agg #[.int .i64 3, .int .i64 0, .slice none 0 0, v]) (.mk 3 0 [] ts) := by
  have h3 : InR 3 := ⟨by decide, by decide⟩
  have h0 : InR 0 := ⟨by decide, by decide⟩
  rcases ho.2 with ⟨e1, e2⟩ | ⟨g, cap, cur, e1, e2, e3, e4, _, _, e7⟩
  · subst e1
    refine ⟨none, 0, none, 0, by rw [show (It.mk 3 0 [] ts).l.length = 0 from hk.trans e2]; rfl, h3, h0, fun _ => rfl, Nat.zero_le _, Nat.zero_le _, hk ▸ hb, .inl rfl, fun j x hx => ?_⟩
    have := (List.getElem?_eq_some_iff.1 hx).1
    have h2 : (It.mk 3 0 [] ts).l.length = ts.length := rfl
    omega
  · subst e1
    refine ⟨none, 0, _, cap, by rw [show (It.mk 3 0 [] ts).l.length = k from hk]; rfl, h3, h0, fun _ => rfl, Nat.zero_le _, Nat.zero_le _, hk ▸ hb, .inl rfl, fun j x hx => ?_⟩
    have hj : j < k := by have := (List.getElem?_eq_some_iff.1 hx).1; have h2 : (It.mk 3 0 [] ts).l.length = ts.length := rfl; omega
    obtain ⟨v0, v1, v2, v3, c0, c1, c2, c3, hi⟩ := h j x hx
    have hc : ∀ i u, i < k * 4 → xs[i]? = some u → W.cell? ⟨g, 0 + i, none⟩ = some u := fun i u hi hu => by
      rw [Nat.zero_add, cell_of_row W g i cur _ _ e3]
      rw [← e7, List.getElem?_take, if_pos hi] at hu
      simpa using hu
    exact ⟨g, 0, v0, v1, v2, v3, rfl, trivial, hc _ _ (by omega) c0, hc _ _ (by omega) c1, hc _ _ (by omega) c2, hc _ _ (by omega) c3, hi⟩
theorem row_lit {W : World} {B k : Nat} {xs : List Value} (hB : B ≤ W.heap.size) (hk : xs.length = k * 4) (hs : k ≤ 1000) : (W.alloc (.cells xs.toArray 49)).ownsRow B 49 4 (.slice (some ⟨W.heap.size, 0, none⟩) k k) k xs :=
  ⟨hk, .inr ⟨W.heap.size, k, xs.toArray, rfl, hB, heap_alloc_last _ _, Nat.le_refl _, by unfold maxLen; omega, by rw [List.size_toArray, hk], by rw [← hk]; exact List.take_length⟩⟩
theorem infoIt : (Tryd.prog.info? 49).map (fun i => (i.zero, i.size)) = some (some (.agg #[.int .i64 0, .int .i64 0, .slice none 0 0, .slice none 0 0]), 4) := by kernel_rfl
theorem infoItB : ∃ i, Tryd.prog.info? 49 = some i ∧ i.zero = some (.agg #[.int .i64 0, .int .i64 0, .slice none 0 0, .slice none 0 0]) ∧ i.size = 4 ∧ i.bytes ≤ 100 := by
  cases hq : Tryd.prog.info? 49 with
  | none => have h := infoIt; rw [hq] at h; cases h
  | some i =>
    have h := infoIt
    rw [hq] at h
    simp only [Option.map_some, Option.some.injEq, Prod.mk.injEq] at h
    refine ⟨i, rfl, h.1, h.2, ?_⟩
    have hb : (Tryd.prog.info? 49).map (fun i => decide (i.bytes ≤ 100)) = some true := by kernel_rfl
    rw [hq] at hb
    simpa using hb
theorem wp_appJ {B : Nat} {W : World} {o : Oper} {a : Act} {K : Act → World → Prop} {Q : Exit → Act → World → Prop} (s x : Operand) (ho : o.op = .call { callee := .builtin .append, args := #[s, x], argTypes := #[47, 47] })
    {v : Value} {k bone : Nat} {xs : List Value} {v0 v1 v2 v3 : Value} (hs : a.eval s = v) (hx : a.eval x = .slice (some ⟨bone, 0, none⟩) 1 1) (hsrc : SrcG (some ⟨bone, 0, none⟩) [v0, v1, v2, v3] W) (h1 : ∀ u ∈ ([v0, v1, v2, v3] : List Value), u.oneCell' = true)
    (hB : B ≤ W.heap.size) (HR : W.ownsRow B 49 4 v k xs) (hb : k ≤ 100000)
    (h : ∀ u W', W'.ownsRow B 49 4 u (k + 1) (xs ++ [v0, v1, v2, v3]) → W.grownBy W' v.ownBlock → (u.ownBlock = v.ownBlock ∨ u.ownBlock = some W.heap.size) → K (a.put o.dst u) W') : o.wp Tryd.prog a W K Q := by
  obtain ⟨i0, hi0, hz0, hz1, hz2⟩ := infoItB
  have hbytes : (k + 1) * i0.bytes ≤ 140737488355328 := by
    have : (k + 1) * i0.bytes ≤ 100001 * 100 := Nat.mul_le_mul (by omega) hz2
    omega
  obtain ⟨u, W', hr, ho1, hg1, _, hb1⟩ := run_append_own_at (P := Tryd.prog) W B 47 o.type 49 i0 _ 4 i0.bytes Tryd.underlying47 hi0 hz0 hz1 rfl (by rfl) (by decide) v k xs HR ⟨bone, 0, none⟩ 1 1 [v0, v1, v2, v3] rfl (fun j u hj => by
    rcases hsrc with h0 | ⟨b, off, e, h2⟩
    · cases h0
    · cases e
      rw [addr_add]; exact h2 j u hj) h1 (by unfold maxLen; omega) hbytes hB
  unfold Oper.wp execOp
  simp only [ho, resolve, invoke, builtin, Sem.run_bind, Sem.run_pure, Result.andThen_ok, List.map_toArray, List.map_cons, List.map_nil, hs, hx, hr]
  exact h u W' ho1 hg1 hb1
theorem wp_appJ0 {B : Nat} {W : World} {o : Oper} {a : Act} {K : Act → World → Prop} {Q : Exit → Act → World → Prop} (s x : Operand) (ho : o.op = .call { callee := .builtin .append, args := #[s, x], argTypes := #[47, 47] })
    {v : Value} {k : Nat} {xs : List Value} (hs : a.eval s = v) (hx : a.eval x = .slice none 0 0) (HR : W.ownsRow B 49 4 v k xs) (h : K (a.put o.dst v) W) : o.wp Tryd.prog a W K Q := by
  obtain ⟨i0, hi0, hz0, hz1, hz2⟩ := infoItB
  have hr := run_append_owned_none (P := Tryd.prog) (w := W) B 47 o.type 49 i0 4 Tryd.underlying47 hi0 v k xs HR
  unfold Oper.wp execOp
  simp only [ho, resolve, invoke, builtin, Sem.run_bind, Sem.run_pure, Result.andThen_ok, List.map_toArray, List.map_cons, List.map_nil, hs, hx, hr]
  exact h
theorem stLs {w : World} {a : Addr} {p : Option Addr} {n c : Nat} {v : Value} (h : w.cell? a = some v) (hf : w.frozen? a = false) : (Instr.storeAt 47 (.pointer (some a)) (.slice p n c)).run Tryd.prog w = .ok () (w.setCell a (.slice p n c)) := by
  go_simp
theorem sliceI {W : World} {B k : Nat} {v : Value} {xs : List Value} (h : W.ownsRow B 49 4 v k xs) : ∃ p c, v = .slice p k c ∧ (p = none → c = 0) := by
  rcases h.2 with ⟨e1, e2⟩ | ⟨g, cap, cur, e1, _⟩
  · exact ⟨none, 0, by rw [e1, e2], fun _ => rfl⟩
  · exact ⟨_, cap, e1, fun e => by cases e⟩
theorem rowI_grow {W W' : World} {B k : Nat} {v : Value} {xs : List Value} (h : W.ownsRow B 49 4 v k xs) (g : ∀ b, v.ownBlock = some b → W'.heap[b]? = W.heap[b]?) : W'.ownsRow B 49 4 v k xs := by
  obtain ⟨h1, h2 | ⟨b, cap, cur, e1, e2, e3, e4⟩⟩ := h
  · exact ⟨h1, .inl h2⟩
  · exact ⟨h1, .inr ⟨b, cap, cur, e1, e2, by rw [g b (by rw [e1]; rfl)]; exact e3, e4⟩⟩
/-! Labels. -/
def okc (x : BitVec 8) : Bool := decide (33 ≤ x.toNat) && decide (x.toNat ≤ 126)
/-- A label. -/
def isL (s : ByteArray) : Bool := decide (s.size ≠ 0) && (decide (s.size ≤ 24) && (s8 s).all okc)
theorem isL_size {s : ByteArray} (h : isL s = true) : 1 ≤ s.size ∧ s.size ≤ 24 := by
  simp only [isL, Bool.and_eq_true, decide_eq_true_eq] at h
  omega
/-- A transcript is valid. -/
def okT (c : Int) : Bool := decide (0 ≤ c) && decide (c ≤ 1000)
theorem vld_fr0 (st lb : List (BitVec 8)) : vld 8 (fr st lb []) = true := by simp [fr, vld, leaf, It.k, It.n, It.b, It.l]
theorem vld_fr1 (st lb : List (BitVec 8)) {x : It} (h : vld 7 x = true) : vld 8 (fr st lb [x]) = true := by
  rw [vld3 rfl 7]
  simp only [fr, It.n, It.b, It.l, List.length_cons, List.length_nil, List.all_cons, List.all_nil, h]
  simp [vld, leaf, It.k, It.n, It.b, It.l]
theorem enc_fr_len {st lb : List (BitVec 8)} (xs : List It) : (enc 8 (fr st lb xs)).length = 5 + (5 + st.length) + (5 + lb.length) + (xs.flatMap (enc 7)).length := by
  rw [enc3 rfl 7]
  simp only [fr, It.l, List.flatMap_cons, List.length_cons, List.length_append, beI_length, enc2 (t := .mk 2 0 st []) rfl 7, enc2 (t := .mk 2 0 lb []) rfl 7, It.b]
  omega
theorem vld_int (n : Int) : vld 7 (.mk 1 n [] []) = true := by simp [vld, leaf, It.k, It.b, It.l]
theorem enc_int_len (n : Int) : (enc 7 (.mk 1 n [] [])).length = 9 := by rw [enc1 rfl 7]; simp [beI_length]
/-- A list of integers. -/
def intsI (l : List Int) : It := .mk 3 0 [] (l.map fun n => .mk 1 n [] [])
theorem vld_ints {l : List Int} (h : l.length ≤ 1000) : vld 7 (intsI l) = true := by
  rw [vld3 rfl 6]
  simp [intsI, It.n, It.b, It.l, h, vld, leaf, It.k]
theorem enc_ints_len (l : List Int) : (enc 7 (intsI l)).length = 5 + 9 * l.length := by
  rw [enc3 rfl 6]
  have h : ∀ l : List Int, ((l.map fun n => It.mk 1 n [] []).flatMap (enc 6)).length = 9 * l.length := by
    intro l
    induction l with
    | nil => rfl
    | cons n l ih => rw [List.map_cons, List.flatMap_cons, List.length_append, ih, enc1 rfl 6, List.length_cons, List.length_cons, beI_length]; omega
  simp only [intsI, It.l, List.length_cons, List.length_append, beI_length, h]
  omega
end Go.Proofs.YtldgjhmefaapeaaDoor.Dg
