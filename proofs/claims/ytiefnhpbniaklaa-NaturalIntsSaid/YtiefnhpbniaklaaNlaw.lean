/- The frame of a law over natural numbers: an argument opened, the law's end. -/
import Derived.Test.YtiefnhpbniaklaaNadd
import Derived.Test.YtiefnhpbniaklaaRows
import Derived.WalkKit
import Derived.ProofKit
import Derived.OpenShut
import Derived.OpenVars
import Derived.ChangeSlices
namespace Go.Proofs.Ytiefnhpbniaklaa.Nl
open Go.ChangeShapes Go.WideShapes Go.ChangeAt Go.RowKit Go.WideElems Go.Proofs.Ytiefnhpbniaklaa.Nm Go.Proofs.Ytiefnhpbniaklaa.Ne

theorem own : ownKnob Try.prog.godebug = none := by kernel_rfl
theorem laidOut : laidOutB Try.prog = true := by kernel_rfl

/-- An argument: a natural number of any length. -/
def Nin (W : World) (p : Option Addr) (n c : Nat) : Prop := ∃ l : List Nat, l.length = n ∧ n ≤ c ∧ (p = none → n = 0 ∧ c = 0) ∧ Rd W p l ∧ ok l ∧ n ≤ 9223372036854775807
theorem Nin.nw {W : World} {p : Option Addr} {n c : Nat} (h : Nin W p n c) (hn : n ≤ 1048576) : ∃ l, Nw W p n c l := by
  obtain ⟨l, h1, h2, h3, h4, h5, _⟩ := h
  exact ⟨l, h1, h2, h3, h4, h5, hn⟩
theorem Nin.lt {W : World} {p : Option Addr} {n c : Nat} (h : Nin W p n c) : n ≤ 9223372036854775807 := by
  obtain ⟨_, _, _, _, _, _, h6⟩ := h
  exact h6

theorem wf_u32 {n : Int} (h : (Lit.int .u32 n).wf = true) : 0 ≤ n ∧ n < 4294967296 := by
  simp [Lit.wf, IntKind.min, IntKind.max, IntKind.signed, IntKind.bits] at h
  omega
theorem ok_toNat {zs : List Int} (h : ∀ n ∈ zs, (Lit.int .u32 n).wf = true) : ok (zs.map Int.toNat) := by
  intro x hx
  obtain ⟨z, hz, rfl⟩ := List.mem_map.1 hx
  have := wf_u32 (h z hz)
  omega

theorem maxLen_le : maxLen ≤ 9223372036854775807 := by decide
theorem cellsNat : Try.prog.cellsOf 24 = 1 := by kernel_rfl
theorem cellsSl : Try.prog.cellsOf 22 = 1 := by kernel_rfl
theorem cellsU : Try.prog.cellsOf 62 = 1 := by kernel_rfl

theorem array1 {α : Type} {cs : Array α} (h : cs.size = 1) : ∃ c0, cs = #[c0] := by
  obtain ⟨l⟩ := cs
  match l, h with
  | [c0], _ => exact ⟨c0, rfl⟩

theorem addr_at {W : World} {a : Addr} {v : Value} (h : W.cell? a = some v) : a.spot = none := by
  unfold World.cell? at h
  cases hs : a.spot with
  | none => rfl
  | some x =>
    simp only [hs, Option.isSome_some, if_true] at h
    split at h <;> cases h

set_option maxRecDepth 100000 in
theorem open_nat {H : Type} {enc : TypeId × Value → H} {W : World} {r : Reach} {b0 : Nat} {v : Value} {d : DataW H} {p : List MemPlace}
    (hv : Value.okWide Try.prog W r b0 24 v) (h : DataW.Trod enc Try.prog W 0 (fun _ => true) true 24 v d p) :
    ∃ (q : Option Addr) (n c : Nat), v = .agg #[.slice q n c] ∧ Nin W q n c := by
  obtain ⟨cs, rfl, hsz⟩ := okWide_struct Try.underlying24 hv
  obtain ⟨c0, rfl⟩ := array1 (hsz.trans cellsNat)
  obtain ⟨fuel, hf⟩ := h
  obtain ⟨y0, n, hx, _, h0⟩ := trod_struct1 Try.underlying24 hf
  have h1 : DataW.trod enc Try.prog W 0 (fun _ => true) true n 22 [c0] = some y0 := by
    simpa [Value.cells, cellsSl] using h0
  rcases open_ints Try.underlying22 Try.underlying62 cellsU h1 with ⟨hc, _⟩ | ⟨a, len, cap, zs, hc, _, hl, hm, hz, _, hcell, hw⟩
  · obtain rfl : c0 = .slice none 0 0 := by simpa using hc
    exact ⟨none, 0, 0, rfl, [], rfl, Nat.le_refl _, fun _ => ⟨rfl, rfl⟩, .inl rfl, ok_nil, by decide⟩
  · obtain rfl : c0 = .slice (some a) len cap := by simpa using hc
    have hz' : zs.length = cap := by simpa using hz
    have hm' : cap ≤ 9223372036854775807 := Nat.le_trans hm maxLen_le
    refine ⟨some a, len, cap, rfl, (zs.take len).map Int.toNat, by simp; omega, hl, (fun e => by cases e), ?_, ok_toNat (fun n hn => hw n (List.mem_of_mem_take hn)), by omega⟩
    rcases Nat.eq_zero_or_pos len with h0 | h0
    · subst h0
      exact .inl (by simp)
    · have hs : a.spot = none := addr_at (v := .int .u32 (zs.getD 0 0)) (by simpa [Addr.add] using hcell 0 (by omega))
      obtain ⟨b, off, sp⟩ := a
      subst hs
      refine .inr ⟨b, off, rfl, fun i hi => ?_⟩
      have hi' : i < len := by simp at hi; omega
      have e := hcell i (by omega)
      rw [addr_add] at e
      rw [e]
      have hiz : i < zs.length := by omega
      have e2 : ((zs.take len).map Int.toNat)[i]?.getD 0 = (zs.getD i 0).toNat := by
        simp [hi', hiz]
      rw [e2]
      have e3 := wf_u32 (hw (zs.getD i 0) (by
        have : zs.getD i 0 = zs[i] := by simp [List.getD, hiz]
        rw [this]; exact List.getElem_mem hiz))
      rw [Int.toNat_of_nonneg e3.1]

/-- Arguments read behind the call as before it. -/
theorem again {H : Type} {enc : TypeId × Value → H} {P : Program} (hl : laidOutB P = true) {W W' : World} (hb : Below W.heap.size W W') {sp : Nat → Bool} :
    ∀ {ts : List TypeId} {vs : List Value} {ds : List (DataW H)} {ps : List MemPlace}, (ts.all fun t => P.readableRec t && decide (t < P.types.size)) = true →
      DataW.TrodAll enc P W 0 (fun _ => true) true ts vs ds ps → (∀ p ∈ ps, sp p.block = true) → DataW.TrodAll enc P W' 0 sp true ts vs ds ps
  | [], [], [], _, _, h, _ => h
  | [], [], _ :: _, _, _, h, _ => h.elim
  | [], _ :: _, _, _, _, h, _ => h.elim
  | _ :: _, [], _, _, _, h, _ => h.elim
  | _ :: _, _ :: _, [], _, _, h, _ => h.elim
  | t :: ts, v :: vs, d :: ds, ps, ht, h, hs => by
    obtain ⟨p, q, h1, h2, rfl⟩ := h
    simp only [List.all_cons, Bool.and_eq_true, decide_eq_true_eq] at ht
    obtain ⟨⟨ht1, ht2⟩, ht3⟩ := ht
    have hlt : ∀ x ∈ p, x.block < W.heap.size := DataW.TrodAll.lt (trodAll_mk1 h1)
    refine ⟨p, q, ?_, again hl hb (by simpa using ht3) h2 (fun x hx => hs x (List.mem_append_right _ hx)), rfl⟩
    obtain ⟨fuel, hf⟩ := h1
    exact ⟨fuel, DataW.trod_stays (kids_book hl ht1) (book_sized ht1) (fun h => by cases h) ⟨ht2, book_self t⟩ hf (fun x hx => hb.same (hlt x hx)) (fun x hx => hs x (List.mem_append_left _ hx))⟩

/-- A law's end: it has returned true, and what was there is there. -/
theorem law_end {H : Type} {enc : TypeId × Value → H} {P : Program} (hl : laidOutB P = true) {f : Func} {s : ChangeSpec} {W W' : World} {args : Array Value} {ds : List (DataW H)} {before : List MemPlace} {tb : TypeId}
    (hb : P.underlying tb = some .bool) (hr : f.resultTypes = #[tb]) (hts : (f.params.toList.all fun t => P.readableRec t && decide (t < P.types.size)) = true) (hv : s.vars = [])
    (hW : DataW.Whole enc P f.params.toList s.vars false W args.toList ds [] before) (hres : (s.fn H (ds ++ [])).results = [.lit (.bool true)]) (hargs : (s.fn H (ds ++ [])).args = ds) (hvars : (s.fn H (ds ++ [])).vars = [])
    (hg : Below W.heap.size W W') : s.post enc P f false true false false W args (.bool true) W' := by
  have hlt := hW.lt
  have hW0 := hW
  obtain ⟨p, q, hA, hV, hp, _, _⟩ := hW
  rw [hv] at hV
  obtain ⟨_, rfl⟩ := trodVars_none hV
  rw [List.append_nil] at hp
  subst hp
  refine ⟨ds, [], before, [], before, [], hW0, ?_, ?_, ?_, hg.frame _, fun h => by cases h⟩
  · rw [hres, hr]
    exact trodAll_mk1 (shut_bool hb _)
  · rw [hargs]
    exact again hl hg hts hA (fun x hx => by simpa using hlt x hx)
  · rw [hvars, hv]
    rfl
end Go.Proofs.Ytiefnhpbniaklaa.Nl
