/- The contract of slices.Backward at words: an iterator that hands out the words from the last one down. -/
import Derived.RangeFuncNested
import Derived.RangeFuncBound
import Derived.RangeFuncCalls
import Derived.RangeFuncLeaves
import Derived.RangeFuncBox
import Derived.Shelf.Abstract
import Derived.Shelf.RegionOpen
import Derived.OwnWalkIn
import Derived.TacticsInMore
import Derived.LoopNIn
import Derived.LoopIn
import Derived.Test.YtiefnhpbniaklaaNadd
namespace Go.Proofs.Ytiefnhpbniaklaa.Nk
open Go.RowKit Go.Shelf Go.Proofs.Ytiefnhpbniaklaa.Nm Go.Proofs.Ytiefnhpbniaklaa.Ne

attribute [local go_sem] Oper.semAt_some

/-- An index below len. -/
def cl (len x : Nat) : Nat := if x < len then x else 0
theorem cl_lt {len x : Nat} (h : 0 < len) : cl len x < len := by unfold cl; split <;> omega
theorem cl_of {len x : Nat} (h : x < len) : cl len x = x := if_pos h
/-- The first k of len - 1, len - 2, .. -/
def dn (len k : Nat) : List Nat := (List.range k).map fun j => len - 1 - j
theorem dn_succ (len k : Nat) : dn len (k + 1) = dn len k ++ [len - 1 - k] := by simp [dn, List.range_succ]
theorem dn_length (len k : Nat) : (dn len k).length = k := by simp [dn]
/-- What is handed out: an index and a word. -/
def en (len : Nat) (x : Nat × Nat) : Array Value := #[.int .i64 ((cl len x.1 : Nat) : Int), .int .u32 (x.2 : Int)]
/-- The box Bs holds a slice of len words at p, and the word with the index i is one that V permits. -/
def Src (Bs : Nat) (p : Option Addr) (len cap : Nat) (V : Nat → Nat → Prop) (w : World) : Prop :=
  w.cell? ⟨Bs, 0, none⟩ = some (.slice p len cap) ∧ (len = 0 ∨ ∃ b off, p = some ⟨b, off, none⟩ ∧ ∀ i, i < len → ∃ v : Nat, V i v ∧ w.cell? ⟨b, off + i, none⟩ = some (.int .u32 (v : Int)))
theorem Src.keep {Bs : Nat} {p : Option Addr} {len cap : Nat} {V : Nat → Nat → Prop} {w w' : World} (h : Src Bs p len cap V w) (k : ∀ (a : Addr) (v : Value), w.cell? a = some v → w'.cell? a = some v) : Src Bs p len cap V w' := by
  refine ⟨k _ _ h.1, ?_⟩
  rcases h.2 with h0 | ⟨b, off, rfl, hc⟩
  · exact .inl h0
  · refine .inr ⟨b, off, rfl, fun i hi => ?_⟩
    obtain ⟨v, hv, hcv⟩ := hc i hi
    exact ⟨v, hv, k _ _ hcv⟩
theorem Src.at {Bs : Nat} {p : Option Addr} {len cap : Nat} {V : Nat → Nat → Prop} {w : World} (h : Src Bs p len cap V w) (h0 : 0 < len) :
    ∃ b off, p = some ⟨b, off, none⟩ ∧ ∀ i, i < len → ∃ v : Nat, V i v ∧ w.cell? ⟨b, off + i, none⟩ = some (.int .u32 (v : Int)) := by
  rcases h.2 with h | h
  · omega
  · exact h
/-- All that has been handed out when k rounds are over. -/
def Out (V : Nat → Nat → Prop) (len k : Nat) (xs : List (Nat × Nat)) : Prop := xs.map Prod.fst = dn len k ∧ ∀ x ∈ xs, V x.1 x.2
theorem Out.snoc {V : Nat → Nat → Prop} {len k i v : Nat} {xs : List (Nat × Nat)} (h : Out V len k xs) (hi : i = len - 1 - k) (hv : V i v) : Out V len (k + 1) (xs ++ [(i, v)]) := by
  refine ⟨by rw [List.map_append, h.1, dn_succ, hi]; rfl, fun x hx => ?_⟩
  rcases List.mem_append.1 hx with h1 | h1
  · exact h.2 x h1
  · obtain rfl := List.mem_singleton.1 h1
    exact hv
theorem Out.length {V : Nat → Nat → Prop} {len k : Nat} {xs : List (Nat × Nat)} (h : Out V len k xs) : xs.length = k := by
  have := congrArg List.length h.1
  rwa [List.length_map, dn_length] at this

set_option maxRecDepth 100000 in
set_option maxHeartbeats 2000000 in
theorem back1_in (F : Fence) (n : Nat) (hF : F.fn 126) (hro : F.round = none) (hn : 1 ≤ n) (l Bs : Nat) (p : Option Addr) (len cap : Nat) (hreach : len ≤ 1048576) (V : Nat → Nat → Prop) (J Jx : List (Nat × Nat) → World → Prop)
    (hY : ∀ pre x W, J pre W → pre.length < len → YieldAt F (n - 1) Try.prog l (en len x) W fun e W' =>
      (e = .returned (.bool true) ∧ J (pre ++ [x]) W' ∧ (Src Bs p len cap V W → Src Bs p len cap V W')) ∨ (e = .returned (.bool false) ∧ Jx (pre ++ [x]) W'))
    (W : World) (hR : Src Bs p len cap V W) (h0 : J [] W) :
    CallsIn F n Try.prog 126 #[.func (.yield l) #[] #[], .pointer (some ⟨Bs, 0, none⟩)] W fun e W' => (∃ v, e = .returned v) ∧
      ((∃ ys, Out V len len ys ∧ J ys W') ∨ (∃ pre, (∃ k, k ≤ len ∧ Out V len k pre) ∧ Jx pre W')) := by
  have HR := Lib.hid hR
  have hBs := hR.1
  have H0 : Hid (Out V len 0 []) := Lib.hid ⟨rfl, fun x hx => by cases hx⟩
  clear hR
  refine callsIn_of_wp Try.func126 rfl hF ?_ hro
  simp only [Try.ntmps126, List.size_toArray, List.length_cons, List.length_nil, Nat.reduceAdd, Nat.reduceSub, Array.replicate_succ, Array.replicate_zero, List.push_toArray, List.append_toArray, List.nil_append, List.cons_append]
  gi_wp2
  gi_loopw [3] (fun i wr => ∃ (m : Nat) (e : Int) (pre : List (Nat × Nat)), m ≤ len ∧ i = .int .i64 e ∧ e = (m : Int) - 1 ∧ Hid (Out V len (len - m) pre) ∧ J pre wr ∧ Hid (Src Bs p len cap V wr))
    (fun i _ => (intOf i + 1).toNat)
  case atStart => exact ⟨len, _, [], Nat.le_refl _, rfl, rfl, by rw [Nat.sub_self]; exact H0, h0, HR⟩
  case round =>
    obtain ⟨m, e, pre, hm, rfl, he, hO, hJs, HS⟩ := hrel
    have hBox := HS.out.1
    by_cases h0m : m = 0
    · subst h0m
      obtain rfl : e = -1 := by omega
      rw [Nat.sub_zero] at hO
      have HJ := Lib.hid hJs
      clear hJs he
      gi_wp2
      go_end0
      exact ⟨⟨_, rfl⟩, .inl ⟨_, hO.out, HJ.out⟩⟩
    · obtain ⟨j, rfl⟩ : ∃ j, m = j + 1 := ⟨m - 1, by omega⟩
      obtain rfl : e = (j : Int) := by omega
      clear he h0m
      obtain ⟨b, off, rfl, hc⟩ := HS.out.at (by omega)
      obtain ⟨v, hv, hcx⟩ := hc j (by omega)
      obtain ⟨fn, tmps, assign, body, hy, hR⟩ := hY pre (j, v) wr hJs (by rw [hO.out.length]; omega)
      rw [show en len (j, v) = #[.int .i64 (j : Int), .int .u32 (v : Int)] by unfold en; rw [cl_of (show j < len by omega)]] at hy
      have HV := Lib.hid hv
      clear hc hJs hv
      gi_wp2
      refine hR.mono ?_
      rintro e W3 (⟨rfl, hJ3, hk3⟩ | ⟨rfl, hJx3⟩)
      · have HK := Lib.hid (hk3 HS.out)
        have hBox3 := HK.out.1
        clear hk3
        gi_wp2
        go_roundw
        case rel => exact ⟨j, _, pre ++ [(j, v)], by omega, rfl, rfl, Lib.hid (by rw [show len - j = (len - (j + 1)) + 1 by omega]; exact hO.out.snoc (by omega) HV.out), hJ3, HK⟩
        case measure => simp [intOf]
      · gi_wp2
        refine bodyPost_ret (results_none rfl _ _ _) rfl ?_
        exact ⟨⟨_, rfl⟩, .inr ⟨_, ⟨(len - (j + 1)) + 1, by omega, hO.out.snoc (by omega) HV.out⟩, hJx3⟩⟩

set_option maxHeartbeats 1000000 in
/-- slices.Backward(s). -/
theorem back_in (F : Fence) (n : Nat) (hF : F.fn 85) (hro : F.round = none) (a : Option Addr) (len cap : Nat) (w : World) :
    CallsIn F n Try.prog 85 #[.slice a len cap] w fun e w' => e = .returned (.func (.func 126) #[] #[.pointer (some ⟨w.heap.size, 0, none⟩)]) ∧ w' = w.alloc (.cells #[.slice a len cap] 22) := by
  refine callsIn_of_wp Try.func85 rfl hF ?_ hro
  simp only [Try.ntmps85, List.size_toArray, List.length_cons, List.length_nil, Nat.reduceAdd, Nat.reduceSub, Array.replicate_succ, Array.replicate_zero, List.push_toArray, List.append_toArray, List.nil_append, List.cons_append]
  gi_wp2
  go_ret
  exact ⟨rfl, rfl⟩

theorem back_stops (F : Fence) (n : Nat) (hF : F.fn 126) (hro : F.round = none) (hn : 1 ≤ n) (Bs : Nat) (p : Option Addr) (len cap : Nat) (hreach : len ≤ 1048576) (V : Nat → Nat → Prop) (w : World) (hS : Src Bs p len cap V w) :
    SeqStopsK F n Try.prog 126 #[.pointer (some ⟨Bs, 0, none⟩)] (en len) (fun W W' => Src Bs p len cap V W → Src Bs p len cap V W') (Out V len len) (fun pre => ∃ k, k ≤ len ∧ Out V len k pre) len w := fun l J Jx W hW _ _ hY h0 =>
  back1_in F n hF hro hn l Bs p len cap hreach V J Jx hY W (hS.keep fun _ _ h => Gr.cell hW h) h0
theorem src_b {Bs : Nat} {p : Option Addr} {len cap : Nat} {V : Nat → Nat → Prop} {B : Nat} : ∀ (W : World) (l : Nat) (o o' : Obj), B ≤ l → W.heap[l]? = some o → o.isCells = false → o.isWalk = false → Src Bs p len cap V W → Src Bs p len cap V (W.putObj l o') := by
  intro W l o o' _ ho hc _ hS
  refine hS.keep fun a v h => ?_
  exact (cell_kept h (grownBy_putObj' _ l o') (fun r e => by cases e; exact ⟨_, ho, hc⟩))
/-- What speaks of cells that are there abides what the iterator lays beside them. -/
theorem own_keep {β : Type} {B : Nat} {I : β → World → Prop} (h : ∀ s W W', I s W → (∀ (a : Addr) (v : Value), W.cell? a = some v → W'.cell? a = some v ∧ W'.frozen? a = W.frozen? a) → I s W') : OwnFrom B I :=
  fun s W W' _ hs hg hr => h s W W' hs fun _ _ hc => ⟨cell_kept hc hg (fun r e => (hr r e).2), frozen_kept hc hg (fun r e => (hr r e).2)⟩
theorem own_gr {β : Type} {B : Nat} {w : World} (hB : w.heap.size ≤ B) : OwnFrom B (fun (_ : β) W => Gr w W) := ownFrom_below (Nat.le_refl _) hB
theorem Gr.keeps {B : Nat} {W W' : World} (h : Gr W W') : KeepsFrom B W W' :=
  ⟨h.size, fun k _ _ h0 _ => (h.block k (Array.getElem?_eq_some_iff.1 h0).1).trans h0⟩
theorem rd_keep {W W' : World} {p : Option Addr} {l : List Nat} (h : Rd W p l) (k : ∀ (a : Addr) (v : Value), W.cell? a = some v → W'.cell? a = some v ∧ W'.frozen? a = W.frozen? a) : Rd W' p l := by
  rcases h with rfl | ⟨b, off, rfl, hc⟩
  · exact .inl rfl
  · exact .inr ⟨b, off, rfl, fun i hi => (k _ _ (hc i hi)).1⟩
end Go.Proofs.Ytiefnhpbniaklaa.Nk
