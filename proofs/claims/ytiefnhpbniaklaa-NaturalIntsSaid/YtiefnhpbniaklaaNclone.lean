/- The contracts of slices.Clone and slices.Equal at words. -/
import Derived.Test.YtiefnhpbniaklaaNup
import Derived.WalkSpells
namespace Go.Proofs.Ytiefnhpbniaklaa.Ne
open Go.RowKit Go.Proofs.Ytiefnhpbniaklaa.Nm

/-- Words as cells. -/
def cw (l : List Nat) : List Value := l.map fun x : Nat => Value.int .u32 (x : Int)
theorem addr_add (b off i : Nat) : (⟨b, off, none⟩ : Addr).add i = ⟨b, off + i, none⟩ := by unfold Addr.add; split <;> simp_all
theorem cw_length (l : List Nat) : (cw l).length = l.length := by simp [cw]
theorem cw_one (l : List Nat) : ∀ u ∈ cw l, u.oneCell' = true := by intro u hu; obtain ⟨x, _, rfl⟩ := List.mem_map.1 hu; rfl
theorem cw_get {l : List Nat} {i : Nat} (hi : i < l.length) : (cw l)[i]? = some (.int .u32 ((l[i]?.getD 0 : Nat) : Int)) := by simp [cw, hi]
def Cloned (l : List Nat) (w : World) (e : Ending) (w' : World) : Prop :=
  ∃ (p : Option Addr) (cap : Nat), e = .returned (.slice p l.length cap) ∧ l.length ≤ cap ∧ (p = none → l = [] ∧ cap = 0) ∧ Own w.heap.size w' p l ∧ Gr w w'
/-- Words that the call owns. -/
theorem own_row {w : World} {B n : Nat} {v : Value} {l : List Nat} (hn : n = l.length) (h : w.ownsRow B 62 1 v n (cw l)) :
    ∃ (p : Option Addr) (cap : Nat), v = .slice p l.length cap ∧ l.length ≤ cap ∧ (p = none → l = [] ∧ cap = 0) ∧ Own B w p l := by
  subst hn
  rcases h.2 with ⟨rfl, h0⟩ | ⟨g, cap, cur, rfl, hb, hg, hn, hm, hs, ht⟩
  · have : l = [] := List.length_eq_zero_iff.1 h0
    subst this
    exact ⟨none, 0, rfl, Nat.le_refl _, fun _ => ⟨rfl, rfl⟩, .inl rfl⟩
  · refine ⟨_, cap, rfl, hn, fun e => (by cases e), .inr ⟨g, 0, rfl, hb, fun i hi => ⟨?_, ?_⟩⟩⟩
    · rw [Nat.zero_add, h.cellAt i (by omega)]
      exact cw_get hi
    · rw [Nat.zero_add, h.frozenAt i]
theorem clone_nil (w : World) : Calls Try.prog 48 #[.slice none 0 0] w (Cloned [] w) := by
  have hnil := fun (w : World) (a : Option Addr) (n c n' c' : Nat) => Lib.run_eql_slice_nil (P := Try.prog) w 22 62 a n c n' c' Try.underlying22
  go_enter Try.func48, Try.ntmps48
  go_wp2
  go_ret
  exact ⟨none, 0, rfl, Nat.le_refl _, fun _ => ⟨rfl, rfl⟩, .inl rfl, Gr.refl _⟩

set_option maxHeartbeats 1000000 in
theorem clone_some (a : Addr) (l : List Nat) (n cap : Nat) (en : l.length = n) (hl : n ≤ 1048576) (w : World) (h : Rd w (some a) l) :
    Calls Try.prog 48 #[.slice (some a) n cap] w (Cloned l w) := by
  obtain ⟨i0, hi, hz0, hz1, hz2⟩ := info_parts infoW
  have EN := Lib.hid en
  have HC : Hid (∀ (j : Nat) (u : Value), (cw l)[j]? = some u → (w.alloc (.cells #[] 62)).cell? (a.add j) = some u) := Lib.hid (by
    intro j u hu
    have hj : j < l.length := by
      have := (List.getElem?_eq_some_iff.1 hu).1
      rwa [cw_length] at this
    obtain ⟨b, off, ha, hc⟩ := (((Gr.refl w).alloc (.cells #[] 62)).rd h).at (by omega)
    cases ha
    rw [addr_add, hc j hj, ← hu, cw_get hj])
  clear h en
  have hnil := fun (w : World) (a : Option Addr) (n c n' c' : Nat) => Lib.run_eql_slice_nil (P := Try.prog) w 22 62 a n c n' c' Try.underlying22
  go_enter Try.func48, Try.ntmps48
  go_wp2_with (at_builtin; refine wpList_append_own _ rfl _ _ 22 rfl w.heap.size 62 i0 (.int .u32 0) 1 4 Try.underlying22 hi hz0 hz1 hz2 rfl (by decide) _ _ _ rfl (World.ownsRow_made w #[] 0 (Nat.le_refl _) (by decide) rfl) a n cap (cw l) rfl (by rw [cw_length, EN.out, Nat.mul_one]) HC.out (cw_one l) (by unfold maxLen; omega) (by omega) (by simp) ?_; intro v1 w1 hown hgrow _)
  have hg : Gr w w1 := ⟨hgrow.os, hgrow.tape, hgrow.output, Nat.le_trans (by simp) hgrow.size, fun k hk => (hgrow.block k (by simp; omega) (fun e => by have e2 : k = w.heap.size := Option.some.inj e; omega)).trans (Below.heap_alloc _ _ _ hk)⟩
  simp only [Nat.zero_add, List.nil_append] at hown
  obtain ⟨p, cap2, rfl, hcap, hpn, ho⟩ := own_row EN.out.symm hown
  clear hown hgrow
  go_wp2
  go_ret
  exact ⟨p, cap2, rfl, hcap, hpn, ho, hg⟩
/-- Clone at whatever words. -/
theorem clone_any (p : Option Addr) (l : List Nat) (n cap : Nat) (en : l.length = n) (hl : n ≤ 1048576) (hp : p = none → n = 0 ∧ cap = 0) (w : World) (h : Rd w p l) :
    Calls Try.prog 48 #[.slice p n cap] w (Cloned l w) := by
  cases p with
  | none =>
    obtain ⟨rfl, rfl⟩ := hp rfl
    obtain rfl := List.length_eq_zero_iff.1 en
    exact clone_nil w
  | some a => exact clone_some a l n cap en hl w h

def ww (x y : Nat) : Bool := x == y
set_option maxHeartbeats 1000000 in
theorem equal_len (p q : Option Addr) (n m c d : Nat) (h : n ≠ m) (w : World) :
    Calls Try.prog 49 #[.slice p n c, .slice q m d] w fun e w' => e = .returned (.bool false) ∧ ∃ j, w' = w.drewN j := by
  have h1 : ((n : Int) != (m : Int)) = true := by simp; omega
  have H := Lib.hid h
  clear h
  go_enter Try.func49, Try.ntmps49
  go_wp2
  go_ret
  exact ⟨rfl, 0, rfl⟩
/-- The first k words are the same. -/
def SameTo (l m : List Nat) (k : Nat) : Prop := ∀ i, i < k → l[i]?.getD 0 = m[i]?.getD 0
theorem SameTo.eq {l m : List Nat} (h : SameTo l m l.length) (e : l.length = m.length) : l = m := by
  apply List.ext_getElem e
  intro i h1 h2
  have := h i h1
  rw [List.getElem?_eq_getElem h1, List.getElem?_eq_getElem h2] at this
  simpa using this
theorem bne_u (x y : Nat) : ((x : Int) != (y : Int)) = (x != y) := by
  rw [Bool.eq_iff_iff]; simp; omega

set_option maxHeartbeats 1000000 in
theorem equal_any (p q : Option Addr) (l m : List Nat) (n c d : Nat) (el : l.length = n) (em : m.length = n) (hn : n ≤ 1048576) (w : World) (hl : Rd w p l) (hm : Rd w q m) :
    Calls Try.prog 49 #[.slice p n c, .slice q n d] w fun e w' => e = .returned (.bool (decide (l = m))) ∧ ∃ j, w' = w.drewN j := by
  have HL := Lib.hid hl
  have HM := Lib.hid hm
  have EL := Lib.hid el
  have EM := Lib.hid em
  clear hl hm el em
  go_enter Try.func49, Try.ntmps49
  go_wp2
  go_loopw [13] (fun i wr => ∃ k : Nat, k ≤ n ∧ i = .int .i64 k ∧ SameTo l m k ∧ ∃ j, wr = w.drewN j) (fun i _ => n - (intOf i).toNat)
  case atStart => exact ⟨0, Nat.zero_le _, rfl, fun i hi => absurd hi (Nat.not_lt_zero i), 0, rfl⟩
  case round =>
    obtain ⟨k, hk, rfl, hS, j, rfl⟩ := hrel
    have HS := Lib.hid hS
    clear hS
    by_cases hlt : k < n
    · obtain ⟨b, off, rfl, hc⟩ := HL.out.at (by rw [EL.out]; omega)
      have hc1 := hc k (by rw [EL.out]; omega)
      clear hc
      obtain ⟨b', off', rfl, hc⟩ := HM.out.at (by rw [EM.out]; omega)
      have hc2 := hc k (by rw [EM.out]; omega)
      clear hc
      obtain ⟨x, hx⟩ : ∃ x, l[k]?.getD 0 = x := ⟨_, rfl⟩
      obtain ⟨y, hy⟩ : ∃ y, m[k]?.getD 0 = y := ⟨_, rfl⟩
      rw [hx] at hc1
      rw [hy] at hc2
      have HX := Lib.hid hx
      have HY := Lib.hid hy
      clear hx hy
      have hk0 : (0 : Int) ≤ (k : Int) := by omega
      have hk1 : (k : Int) < (n : Int) := by omega
      by_cases hxy : x = y
      · subst hxy
        go_wp2
        go_quiet (fail)
        go_wp2
        go_roundw
        case rel => exact ⟨k + 1, by omega, by go_num, fun i hi => by
          by_cases e : i = k
          · subst e; rw [HX.out, HY.out]
          · exact HS.out i (by omega), _, rfl⟩
        case measure => simp [intOf]; omega
      · have hne : ((x : Int) != (y : Int)) = true := by simp; omega
        have HN := Lib.hid hxy
        clear hxy
        go_wp2
        go_quiet (fail)
        go_wp2
        go_ret
        refine ⟨?_, by first | exact ⟨_, rfl⟩ | exact ⟨_, World.drewN_drewN _ _ _⟩⟩
        show Ending.returned (.bool false) = _
        rw [decide_eq_false]
        rintro rfl
        exact HN.out (HX.out.symm.trans HY.out)
    · obtain rfl : k = n := by omega
      go_wp2
      go_ret
      refine ⟨?_, by first | exact ⟨_, rfl⟩ | exact ⟨_, World.drewN_drewN _ _ _⟩⟩
      show Ending.returned (.bool true) = _
      rw [decide_eq_true]
      exact SameTo.eq (by rw [EL.out]; exact HS.out) (by rw [EL.out, EM.out])

/-- A block that is known whole. -/
theorem hold_block {w : World} {g : Nat} {l : List Nat} (h : w.heap[g]? = some (.cells (cw l).toArray 62 (0, 0))) : Hold w g 0 l := by
  intro i hi
  rw [Nat.zero_add]
  have h1 := cell_of_row w g i (cw l).toArray 62 (0, 0) h
  refine ⟨?_, ?_⟩
  · rw [h1]
    simpa using cw_get hi
  · simp [World.frozen?, h]
theorem made_block {w : World} {B g n : Nat} (h : w.ownsRow B 62 1 (.slice (some ⟨g, 0, none⟩) n n) n (madeCells (Value.int .u32 0).cells (n * 1)).toList) :
    w.heap[g]? = some (.cells (cw (List.replicate n 0)).toArray 62 (0, 0)) := by
  rcases h.2 with ⟨h', _⟩ | ⟨g', cap', cur, h', _, hg, _, _, hcs, ht⟩
  · simp at h'
  · simp only [Value.slice.injEq, Option.some.injEq, Addr.mk.injEq, and_true, true_and] at h'
    obtain ⟨rfl, rfl⟩ := h'
    rw [hg]
    have e : cur.toList = cw (List.replicate n 0) := by
      rw [List.take_of_length_le (by simp; omega)] at ht
      rw [ht]
      apply List.ext_getElem?
      intro i
      by_cases hi : i < n
      · rw [cw_get (by simpa using hi)]
        simp [madeCells, Value.cells, hi]
        rw [Nat.mod_one]
        rfl
      · rw [List.getElem?_eq_none (by simp [madeCells]; omega), List.getElem?_eq_none (by rw [cw_length]; simp; omega)]
    rw [← e]
theorem splice_cw (a l : List Nat) : splice (cw a) 0 (cw l) = cw (l ++ a.drop l.length) := by
  simp [splice, cw]
end Go.Proofs.Ytiefnhpbniaklaa.Ne
