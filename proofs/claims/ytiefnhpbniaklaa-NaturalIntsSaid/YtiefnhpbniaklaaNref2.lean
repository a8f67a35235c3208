/- The contracts of the reference's sized and Same. -/
import Derived.Test.YtiefnhpbniaklaaNref
namespace Go.Proofs.Ytiefnhpbniaklaa.Nk
open Go.RowKit Go.Shelf Go.Proofs.Ytiefnhpbniaklaa.Nm Go.Proofs.Ytiefnhpbniaklaa.Ne Go.Proofs.Ytiefnhpbniaklaa.Nf

set_option maxHeartbeats 1000000 in
theorem sized_ok (p : Option Addr) (n c : Nat) (w : World) (h : n ≤ 64) :
    Calls Try.prog 93 #[.agg #[.slice p n c]] w fun e w' => e = .returned (.tuple #[.agg #[.slice p n c], .int .i64 0]) ∧ Gr w w' := by
  have G0 := Lib.hid (((Gr.refl w).alloc (.cells #[.slice p n c] 24)).alloc (.cells #[.slice p n c] 24))
  have h1 : ¬ (64 : Int) < (n : Int) := by omega
  go_enter Try.func93, Try.ntmps93
  go_wp2
  exact bodyPost_ret (v := .tuple #[.agg #[.slice p n c], .int .i64 0]) (by simp [results, Try.results93, go_sem]) rfl ⟨rfl, G0.out⟩
set_option maxHeartbeats 1000000 in
theorem sized_big (p : Option Addr) (n c : Nat) (w : World) (h : 64 < n) :
    Calls Try.prog 93 #[.agg #[.slice p n c]] w fun e w' => e = .returned (.tuple #[.agg #[.slice none 0 0], .int .i64 9]) ∧ Gr w w' := by
  have G0 := Lib.hid (((Gr.refl w).alloc (.cells #[.slice p n c] 24)).alloc (.cells #[.slice none 0 0] 24))
  have h1 : (64 : Int) < (n : Int) := by omega
  go_enter Try.func93, Try.ntmps93
  go_wp2
  exact bodyPost_ret (v := .tuple #[.agg #[.slice none 0 0], .int .i64 9]) (by simp [results, Try.results93, go_sem]) rfl ⟨rfl, G0.out⟩
set_option maxHeartbeats 1000000 in
theorem same_len (p q : Option Addr) (n m c d : Nat) (w : World) (h : n ≠ m) :
    Calls Try.prog 42 #[.agg #[.slice p n c], .agg #[.slice q m d]] w fun e w' => e = .returned (.bool false) ∧ Gr w w' := by
  have G0 := Lib.hid (((Gr.refl w).alloc (.cells #[.slice p n c] 24)).alloc (.cells #[.slice q m d] 24))
  have h1 : ((n : Int) != (m : Int)) = true := by simp; omega
  clear h
  go_enter Try.func42, Try.ntmps42
  go_wp2
  go_ret
  exact ⟨rfl, G0.out⟩
set_option maxHeartbeats 1000000 in
theorem same_eq (p q : Option Addr) (n c d : Nat) (l k : List Nat) (w : World) (hl : Nw w p n c l) (hk : Nw w q n d k) :
    Calls Try.prog 42 #[.agg #[.slice p n c], .agg #[.slice q n d]] w fun e w' => e = .returned (.bool (decide (l = k))) ∧ Gr w w' := by
  have HL := Lib.hid hl
  have HK := Lib.hid hk
  have hn := hl.small
  have G0 := Lib.hid (((Gr.refl w).alloc (.cells #[.slice p n c] 24)).alloc (.cells #[.slice q n d] 24))
  clear hl hk
  go_enter Try.func42, Try.ntmps42
  go_wp2
  go_loopw [5] (fun i wr => ∃ k' : Nat, k' ≤ n ∧ i = .int .i64 k' ∧ SameTo l k k' ∧ wr.cell? ⟨w.heap.size, 0, none⟩ = some (.slice p n c) ∧ wr.cell? ⟨w.heap.size + 1, 0, none⟩ = some (.slice q n d) ∧ Gr w wr) (fun i _ => n - (intOf i).toNat)
  case atStart => exact ⟨0, Nat.zero_le _, rfl, (fun i hi => absurd hi (Nat.not_lt_zero i)), by simp [go_sem], by simp [go_sem], G0.out⟩
  case round =>
    obtain ⟨k', hk, rfl, hS, b1, b2, hG⟩ := hrel
    have HS := Lib.hid hS
    have HG := Lib.hid hG
    clear hS hG
    by_cases hlt : k' < n
    · obtain ⟨b, off, rfl, hc⟩ := (HG.out.rd HL.out.rd).at (by rw [HL.out.len]; omega)
      have hc1 := hc k' (by rw [HL.out.len]; omega)
      clear hc
      obtain ⟨b', off', rfl, hc⟩ := (HG.out.rd HK.out.rd).at (by rw [HK.out.len]; omega)
      have hc2 := hc k' (by rw [HK.out.len]; omega)
      clear hc
      obtain ⟨x, hx⟩ : ∃ x, l[k']?.getD 0 = x := ⟨_, rfl⟩
      obtain ⟨y, hy⟩ : ∃ y, k[k']?.getD 0 = y := ⟨_, rfl⟩
      rw [hx] at hc1
      rw [hy] at hc2
      have HX := Lib.hid hx
      have HY := Lib.hid hy
      clear hx hy
      have hk0 : (0 : Int) ≤ (k' : Int) := by omega
      have hk1 : (k' : Int) < (n : Int) := by omega
      have hk2 : IntKind.i64.wrap ((k' : Int) + 1) = (k' : Int) + 1 := IntWalk.i64_in _ (by omega)
      by_cases hxy : x = y
      · subst hxy
        go_wp2
        go_quiet (fail)
        go_wp2
        go_roundw
        case rel => exact ⟨k' + 1, by omega, by go_num, (fun i hi => by
          by_cases e : i = k'
          · subst e; rw [HX.out, HY.out]
          · exact HS.out i (by omega)), b1, b2, HG.out.drewN _⟩
        case measure => simp [intOf]; omega
      · have hne : ((x : Int) != (y : Int)) = true := by simp; omega
        have HN := Lib.hid hxy
        clear hxy
        go_wp2
        go_quiet (fail)
        go_wp2
        go_ret
        refine ⟨?_, HG.out.drewN _⟩
        show Ending.returned (.bool false) = _
        rw [decide_eq_false]
        rintro rfl
        exact HN.out (HX.out.symm.trans HY.out)
    · obtain rfl : k' = n := by omega
      go_wp2
      go_ret
      refine ⟨?_, HG.out⟩
      show Ending.returned (.bool true) = _
      rw [decide_eq_true]
      exact SameTo.eq (by rw [HL.out.len]; exact HS.out) (by rw [HL.out.len, HK.out.len])
theorem same_any (p q : Option Addr) (n m c d : Nat) (l k : List Nat) (w : World) (hl : Nw w p n c l) (hk : Nw w q m d k) :
    Calls Try.prog 42 #[.agg #[.slice p n c], .agg #[.slice q m d]] w fun e w' => e = .returned (.bool (decide (l = k))) ∧ Gr w w' := by
  by_cases h : n = m
  · subst h; exact same_eq p q n c d l k w hl hk
  · rw [decide_eq_false (fun e => h (by rw [← hl.len, ← hk.len, e]))]
    exact same_len p q n m c d w h
end Go.Proofs.Ytiefnhpbniaklaa.Nk
