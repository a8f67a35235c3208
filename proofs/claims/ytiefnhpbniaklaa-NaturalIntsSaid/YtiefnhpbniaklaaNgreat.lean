/- The contracts of great and of what it calls. -/
import Derived.Test.YtiefnhpbniaklaaNdivx
namespace Go.Proofs.Ytiefnhpbniaklaa.Nk
open Go.RowKit Go.Shelf Go.Proofs.Ytiefnhpbniaklaa.Nm Go.Proofs.Ytiefnhpbniaklaa.Ne Go.Proofs.Ytiefnhpbniaklaa.Nf

theorem great1_any (p : Option Addr) (n c : Nat) (w : World) :
    Calls Try.prog 83 #[.agg #[.slice p n c]] w fun e w' => e = .returned (.bool (decide (100 < n))) ∧ Gr w w' := by
  have G0 := Lib.hid ((Gr.refl w).alloc (.cells #[.slice p n c] 24))
  go_enter Try.func83, Try.ntmps83
  go_wp2
  exact bodyPost_ret (v := .bool (decide (100 < n))) (by simp [results, Try.results83, go_sem]; omega) rfl ⟨rfl, G0.out⟩

/-- Numbers side by side. -/
def Nats (W : World) (b off : Nat) (xs : List (Option Addr × Nat × Nat)) : Prop :=
  ∀ i, i < xs.length → W.cell? ⟨b, off + i, none⟩ = some (.slice (xs[i]?.getD (none, 0, 0)).1 (xs[i]?.getD (none, 0, 0)).2.1 (xs[i]?.getD (none, 0, 0)).2.2)
/-- None of the first k is great. -/
def Small (xs : List (Option Addr × Nat × Nat)) (k : Nat) : Prop := ∀ i, i < k → ¬ 100 < (xs[i]?.getD (none, 0, 0)).2.1

set_option maxHeartbeats 1000000 in
theorem indexFunc_any (b off n c : Nat) (xs : List (Option Addr × Nat × Nat)) (ex : xs.length = n) (hn : n ≤ 1000) (w : World) (h : Nats w b off xs) :
    Calls Try.prog 125 #[.slice (some ⟨b, off, none⟩) n c, .func (.func 83) #[] #[]] w fun e w' =>
      (∃ i : Int, e = .returned (.int .i64 i) ∧ (0 ≤ i ↔ ∃ j, j < n ∧ 100 < (xs[j]?.getD (none, 0, 0)).2.1)) ∧ Gr w w' := by
  have H := Lib.hid h
  have EX := Lib.hid ex
  clear h ex
  go_enter Try.func125, Try.ntmps125
  have G0 := Lib.hid (fun (p : Option Addr) (m d : Nat) (w : World) => great1_any p m d w)
  go_wp2
  go_loopw [8] (fun i wr => ∃ k : Nat, k ≤ n ∧ i = .int .i64 k ∧ Small xs k ∧ Gr w wr) (fun i _ => n - (intOf i).toNat)
  case atStart => exact ⟨0, Nat.zero_le _, rfl, fun i hi => absurd hi (Nat.not_lt_zero i), Gr.refl w⟩
  case round =>
    obtain ⟨k, hk, rfl, hS, hG⟩ := hrel
    have HS := Lib.hid hS
    have HG := Lib.hid hG
    clear hS hG
    by_cases hlt : k < n
    · have hc := HG.out.cell (H.out k (by rw [EX.out]; exact hlt))
      obtain ⟨x, hx⟩ : ∃ x, xs[k]?.getD (none, 0, 0) = x := ⟨_, rfl⟩
      rw [hx] at hc
      have HX := Lib.hid hx
      clear hx
      obtain ⟨xp, xn, xc⟩ := x
      dsimp only at hc
      have hk0 : (0 : Int) ≤ (k : Int) := by omega
      have hk1 : (k : Int) < (n : Int) := by omega
      go_wp2_with fail
      refine (G0.out _ _ _ _).mono ?_
      rintro e w1 ⟨rfl, hg⟩
      have HG1 := Lib.hid (HG.out.trans hg)
      clear hg hc
      by_cases hx : 100 < xn
      · have HXN := Lib.hid hx
        go_wp2
        go_ret
        exact ⟨⟨_, rfl, ⟨fun _ => ⟨k, hlt, by rw [HX.out]; exact HXN.out⟩, fun _ => by omega⟩⟩, HG1.out⟩
      · have HXN := Lib.hid hx
        go_wp2
        go_roundw
        case rel => exact ⟨k + 1, by omega, by go_num, (fun i hi => by
          by_cases e : i = k
          · subst e; rw [HX.out]; exact HXN.out
          · exact HS.out i (by omega)), HG1.out⟩
        case measure => simp [intOf]; omega
    · obtain rfl : k = n := by omega
      go_wp2
      go_ret
      exact ⟨⟨_, rfl, ⟨fun h => by omega, fun ⟨j, h1, h2⟩ => absurd h2 (HS.out j h1)⟩⟩, HG.out⟩
/-- One of the numbers is great. -/
def Great (xs : List (Option Addr × Nat × Nat)) : Prop := ∃ j, j < xs.length ∧ 100 < (xs[j]?.getD (none, 0, 0)).2.1
set_option maxHeartbeats 1000000 in
theorem containsFunc_any (b off n c : Nat) (xs : List (Option Addr × Nat × Nat)) (ex : xs.length = n) (hn : n ≤ 1000) (w : World) (h : Nats w b off xs) :
    Calls Try.prog 82 #[.slice (some ⟨b, off, none⟩) n c, .func (.func 83) #[] #[]] w fun e w' =>
      (∃ v : Bool, e = .returned (.bool v) ∧ (v = true ↔ Great xs)) ∧ Gr w w' := by
  have H := Lib.hid (indexFunc_any b off n c xs ex hn w h)
  have EX := Lib.hid ex
  clear h ex
  go_enter Try.func82, Try.ntmps82
  go_wp2_with fail
  refine H.out.mono ?_
  rintro e w1 ⟨⟨i, rfl, hi⟩, hg⟩
  have HI := Lib.hid hi
  have HG := Lib.hid hg
  clear hi hg
  go_wp2
  go_ret
  exact ⟨⟨decide (0 ≤ i), rfl, by rw [decide_eq_true_iff, HI.out, Great, EX.out]⟩, HG.out⟩
set_option maxHeartbeats 1000000 in
theorem great_any (b off n c : Nat) (xs : List (Option Addr × Nat × Nat)) (ex : xs.length = n) (hn : n ≤ 1000) (w : World) (h : Nats w b off xs) :
    Calls Try.prog 21 #[.slice (some ⟨b, off, none⟩) n c] w fun e w' =>
      (∃ v : Bool, e = .returned (.bool v) ∧ (v = true ↔ Great xs)) ∧ Gr w w' := by
  have H := Lib.hid (containsFunc_any b off n c xs ex hn w h)
  clear h ex
  go_enter Try.func21, Try.ntmps21
  go_wp2_with fail
  refine H.out.mono ?_
  rintro e w1 ⟨⟨v, rfl, hv⟩, hg⟩
  have HV := Lib.hid hv
  have HG := Lib.hid hg
  clear hv hg
  go_wp2
  go_ret
  exact ⟨⟨v, rfl, HV.out⟩, HG.out⟩

end Go.Proofs.Ytiefnhpbniaklaa.Nk
