/- The contracts of the reference's Valid and word. -/
import Derived.Test.YtiefnhpbniaklaaNgreat
namespace Go.Proofs.Ytiefnhpbniaklaa.Nk
open Go.RowKit Go.Shelf Go.Proofs.Ytiefnhpbniaklaa.Nm Go.Proofs.Ytiefnhpbniaklaa.Ne Go.Proofs.Ytiefnhpbniaklaa.Nf

set_option maxHeartbeats 1000000 in
theorem refword_any (p : Option Addr) (n c i : Nat) (l : List Nat) (w : World) (hl : Nw w p n c l) :
    Calls Try.prog 88 #[.agg #[.slice p n c], .int .i64 (i : Int)] w fun e w' => e = .returned (.int .i64 ((l[i]?.getD 0 : Nat) : Int)) ∧ Gr w w' := by
  have HL := Lib.hid hl
  have G0 := Lib.hid ((Gr.refl w).alloc (.cells #[.slice p n c] 24))
  have hx := ok_get hl.ok i
  have hi0 : ¬ (i : Int) < 0 := by omega
  have hi1 : (0 : Int) ≤ (i : Int) := by omega
  by_cases hi : i < n
  · obtain ⟨b, off, rfl, hc⟩ := hl.rd.at (by rw [hl.len]; omega)
    have hcj := G0.out.cell (hc i (by rw [hl.len]; omega))
    clear hc hl
    have hi2 : (i : Int) < (n : Int) := by omega
    have hi3 : ¬ (n : Int) ≤ (i : Int) := by omega
    generalize l[i]?.getD 0 = x at *
    have q1 : IntKind.i64.wrap (x : Int) = (x : Int) := IntWalk.i64_in _ (by omega)
    go_enter Try.func88, Try.ntmps88
    go_wp2
    go_ret
    exact ⟨rfl, G0.out⟩
  · have h0 : l[i]?.getD 0 = 0 := by rw [List.getElem?_eq_none (by rw [hl.len]; omega)]; rfl
    rw [h0]
    clear hl hx h0
    have hi3 : (n : Int) ≤ (i : Int) := by omega
    go_enter Try.func88, Try.ntmps88
    go_wp2
    go_ret
    exact ⟨rfl, G0.out⟩

set_option maxHeartbeats 1000000 in
theorem refvalid_any (p : Option Addr) (n c : Nat) (l : List Nat) (w : World) (hl : Nw w p n c l) :
    Calls Try.prog 22 #[.agg #[.slice p n c]] w fun e w' => e = .returned (.bool (decide (valid l))) ∧ Gr w w' := by
  have G0 := Lib.hid ((Gr.refl w).alloc (.cells #[.slice p n c] 24))
  have EN := Lib.hid hl.len
  rcases Nat.eq_zero_or_pos n with h0 | h0
  · have hv : decide (valid l) = true := decide_eq_true ⟨by rw [hl.len]; omega, .inl (by rw [hl.len]; exact h0)⟩
    rw [hv]
    subst h0
    clear hv hl
    go_enter Try.func22, Try.ntmps22
    go_wp2
    go_ret
    exact ⟨rfl, G0.out⟩
  · obtain ⟨b, off, rfl, hc⟩ := hl.rd.at (by rw [hl.len]; omega)
    obtain ⟨j, rfl⟩ : ∃ j, n = j + 1 := ⟨n - 1, by omega⟩
    have hcj := G0.out.cell (hc j (by rw [hl.len]; omega))
    have hx := ok_get hl.ok j
    have hn := hl.small
    have hv : decide (valid l) = (decide (j + 1 ≤ 64) && decide (l[j]?.getD 0 ≠ 0)) := by
      rw [Bool.eq_iff_iff, Bool.and_eq_true, decide_eq_true_iff, decide_eq_true_iff, decide_eq_true_iff]
      unfold valid Nm.tight
      rw [hl.len, Nat.add_sub_cancel]
      exact ⟨fun ⟨a, b⟩ => ⟨a, b.resolve_left (Nat.succ_ne_zero j)⟩, fun ⟨a, b⟩ => ⟨a, .inr b⟩⟩
    rw [hv]
    clear hc hl hv
    generalize l[j]?.getD 0 = x at *
    by_cases h64 : j + 1 ≤ 64
    · by_cases hx0 : x = 0
      · subst hx0
        go_enter Try.func22, Try.ntmps22
        go_wp2
        go_ret
        exact ⟨by simp; omega, G0.out⟩
      · go_enter Try.func22, Try.ntmps22
        go_wp2
        go_ret
        exact ⟨by simp [h64, hx0], G0.out⟩
    · go_enter Try.func22, Try.ntmps22
      go_wp2
      go_ret
      exact ⟨by simp; omega, G0.out⟩
end Go.Proofs.Ytiefnhpbniaklaa.Nk
