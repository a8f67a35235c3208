/- The contract of the laws' equal: a number whose value is that of two words of 64 bits. -/
import Derived.Test.YtiefnhpbniaklaaNis
namespace Go.Proofs.Ytiefnhpbniaklaa.Nv
open Go.RowKit Go.Shelf Go.Proofs.Ytiefnhpbniaklaa.Nm Go.Proofs.Ytiefnhpbniaklaa.Ne Go.Proofs.Ytiefnhpbniaklaa.Nf Go.Proofs.Ytiefnhpbniaklaa.Nk

theorem digs_get : ∀ (i x : Nat), (digs x)[i]?.getD 0 = x / pw i % 4294967296
  | 0, x => by
    rcases Nat.eq_zero_or_pos x with h | h
    · subst h; rw [digs_zero]; rfl
    · rw [digs_pos (by omega)]; simp [pw]
  | i + 1, x => by
    rcases Nat.eq_zero_or_pos x with h | h
    · subst h; rw [digs_zero]; simp
    · rw [digs_pos (by omega), List.getElem?_cons_succ, digs_get i, Nat.div_div_eq_div_mul]; rfl

/-- The words of two words of 64 bits. -/
def four (lo hi : Nat) (i : Nat) : Nat := match i with
  | 0 => lo % 4294967296
  | 1 => lo / 4294967296
  | 2 => hi % 4294967296
  | _ => hi / 4294967296
theorem four_eq {lo hi x : Nat} (hlo : lo < 18446744073709551616) (hhi : hi < 18446744073709551616) (e : x = lo + 18446744073709551616 * hi) : ∀ i, i < 4 → (digs x)[i]?.getD 0 = four lo hi i := by
  intro i hi4
  rw [digs_get]
  have p0 : pw 0 = 1 := rfl
  have p1 : pw 1 = 4294967296 := rfl
  have p2 : pw 2 = 18446744073709551616 := rfl
  have p3 : pw 3 = 79228162514264337593543950336 := rfl
  match i, hi4 with
  | 0, _ => rw [p0]; show x / 1 % 4294967296 = lo % 4294967296; omega
  | 1, _ => rw [p1]; show x / 4294967296 % 4294967296 = lo / 4294967296; omega
  | 2, _ => rw [p2]; show x / 18446744073709551616 % 4294967296 = hi % 4294967296; omega
  | 3, _ => rw [p3]; show x / 79228162514264337593543950336 % 4294967296 = hi / 4294967296; omega

set_option maxRecDepth 100000 in
set_option maxHeartbeats 2000000 in
theorem equal_v (p : Option Addr) (n c lo hi x : Nat) (hlo : lo < 18446744073709551616) (hhi : hi < 18446744073709551616) (hx : x = lo + 18446744073709551616 * hi) (w : World) (hl : Nw w p n c (digs x)) :
    Calls Try.prog 47 #[.agg #[.slice p n c], .int .u64 (lo : Int), .int .u64 (hi : Int)] w fun e w' => e = .returned (.bool true) ∧ Gr w w' := by
  have HF := Lib.hid (four_eq hlo hhi hx)
  have HL := Lib.hid hl
  have hn4 : n ≤ 4 := by
    have := (digs_length_le x 4).2 (by have : pw 4 = 340282366920938463463374607431768211456 := rfl; omega)
    rw [hl.len] at this
    exact this
  have HT := Lib.hid (tight_digs x)
  obtain ⟨a0, h0⟩ : ∃ a, lo % 4294967296 = a := ⟨_, rfl⟩
  obtain ⟨a1, h1⟩ : ∃ a, lo / 4294967296 = a := ⟨_, rfl⟩
  obtain ⟨a2, h2⟩ : ∃ a, hi % 4294967296 = a := ⟨_, rfl⟩
  obtain ⟨a3, h3⟩ : ∃ a, hi / 4294967296 = a := ⟨_, rfl⟩
  have d0 : (lo : Int) % 4294967296 = (a0 : Int) := by omega
  have d1 : (lo : Int) / 4294967296 = (a1 : Int) := by omega
  have d2 : (hi : Int) % 4294967296 = (a2 : Int) := by omega
  have d3 : (hi : Int) / 4294967296 = (a3 : Int) := by omega
  have s1 : a1 < 4294967296 := by omega
  have s3 : a3 < 4294967296 := by omega
  have r1 : (a1 : Int) % 4294967296 = (a1 : Int) := by omega
  have r3 : (a3 : Int) % 4294967296 = (a3 : Int) := by omega
  have E0 := Lib.hid h0
  have E1 := Lib.hid h1
  have E2 := Lib.hid h2
  have E3 := Lib.hid h3
  have G1 := Lib.hid (((Gr.refl w).alloc (.cells #[.slice p n c] 24)).alloc (.cells #[.int .u32 a0, .int .u32 a1, .int .u32 a2, .int .u32 a3] 62))
  clear hl hx hlo hhi h0 h1 h2 h3
  go_enter Try.func47, Try.ntmps47
  go_wp2
  go_loopw [28] (fun i wr => ∃ k : Nat, k ≤ 4 ∧ i = .int .i64 k ∧ wr.cell? ⟨w.heap.size, 0, none⟩ = some (.slice p n c) ∧ (∀ j, j < 4 → wr.cell? ⟨w.heap.size + 1, j, none⟩ = some (.int .u32 ((four lo hi j : Nat) : Int))) ∧ Gr w wr) (fun i _ => 4 - (intOf i).toNat)
  case atStart =>
    refine ⟨0, Nat.zero_le _, rfl, by simp [go_sem], ?_, G1.out⟩
    intro j hj
    match j, hj with
    | 0, _ => simp [go_sem, four, ← E0.out]
    | 1, _ => simp [go_sem, four, ← E1.out]
    | 2, _ => simp [go_sem, four, ← E2.out]
    | 3, _ => simp [go_sem, four, ← E3.out]
  case round =>
    obtain ⟨k, hk, rfl, b1, b2, hG⟩ := hrel
    have HG := Lib.hid hG
    have HB := Lib.hid b2
    clear hG b2 d0 d1 d2 d3 r1 r3 s1 s3
    by_cases hlt : k < 4
    · have hw := HB.out k hlt
      have hf := HF.out k hlt
      have hk0 : (0 : Int) ≤ (k : Int) := by omega
      have hk1 : (k : Int) < 4 := by omega
      by_cases hkn : k < n
      · obtain ⟨b, off, rfl, hc⟩ := (HG.out.rd HL.out.rd).at (by rw [HL.out.len]; omega)
        have hc1 := hc k (by rw [HL.out.len]; omega)
        rw [hf] at hc1
        clear hc hf
        have hk2 : (k : Int) < (n : Int) := by omega
        obtain ⟨y, hy⟩ : ∃ y, four lo hi k = y := ⟨_, rfl⟩
        rw [hy] at hw hc1
        clear hy
        go_wp2
        go_roundw
        case rel => exact ⟨k + 1, by omega, by go_num, b1, HB.out, HG.out⟩
        case measure => simp [intOf]; omega
      · have hz : four lo hi k = 0 := by rw [← hf, List.getElem?_eq_none (by rw [HL.out.len]; omega)]; rfl
        rw [hz] at hw
        clear hf hz
        have hk2 : ¬ (k : Int) < (n : Int) := by omega
        go_wp2
        go_roundw
        case rel => exact ⟨k + 1, by omega, by go_num, b1, HB.out, HG.out⟩
        case measure => simp [intOf]; omega
    · obtain rfl : k = 4 := by omega
      clear HB HF E0 E1 E2 E3
      rcases Nat.eq_zero_or_pos n with h0 | h0
      · subst h0
        go_wp2
        go_ret
        exact ⟨rfl, HG.out⟩
      · obtain ⟨b, off, rfl, hc⟩ := (HG.out.rd HL.out.rd).at (by rw [HL.out.len]; omega)
        obtain ⟨j, rfl⟩ : ∃ j, n = j + 1 := ⟨n - 1, by omega⟩
        have hc1 := hc j (by rw [HL.out.len]; omega)
        have ht : (digs x)[j]?.getD 0 ≠ 0 := by
          rcases HT.out with h | h
          · rw [HL.out.len] at h; omega
          · rw [HL.out.len, Nat.add_sub_cancel] at h; exact h
        obtain ⟨y, hy⟩ : ∃ y, (digs x)[j]?.getD 0 = y := ⟨_, rfl⟩
        rw [hy] at hc1 ht
        clear hc hy
        have hn0 : (((j + 1 : Nat) : Int) == 0) = false := by simp; omega
        have hy0 : ((y : Int) != 0) = true := by simp; omega
        have hj : IntKind.i64.wrap (((j + 1 : Nat) : Int) - 1) = (j : Int) := by rw [IntWalk.i64_in _ (by omega)]; omega
        have hj0 : (0 : Int) ≤ (j : Int) := by omega
        have hj1 : (j : Int) < (j : Int) + 1 := by omega
        go_wp2
        go_ret
        exact ⟨rfl, HG.out⟩
end Go.Proofs.Ytiefnhpbniaklaa.Nv
