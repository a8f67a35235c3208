/- The contracts of the reference's Of, Bit, Bits and Int. -/
import Derived.Test.YtiefnhpbniaklaaNrtrim
import Derived.Deep.RegionHeld3
namespace Go.Proofs.Ytiefnhpbniaklaa.Nr2
open Go.RowKit Go.Shelf Go.Proofs.Ytiefnhpbniaklaa.Nm Go.Proofs.Ytiefnhpbniaklaa.Ne Go.Proofs.Ytiefnhpbniaklaa.Nf Go.Proofs.Ytiefnhpbniaklaa.Nk Go.Proofs.Ytiefnhpbniaklaa.Nv

set_option maxRecDepth 100000 in
set_option maxHeartbeats 2000000 in
theorem rof_any (x : Nat) (h : x < 9223372036854775808) (w : World) : Calls Try.prog 27 #[.int .i64 (x : Int)] w (Num x w) := by
  obtain ⟨lo, hlo⟩ : ∃ lo, x % 4294967296 = lo := ⟨_, rfl⟩
  obtain ⟨hi, hhi⟩ : ∃ hi, x / 4294967296 = hi := ⟨_, rfl⟩
  have d1 : (x : Int) % 4294967296 = (lo : Int) := by omega
  have d2 : (x : Int) / 4294967296 = (hi : Int) := by omega
  have d3 : (x : Int).tmod 4294967296 = (lo : Int) := by rw [Int.tmod_eq_emod_of_nonneg (by omega)]; exact d1
  have d4 : (x : Int).tdiv 4294967296 = (hi : Int) := by rw [Int.tdiv_eq_ediv_of_nonneg (by omega)]; exact d2
  have w4 : IntKind.i64.wrap (hi : Int) = (hi : Int) := IntWalk.i64_in _ (by omega)
  have u3 : IntKind.u32.wrap (lo : Int) = (lo : Int) := by rw [IntKind.wrap_u32]; omega
  have u4 : IntKind.u32.wrap (hi : Int) = (hi : Int) := by rw [IntKind.wrap_u32]; omega
  have HX : Hid (val [lo, hi] = x) := Lib.hid (by simp only [val]; omega)
  have HO : Hid (ok [lo, hi]) := Lib.hid (by simp only [ok_cons]; exact ⟨by omega, by omega, ok_nil⟩)
  have hh : hi < 2147483648 := by omega
  clear hlo hhi h
  have G2 := Lib.hid (((Gr.refl w).alloc (.cells #[.slice none 0 0] 24)).alloc (.cells #[.int .u32 lo, .int .u32 hi] 62))
  have HN : Hid (Nw ((w.alloc (.cells #[.slice none 0 0] 24)).alloc (.cells #[.int .u32 lo, .int .u32 hi] 62)) (some ⟨w.heap.size + 1, 0, none⟩) 2 2 [lo, hi]) := Lib.hid (by
    refine nw_lit rfl HO.out (by decide) ?_
    intro i hi
    match i, hi with
    | 0, _ => simp [go_sem]
    | 1, _ => simp [go_sem])
  go_enter Try.func27, Try.ntmps27
  go_wp2_with fail
  refine (rtrim_any (some ⟨w.heap.size + 1, 0, none⟩) 2 2 [lo, hi] _ HN.out).mono ?_
  rintro e w2 ⟨p2, n2, c2, rfl, hr, hg⟩
  have k2 := hg.cell (p := ⟨w.heap.size, 0, none⟩) (v := .slice none 0 0) (by simp [go_sem])
  have f2 := hg.frozen (p := ⟨w.heap.size, 0, none⟩) (v := .slice none 0 0) (by simp [go_sem]) (by simp [go_sem])
  have HR := Lib.hid (hr.mono (show w.heap.size + 1 ≤ _ by simp))
  have GG := Lib.hid (G2.out.trans hg)
  clear hr hg
  go_wp2
  refine bodyPost_ret (v := .agg #[.slice p2 n2 c2]) (by simp [results, Try.results27, go_sem, k2]) rfl ⟨_, _, _, rfl, ?_, GG.out.setCell (Nat.le_refl _) _⟩
  rw [← HX.out]
  exact (HR.out.set' _ _ (fun x e => own_ne HR.out e) (tight_digs _)).mono (Nat.le_succ _)

theorem rem_two (x t : Nat) : ((x : Int) / 2 ^ t % 2 == 1) = x.testBit t := by
  have e : (x : Int) / 2 ^ t % 2 = ((x / 2 ^ t % 2 : Nat) : Int) := by
    rw [Int.natCast_emod, Int.natCast_ediv, Int.natCast_pow]; rfl
  rw [e, Nat.testBit_eq_decide_div_mod_eq, Bool.eq_iff_iff, beq_iff_eq, decide_eq_true_iff]
  omega

set_option maxRecDepth 100000 in
set_option maxHeartbeats 2000000 in
theorem rbit_in (p : Option Addr) (n c i : Nat) (l : List Nat) (w : World) (h : Nw w p n c l) (hi : i < 32 * n) :
    Calls Try.prog 31 #[.agg #[.slice p n c], .int .i64 (i : Int)] w fun e w' => e = .returned (.bool ((val l).testBit i)) ∧ Gr w w' := by
  have HT := Lib.hid (testBit_val h.ok i)
  have hn := h.small
  obtain ⟨q, hq⟩ : ∃ q, i / 32 = q := ⟨_, rfl⟩
  obtain ⟨t, ht⟩ : ∃ t, i % 32 = t := ⟨_, rfl⟩
  have d1 : (i : Int) / 32 = (q : Int) := by omega
  have d2 : (i : Int) % 32 = (t : Int) := by omega
  have d3 : (i : Int).tdiv 32 = (q : Int) := by rw [Int.tdiv_eq_ediv_of_nonneg (by omega)]; exact d1
  have d4 : (i : Int).tmod 32 = (t : Int) := by rw [Int.tmod_eq_emod_of_nonneg (by omega)]; exact d2
  have w1 : IntKind.i64.wrap (q : Int) = (q : Int) := IntWalk.i64_in _ (by omega)
  have w2 : IntKind.i64.wrap (32 * (n : Int)) = 32 * (n : Int) := IntWalk.i64_in _ (by omega)
  have i0 : ¬ (i : Int) < 0 := by omega
  have i1 : ¬ 32 * (n : Int) ≤ (i : Int) := by omega
  have ht32 : t < 32 := by omega
  have ht0 : ¬ (t : Int) < 0 := by omega
  have hlt : q < n := by omega
  have hq0 : (0 : Int) ≤ (q : Int) := by omega
  have hq1 : (q : Int) < (n : Int) := by omega
  rw [hq] at HT
  rw [ht] at HT
  obtain ⟨b, off, rfl, hc⟩ := h.rd.at (by rw [h.len]; omega)
  have hc1 := ((Gr.refl w).alloc (.cells #[.slice (some ⟨b, off, none⟩) n c] 24)).cell (hc q (by rw [h.len]; omega))
  have G0 := Lib.hid ((Gr.refl w).alloc (.cells #[.slice (some ⟨b, off, none⟩) n c] 24))
  clear hc h hq ht
  generalize l[q]?.getD 0 = x at *
  have E : Hid (((x : Int) / 2 ^ t % 2 == 1) = x.testBit t) := Lib.hid (rem_two x t)
  go_enter Try.func31, Try.ntmps31
  go_wp2
  go_ret
  exact ⟨ret_bool (by rw [HT.out]; exact E.out), G0.out⟩
theorem rbit_out (p : Option Addr) (n c : Nat) (i : Int) (w : World) (hi : i < 0 ∨ 32 * (n : Int) ≤ i) (hn : n ≤ 1048576) :
    Calls Try.prog 31 #[.agg #[.slice p n c], .int .i64 i] w fun e w' => e = .returned (.bool false) ∧ Gr w w' := by
  have G0 := Lib.hid ((Gr.refl w).alloc (.cells #[.slice p n c] 24))
  have w2 : IntKind.i64.wrap (32 * (n : Int)) = 32 * (n : Int) := IntWalk.i64_in _ (by omega)
  by_cases h0 : i < 0
  · clear hi
    go_enter Try.func31, Try.ntmps31
    go_wp2
    go_ret
    exact ⟨rfl, G0.out⟩
  · have h1 : 32 * (n : Int) ≤ i := by omega
    clear hi
    go_enter Try.func31, Try.ntmps31
    go_wp2
    go_ret
    exact ⟨rfl, G0.out⟩
theorem rbit_v (p : Option Addr) (n c i : Nat) (x : Nat) (w : World) (h : Nw w p n c (digs x)) :
    Calls Try.prog 31 #[.agg #[.slice p n c], .int .i64 (i : Int)] w fun e w' => e = .returned (.bool (x.testBit i)) ∧ Gr w w' := by
  rcases Nat.lt_or_ge i (32 * n) with hi | hi
  · have := rbit_in p n c i _ w h hi
    rwa [val_digs] at this
  · have hz : x.testBit i = false := by
      apply Nat.testBit_lt_two_pow
      have h1 : x < pw n := (digs_length_le x n).1 (by rw [h.len]; exact Nat.le_refl _)
      rw [pw_eq] at h1
      exact Nat.lt_of_lt_of_le h1 (Nat.pow_le_pow_right (by decide) hi)
    rw [hz]
    exact rbit_out p n c i w (.inr (by omega)) h.small
theorem bit_step {x k : Nat} (h : x < 2 ^ (k + 1)) (hb : x.testBit k = false) : x < 2 ^ k := by
  rcases Nat.lt_or_ge x (2 ^ k) with h1 | h1
  · exact h1
  · exfalso
    rw [Nat.testBit_eq_decide_div_mod_eq, decide_eq_false_iff_not] at hb
    apply hb
    have h2 : x / 2 ^ k < 2 := (Nat.div_lt_iff_lt_mul (Nat.pow_pos (by decide))).2 (by rw [Nat.pow_succ, Nat.mul_comm] at h; exact h)
    have h3 : 1 ≤ x / 2 ^ k := (Nat.le_div_iff_mul_le (Nat.pow_pos (by decide))).2 (by rw [Nat.one_mul]; exact h1)
    omega
theorem nb_of_bit {x k : Nat} (h : x < 2 ^ (k + 1)) (hb : x.testBit k = true) : nb x = k + 1 := by
  apply Nat.le_antisymm ((nb_le x (k + 1)).2 h)
  apply Nat.succ_le_of_lt
  apply Nat.lt_of_not_le
  intro hh
  have := (nb_le x k).1 hh
  rw [Nat.testBit_lt_two_pow this] at hb
  cases hb
theorem nb_zero : nb 0 = 0 := Nat.le_zero.1 ((nb_le 0 0).2 (by decide))

set_option maxRecDepth 100000 in
set_option maxHeartbeats 2000000 in
theorem rbits_v (p : Option Addr) (n c : Nat) (x : Nat) (w : World) (h : Nw w p n c (digs x)) :
    Calls Try.prog 30 #[.agg #[.slice p n c]] w fun e w' => e = .returned (.int .i64 (nb x)) ∧ Gr w w' := by
  have hn := h.small
  have HN := Lib.hid h
  have w2 : IntKind.i64.wrap (32 * (n : Int)) = 32 * (n : Int) := IntWalk.i64_in _ (by omega)
  have HX : Hid (x < 2 ^ (32 * n)) := Lib.hid (by
    have h1 : x < pw n := (digs_length_le x n).1 (by rw [h.len]; exact Nat.le_refl _)
    rwa [pw_eq] at h1)
  have G0 := Lib.hid ((Gr.refl w).alloc (.cells #[.slice p n c] 24))
  clear h
  go_enter Try.func30, Try.ntmps30
  go_wp2
  go_loopw [3] (fun i wr => ∃ k : Nat, k ≤ 32 * n ∧ i = .int .i64 k ∧ Hid (x < 2 ^ k) ∧ wr.cell? ⟨w.heap.size, 0, none⟩ = some (.slice p n c) ∧ Gr w wr) (fun i _ => (intOf i).toNat)
  case atStart => exact ⟨32 * n, Nat.le_refl _, by simp, HX, by simp [go_sem], G0.out⟩
  case round =>
    obtain ⟨k, hk, rfl, hx, b1, hG⟩ := hrel
    have HG := Lib.hid hG
    clear hG HX
    by_cases hk0 : k = 0
    · subst hk0
      have H0 : Hid (nb x = 0) := Lib.hid (Nat.le_zero.1 ((nb_le x 0).2 hx.out))
      clear hx
      go_wp2
      go_ret
      exact ⟨by rw [H0.out]; rfl, HG.out⟩
    · obtain ⟨j, rfl⟩ : ∃ j, k = j + 1 := ⟨k - 1, by omega⟩
      clear hk0
      have hj : IntKind.i64.wrap (((j + 1 : Nat) : Int) - 1) = (j : Int) := by rw [IntWalk.i64_in _ (by omega)]; omega
      have hj2 : IntKind.i64.wrap ((j : Int) + 1 - 1) = (j : Int) := by rw [IntWalk.i64_in _ (by omega)]; omega
      have hj3 : (0 : Int) < (j : Int) + 1 := by omega
      go_wp2_with fail
      refine (rbit_v p n c j x _ (HN.out.grow HG.out)).mono ?_
      rintro e w3 ⟨rfl, hg⟩
      have k1 := hg.cell b1
      have H3 := Lib.hid (HG.out.trans hg)
      clear hg b1
      cases hb : x.testBit j with
      | true =>
        have H0 := Lib.hid (nb_of_bit hx.out hb)
        clear hb hx
        go_wp2
        go_ret
        exact ⟨by rw [H0.out]; first | rfl | simp, H3.out⟩
      | false =>
        have HS := Lib.hid (bit_step hx.out hb)
        clear hb hx
        go_wp2
        go_roundw
        case rel => exact ⟨j, by omega, by go_num, HS, k1, H3.out⟩
        case measure => simp [intOf]
end Go.Proofs.Ytiefnhpbniaklaa.Nr2
