/- The contract of the reference's Shift, at every shift. -/
import Derived.Test.YtiefnhpbniaklaaNrshift
import Derived.Test.YtiefnhpbniaklaaNshm
namespace Go.Proofs.Ytiefnhpbniaklaa.Nr2
open Go.RowKit Go.Shelf Go.Proofs.Ytiefnhpbniaklaa.Nm Go.Proofs.Ytiefnhpbniaklaa.Ne Go.Proofs.Ytiefnhpbniaklaa.Nf Go.Proofs.Ytiefnhpbniaklaa.Nk Go.Proofs.Ytiefnhpbniaklaa.Nv Go.Proofs.Ytiefnhpbniaklaa.Nlshifts

set_option maxRecDepth 100000 in
set_option maxHeartbeats 4000000 in
theorem rshift_early (p : Option Addr) (n c x : Nat) (M : Int) (hM1 : -10000 ≤ M) (hM2 : M ≤ 10000) (hx : x < pw 64) (h0 : n = 0 ∨ (nb x : Int) + M ≤ 0) (w : World) (h : Nw w p n c (digs x)) :
    Calls Try.prog 43 #[.agg #[.slice p n c], .int .i64 M] w (Gives 0 0 w) := by
  have hb := nb_bound hx
  have HX := Lib.hid (fun W (hW : Gr w W) => rbits_v p n c x W (h.grow hW))
  obtain ⟨B, eB⟩ : ∃ B, nb x = B := ⟨_, rfl⟩
  rw [eB] at HX h0 hb
  obtain ⟨S, hS⟩ : ∃ S : Int, (B : Int) + M = S := ⟨_, rfl⟩
  have s0 : IntKind.i64.wrap ((B : Int) + M) = S := by rw [hS]; exact IntWalk.i64_in _ (by omega)
  have G2 := Lib.hid (((Gr.refl w).alloc (.cells #[.slice p n c] 24)).alloc (.cells #[.slice none 0 0] 24))
  clear h hx hb
  by_cases hn : n = 0
  · have hn1 : ((n : Int) == 0) = true := by simp; omega
    clear h0 hS hM1 hM2 hn
    go_enter Try.func43, Try.ntmps43
    go_wp2_with fail
    refine (HX.out _ G2.out).mono ?_
    rintro e W1 ⟨rfl, hg⟩
    have c1 := hg.cell (p := ⟨w.heap.size, 0, none⟩) (v := .slice p n c) (by simp [go_sem])
    have c3 := hg.cell (p := ⟨w.heap.size + 1, 0, none⟩) (v := .slice none 0 0) (by simp [go_sem])
    have f3 := hg.frozen (p := ⟨w.heap.size + 1, 0, none⟩) (v := .slice none 0 0) (by simp [go_sem]) (by simp [go_sem])
    have GG := Lib.hid (G2.out.trans hg)
    clear hg
    go_wp2
    exact bodyPost_ret (v := .tuple #[.agg #[.slice none 0 0], .int .i64 0]) (by simp [results, Try.results43, go_sem, c3]) rfl ⟨_, _, _, rfl, nr_nil _ _, GG.out.setCell (by simp) _⟩
  · have hn1 : ((n : Int) == 0) = false := by simp; omega
    have hs : S ≤ 0 := by rcases h0 with h | h <;> omega
    clear h0 hS hM1 hM2 hn
    go_enter Try.func43, Try.ntmps43
    go_wp2_with fail
    refine (HX.out _ G2.out).mono ?_
    rintro e W1 ⟨rfl, hg⟩
    have c1 := hg.cell (p := ⟨w.heap.size, 0, none⟩) (v := .slice p n c) (by simp [go_sem])
    have c3 := hg.cell (p := ⟨w.heap.size + 1, 0, none⟩) (v := .slice none 0 0) (by simp [go_sem])
    have f3 := hg.frozen (p := ⟨w.heap.size + 1, 0, none⟩) (v := .slice none 0 0) (by simp [go_sem]) (by simp [go_sem])
    have GG := Lib.hid (G2.out.trans hg)
    clear hg
    go_wp2
    exact bodyPost_ret (v := .tuple #[.agg #[.slice none 0 0], .int .i64 0]) (by simp [results, Try.results43, go_sem, c3]) rfl ⟨_, _, _, rfl, nr_nil _ _, GG.out.setCell (by simp) _⟩
set_option maxRecDepth 100000 in
set_option maxHeartbeats 4000000 in
theorem rshift_big (p : Option Addr) (n c x : Nat) (M : Int) (hM1 : -10000 ≤ M) (hM2 : M ≤ 10000) (hx : x < pw 64) (hn : 0 < n) (h0 : 2048 < (nb x : Int) + M) (w : World) (h : Nw w p n c (digs x)) :
    Calls Try.prog 43 #[.agg #[.slice p n c], .int .i64 M] w (Gives 0 9 w) := by
  have hb := nb_bound hx
  have HX := Lib.hid (fun W (hW : Gr w W) => rbits_v p n c x W (h.grow hW))
  obtain ⟨B, eB⟩ : ∃ B, nb x = B := ⟨_, rfl⟩
  rw [eB] at HX h0 hb
  obtain ⟨S, hS⟩ : ∃ S : Int, (B : Int) + M = S := ⟨_, rfl⟩
  have s0 : IntKind.i64.wrap ((B : Int) + M) = S := by rw [hS]; exact IntWalk.i64_in _ (by omega)
  have s1 : ¬ S ≤ 0 := by omega
  have s2 : (2048 : Int) < S := by omega
  have hn1 : ((n : Int) == 0) = false := by simp; omega
  have G2 := Lib.hid (((Gr.refl w).alloc (.cells #[.slice p n c] 24)).alloc (.cells #[.slice none 0 0] 24))
  clear h hx hb h0 hS hM1 hM2 hn
  go_enter Try.func43, Try.ntmps43
  go_wp2_with fail
  refine (HX.out _ G2.out).mono ?_
  rintro e W1 ⟨rfl, hg⟩
  have c1 := hg.cell (p := ⟨w.heap.size, 0, none⟩) (v := .slice p n c) (by simp [go_sem])
  have c3 := hg.cell (p := ⟨w.heap.size + 1, 0, none⟩) (v := .slice none 0 0) (by simp [go_sem])
  have f3 := hg.frozen (p := ⟨w.heap.size + 1, 0, none⟩) (v := .slice none 0 0) (by simp [go_sem]) (by simp [go_sem])
  have GG := Lib.hid (G2.out.trans hg)
  clear hg
  go_wp2
  exact bodyPost_ret (v := .tuple #[.agg #[.slice none 0 0], .int .i64 9]) (by simp [results, Try.results43, go_sem, c3]) rfl ⟨_, _, _, rfl, nr_nil _ _, GG.out.setCell (by simp) _⟩

theorem len_zero {w : World} {p : Option Addr} {n c x : Nat} (h : Nw w p n c (digs x)) : n = 0 ↔ x = 0 := by
  constructor
  · intro e
    have h1 := h.len
    rw [e] at h1
    have h2 := val_digs x
    rw [List.eq_nil_of_length_eq_zero h1] at h2
    have : val [] = 0 := rfl
    omega
  · rintro rfl
    have := h.len
    rw [digs_zero] at this
    exact this.symm
theorem nb_pos {x : Nat} (h : 0 < x) : 0 < nb x := Nat.pos_of_ne_zero (fun e => by
  have := (nb_le x 0).1 (by omega)
  omega)
theorem rshift_up (p : Option Addr) (n c x N z e : Nat) (hN : N ≤ 10000) (hF : Fits (x * 2 ^ N) z e) (hx : x < pw 64) (w : World) (h : Nw w p n c (digs x)) :
    Calls Try.prog 43 #[.agg #[.slice p n c], .int .i64 (N : Int)] w (Gives z e w) := by
  rcases Nat.eq_zero_or_pos x with h0 | h0
  · obtain ⟨rfl, rfl⟩ := hF.of (by rw [h0, Nat.zero_mul]; exact pw_pos 64)
    rw [h0, Nat.zero_mul]
    exact rshift_early p n c x N (by omega) (by omega) hx (.inl ((len_zero h).2 h0)) w h
  · have hn : 0 < n := Nat.pos_of_ne_zero (fun e => by have := (len_zero h).1 e; omega)
    have hb := nb_shift N h0
    obtain ⟨T, hT⟩ : ∃ T, T = 2048 := ⟨_, rfl⟩
    rcases Nat.lt_or_ge 2048 (nb x + N) with h1 | h1
    · have hbig : pw 64 ≤ x * 2 ^ N := by
        rw [pw64 hT]
        apply Nat.le_of_not_lt
        intro hh
        have := (nb_le (x * 2 ^ N) T).2 hh
        omega
      obtain ⟨rfl, rfl, _⟩ := hF.big (by
        rintro rfl
        have := hF.ok.2
        omega)
      exact rshift_big p n c x N (by omega) (by omega) hx hn (by omega) w h
    · have hz : x * 2 ^ N < 2 ^ (nb x + N) := (nb_le _ _).1 (by omega)
      obtain ⟨rfl, rfl⟩ := hF.of (by
        rw [pw64 hT]
        exact Nat.lt_of_lt_of_le hz (Nat.pow_le_pow_right (by decide) (by omega)))
      refine rshift_loop p n c x _ N (nb x + N) (by omega) (by omega) hn (by omega) (by have := nb_pos h0; omega) h1 hz w h ?_
      intro i W hW
      rcases Nat.lt_or_ge i N with hi | hi
      · have e : (x * 2 ^ N).testBit i = false := by rw [Nat.testBit_mul_two_pow]; simp; omega
        rw [e]
        exact rbit_out p n c _ W (.inl (by omega)) h.small
      · have e : (x * 2 ^ N).testBit i = x.testBit (i - N) := by rw [Nat.testBit_mul_two_pow]; simp [hi]
        rw [e, show (i : Int) - (N : Int) = ((i - N : Nat) : Int) by omega]
        exact rbit_v p n c (i - N) x W (h.grow hW)
theorem rshift_down (p : Option Addr) (n c x N : Nat) (hN : N ≤ 10000) (hx : x < pw 64) (w : World) (h : Nw w p n c (digs x)) :
    Calls Try.prog 43 #[.agg #[.slice p n c], .int .i64 (-(N : Int))] w (Gives (x / 2 ^ N) 0 w) := by
  have hd := nb_down x N
  have hb := nb_bound hx
  rcases Nat.lt_or_ge N (nb x) with h1 | h1
  · have h0 : 0 < x := Nat.pos_of_ne_zero (fun e => by rw [e, nb_zero] at h1; omega)
    have hn : 0 < n := Nat.pos_of_ne_zero (fun e => by have := (len_zero h).1 e; omega)
    refine rshift_loop p n c x _ (-(N : Int)) (nb x - N) (by omega) (by omega) hn (by omega) (by omega) (by omega) ((nb_le _ _).1 (by omega)) w h ?_
    intro i W hW
    rw [bit_down, show (i : Int) - -(N : Int) = ((i + N : Nat) : Int) by omega]
    exact rbit_v p n c (i + N) x W (h.grow hW)
  · have hz : x / 2 ^ N = 0 := by
      have h3 := (nb_le (x / 2 ^ N) 0).1 (by omega)
      exact Nat.lt_one_iff.1 (by simpa using h3)
    rw [hz]
    exact rshift_early p n c x _ (by omega) (by omega) hx (.inr (by omega)) w h
end Go.Proofs.Ytiefnhpbniaklaa.Nr2
