/- The contracts of natural's Shift, Mul, Sub. -/
import Derived.Test.YtiefnhpbniaklaaNint
import Derived.Test.YtiefnhpbniaklaaNdown
namespace Go.Proofs.Ytiefnhpbniaklaa.Nk
open Go.RowKit Go.Proofs.Ytiefnhpbniaklaa.Nm Go.Proofs.Ytiefnhpbniaklaa.Ne Go.Proofs.Ytiefnhpbniaklaa.Nf

theorem up_n (p : Option Addr) (l : List Nat) (n cap N : Nat) (hN : N ≤ 10000) (w : World) (h : Nw w p n cap l) :
    Calls Try.prog 98 #[.slice p n cap, .int .i64 N] w (UpAt l N w) := by
  have := h.len; subst this
  exact up_any p l cap N h.small hN h.ok w h.rd

set_option maxHeartbeats 2000000 in
theorem Shift_bad (p : Option Addr) (n c : Nat) (l : List Nat) (N : Int) (hv : decide (valid l) = false) (w : World) (h : Nw w p n c l) :
    Calls Try.prog 41 #[.agg #[.slice p n c], .int .i64 N] w (Failed 1 w) := by
  have H := Lib.hid h
  have G0 := Lib.hid (((Gr.refl w).alloc (.cells #[.slice p n c] 24)).alloc (.cells #[.slice none 0 0] 24))
  have HV := Lib.hid hv
  clear h hv
  go_enter Try.func41, Try.ntmps41
  go_wp2_with fail
  refine (Valid_n p n c l _ (H.out.grow G0.out)).mono ?_
  rintro e w1 ⟨rfl, hg⟩
  rw [HV.out]
  have c1 := hg.cell (p := ⟨w.heap.size, 0, none⟩) (v := .slice p n c) (by simp [go_sem])
  have c3 := hg.cell (p := ⟨w.heap.size + 1, 0, none⟩) (v := .slice none 0 0) (by simp [go_sem])
  have f3 := hg.frozen (p := ⟨w.heap.size + 1, 0, none⟩) (v := .slice none 0 0) (by simp [go_sem]) (by simp [go_sem])
  have GA := Lib.hid (G0.out.trans hg)
  clear hg
  go_wp2
  exact bodyPost_ret (v := .tuple #[.agg #[.slice none 0 0], .int .i64 1]) (by simp [results, Try.results41, go_sem, c3]) rfl ⟨rfl, GA.out.setCell (by simp) _⟩

set_option maxHeartbeats 2000000 in
theorem Shift_range (p : Option Addr) (n c : Nat) (l : List Nat) (N : Int) (hv : decide (valid l) = true) (hN : N < -10000 ∨ 10000 < N) (w : World) (h : Nw w p n c l) :
    Calls Try.prog 41 #[.agg #[.slice p n c], .int .i64 N] w (Failed 2 w) := by
  have H := Lib.hid h
  have G0 := Lib.hid (((Gr.refl w).alloc (.cells #[.slice p n c] 24)).alloc (.cells #[.slice none 0 0] 24))
  have HV := Lib.hid hv
  clear h hv
  rcases hN with hN | hN
  · go_enter Try.func41, Try.ntmps41
    go_wp2_with fail
    refine (Valid_n p n c l _ (H.out.grow G0.out)).mono ?_
    rintro e w1 ⟨rfl, hg⟩
    rw [HV.out]
    have c1 := hg.cell (p := ⟨w.heap.size, 0, none⟩) (v := .slice p n c) (by simp [go_sem])
    have c3 := hg.cell (p := ⟨w.heap.size + 1, 0, none⟩) (v := .slice none 0 0) (by simp [go_sem])
    have f3 := hg.frozen (p := ⟨w.heap.size + 1, 0, none⟩) (v := .slice none 0 0) (by simp [go_sem]) (by simp [go_sem])
    have GA := Lib.hid (G0.out.trans hg)
    clear hg
    go_wp2
    exact bodyPost_ret (v := .tuple #[.agg #[.slice none 0 0], .int .i64 2]) (by simp [results, Try.results41, go_sem, c3]) rfl ⟨rfl, GA.out.setCell (by simp) _⟩
  · go_enter Try.func41, Try.ntmps41
    go_wp2_with fail
    refine (Valid_n p n c l _ (H.out.grow G0.out)).mono ?_
    rintro e w1 ⟨rfl, hg⟩
    rw [HV.out]
    have c1 := hg.cell (p := ⟨w.heap.size, 0, none⟩) (v := .slice p n c) (by simp [go_sem])
    have c3 := hg.cell (p := ⟨w.heap.size + 1, 0, none⟩) (v := .slice none 0 0) (by simp [go_sem])
    have f3 := hg.frozen (p := ⟨w.heap.size + 1, 0, none⟩) (v := .slice none 0 0) (by simp [go_sem]) (by simp [go_sem])
    have GA := Lib.hid (G0.out.trans hg)
    clear hg
    go_wp2
    exact bodyPost_ret (v := .tuple #[.agg #[.slice none 0 0], .int .i64 2]) (by simp [results, Try.results41, go_sem, c3]) rfl ⟨rfl, GA.out.setCell (by simp) _⟩

set_option maxHeartbeats 2000000 in
theorem Shift_down (p : Option Addr) (n c : Nat) (l : List Nat) (N : Nat) (hN : N ≤ 10000) (hN1 : 1 ≤ N) (hv : decide (valid l) = true) (w : World) (h : Nw w p n c l) :
    Calls Try.prog 41 #[.agg #[.slice p n c], .int .i64 (-(N : Int))] w (Gave (val l / 2 ^ N) w) := by
  have H := Lib.hid h
  have G0 := Lib.hid (((Gr.refl w).alloc (.cells #[.slice p n c] 24)).alloc (.cells #[.slice none 0 0] 24))
  have HV := Lib.hid hv
  have HPW : Hid (val l < pw 64) := Lib.hid (Nat.lt_of_lt_of_le (val_lt h.ok) (pw_mono (by have := (of_decide_eq_true hv).1; omega)))
  have hn := h.small
  have hnn : - -(N : Int) = (N : Int) := by omega
  clear h hv
  go_enter Try.func41, Try.ntmps41
  go_wp2_with fail
  refine (Valid_n p n c l _ (H.out.grow G0.out)).mono ?_
  rintro e w1 ⟨rfl, hg⟩
  rw [HV.out]
  have c1 := hg.cell (p := ⟨w.heap.size, 0, none⟩) (v := .slice p n c) (by simp [go_sem])
  have c3 := hg.cell (p := ⟨w.heap.size + 1, 0, none⟩) (v := .slice none 0 0) (by simp [go_sem])
  have f3 := hg.frozen (p := ⟨w.heap.size + 1, 0, none⟩) (v := .slice none 0 0) (by simp [go_sem]) (by simp [go_sem])
  have GA := Lib.hid (G0.out.trans hg)
  clear hg
  go_wp2_with fail
  refine (down_any p l n c N hN _ (H.out.grow GA.out)).mono ?_
  rintro e w2 ⟨q, r, cap, rfl, hrc, hrl, hrn, hro, hrv, how, hg⟩
  have e3 := hg.cell c3
  have g3 := hg.frozen c3 f3
  have GB := Lib.hid (GA.out.trans hg)
  have HO := Lib.hid (how.mono GA.out.le)
  have HRO := Lib.hid hro
  have HRV := Lib.hid hrv
  have HRN := Lib.hid hrn
  have hrl2 : r.length ≤ n := by rw [H.out.len] at hrl; exact hrl
  have hq : ∀ x : Addr, q = some x → x.block ≠ w.heap.size + 1 ∨ r = [] := fun x ex => by
    rcases how with h0 | ⟨b, off, e, hb, _⟩
    · exact .inr h0
    · left
      rw [ex] at e
      cases e
      have := World.block_lt_of_cell? w1 _ c3
      simp at this ⊢
      omega
  have HQ := Lib.hid hq
  clear hg c3 f3 how hro hrv hrn hrl hq
  go_wp2_with fail
  refine (fit_gave q r.length cap r rfl hrc (by omega) HRN.out HRO.out w.heap.size w2 HO.out (by rw [HRV.out]; exact Nat.lt_of_le_of_lt (Nat.div_le_self _ _) HPW.out)).mono ?_
  rintro e w3 ⟨n3, rfl, hr, hg⟩
  have o3 := hg.cell e3
  have of3 := hg.frozen e3 g3
  have G3 := Lib.hid (GB.out.trans hg)
  have HR := Lib.hid hr
  clear hg hr
  go_wp2
  refine bodyPost_ret (v := .tuple #[.agg #[.slice q n3 cap], .int .i64 0]) (by simp [results, Try.results41, go_sem, o3]) rfl
    ⟨_, _, _, rfl, ?_, G3.out.setCell (by simp) _⟩
  rw [← HRV.out]
  refine HR.out.set' _ _ (fun x ex => ?_) (tight_digs _)
  rcases HQ.out x ex with h | h
  · exact .inl h
  · exact .inr (by rw [val_digs, h]; rfl)

set_option maxHeartbeats 2000000 in
theorem Shift_up (p : Option Addr) (n c : Nat) (l : List Nat) (N : Nat) (hN : N ≤ 10000) (hv : decide (valid l) = true) (hx : val l * 2 ^ N < pw 64) (w : World) (h : Nw w p n c l) :
    Calls Try.prog 41 #[.agg #[.slice p n c], .int .i64 (N : Int)] w (Gave (val l * 2 ^ N) w) := by
  have H := Lib.hid h
  have G0 := Lib.hid (((Gr.refl w).alloc (.cells #[.slice p n c] 24)).alloc (.cells #[.slice none 0 0] 24))
  have HV := Lib.hid hv
  have HX := Lib.hid hx
  have hn := (of_decide_eq_true hv).1
  rw [h.len] at hn
  clear h hv hx
  go_enter Try.func41, Try.ntmps41
  go_wp2_with fail
  refine (Valid_n p n c l _ (H.out.grow G0.out)).mono ?_
  rintro e w1 ⟨rfl, hg⟩
  rw [HV.out]
  have c1 := hg.cell (p := ⟨w.heap.size, 0, none⟩) (v := .slice p n c) (by simp [go_sem])
  have c3 := hg.cell (p := ⟨w.heap.size + 1, 0, none⟩) (v := .slice none 0 0) (by simp [go_sem])
  have f3 := hg.frozen (p := ⟨w.heap.size + 1, 0, none⟩) (v := .slice none 0 0) (by simp [go_sem]) (by simp [go_sem])
  have GA := Lib.hid (G0.out.trans hg)
  clear hg
  go_wp2_with fail
  refine (up_n p l n c N hN _ (H.out.grow GA.out)).mono ?_
  rintro e w2 ⟨g, r, cap, rfl, hrl, hrc, _, hro, hrv, hgb, hh, hg⟩
  have e3 := hg.cell c3
  have g3 := hg.frozen c3 f3
  have hgb2 : w.heap.size + 1 < g := Nat.lt_of_lt_of_le (World.block_lt_of_cell? w1 _ c3) hgb
  have GB := Lib.hid (GA.out.trans hg)
  have HO := Lib.hid (hh.own (B := w.heap.size) (by omega))
  have HRO := Lib.hid hro
  have HRV := Lib.hid hrv
  have hrs : r.length ≤ 1000 := by rw [hrl, H.out.len]; omega
  clear hg c3 f3 hro hrv hrl hh hgb
  go_wp2_with fail
  refine (fit_gave (some ⟨g, 0, none⟩) r.length cap r rfl hrc (by omega) (fun e => by cases e) HRO.out w.heap.size w2 HO.out (by rw [HRV.out]; exact HX.out)).mono ?_
  rintro e w3 ⟨n3, rfl, hr, hg⟩
  have o3 := hg.cell e3
  have of3 := hg.frozen e3 g3
  have G3 := Lib.hid (GB.out.trans hg)
  have HR := Lib.hid hr
  clear hg hr
  go_wp2
  refine bodyPost_ret (v := .tuple #[.agg #[.slice (some ⟨g, 0, none⟩) n3 cap], .int .i64 0]) (by simp [results, Try.results41, go_sem, o3]) rfl
    ⟨_, _, _, rfl, ?_, G3.out.setCell (by simp) _⟩
  rw [← HRV.out]
  exact HR.out.set _ _ (fun x ex => by cases ex; simp; omega)

set_option maxHeartbeats 2000000 in
theorem Shift_big (p : Option Addr) (n c : Nat) (l : List Nat) (N : Nat) (hN : N ≤ 10000) (hv : decide (valid l) = true) (hx : pw 64 ≤ val l * 2 ^ N) (w : World) (h : Nw w p n c l) :
    Calls Try.prog 41 #[.agg #[.slice p n c], .int .i64 (N : Int)] w (Failed 9 w) := by
  have H := Lib.hid h
  have G0 := Lib.hid (((Gr.refl w).alloc (.cells #[.slice p n c] 24)).alloc (.cells #[.slice none 0 0] 24))
  have HV := Lib.hid hv
  have HX := Lib.hid hx
  have hn := (of_decide_eq_true hv).1
  rw [h.len] at hn
  clear h hv hx
  go_enter Try.func41, Try.ntmps41
  go_wp2_with fail
  refine (Valid_n p n c l _ (H.out.grow G0.out)).mono ?_
  rintro e w1 ⟨rfl, hg⟩
  rw [HV.out]
  have c1 := hg.cell (p := ⟨w.heap.size, 0, none⟩) (v := .slice p n c) (by simp [go_sem])
  have c3 := hg.cell (p := ⟨w.heap.size + 1, 0, none⟩) (v := .slice none 0 0) (by simp [go_sem])
  have f3 := hg.frozen (p := ⟨w.heap.size + 1, 0, none⟩) (v := .slice none 0 0) (by simp [go_sem]) (by simp [go_sem])
  have GA := Lib.hid (G0.out.trans hg)
  clear hg
  go_wp2_with fail
  refine (up_n p l n c N hN _ (H.out.grow GA.out)).mono ?_
  rintro e w2 ⟨g, r, cap, rfl, hrl, hrc, _, hro, hrv, hgb, hh, hg⟩
  have e3 := hg.cell c3
  have g3 := hg.frozen c3 f3
  have hgb2 : w.heap.size + 1 < g := Nat.lt_of_lt_of_le (World.block_lt_of_cell? w1 _ c3) hgb
  have GB := Lib.hid (GA.out.trans hg)
  have HO := Lib.hid (hh.own (B := w.heap.size) (by omega))
  have HRO := Lib.hid hro
  have HRV := Lib.hid hrv
  have hrs : r.length ≤ 1000 := by rw [hrl, H.out.len]; omega
  clear hg c3 f3 hro hrv hrl hh hgb
  go_wp2_with fail
  refine (fit_failed (some ⟨g, 0, none⟩) r.length cap r rfl hrc (by omega) HRO.out w2 HO.out.rd (by rw [HRV.out]; exact HX.out)).mono ?_
  rintro e w3 ⟨rfl, hg⟩
  have o3 := hg.cell e3
  have of3 := hg.frozen e3 g3
  have G3 := Lib.hid (GB.out.trans hg)
  clear hg
  go_wp2
  exact bodyPost_ret (v := .tuple #[.agg #[.slice none 0 0], .int .i64 9]) (by simp [results, Try.results41, go_sem, o3]) rfl ⟨rfl, G3.out.setCell (by simp) _⟩
end Go.Proofs.Ytiefnhpbniaklaa.Nk
