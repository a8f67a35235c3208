/- The contract of natural's Div: where it answers without dividing. -/
import Derived.Test.YtiefnhpbniaklaaNround
namespace Go.Proofs.Ytiefnhpbniaklaa.Nk
open Go.RowKit Go.Shelf Go.Proofs.Ytiefnhpbniaklaa.Nm Go.Proofs.Ytiefnhpbniaklaa.Ne Go.Proofs.Ytiefnhpbniaklaa.Nf

/-- What Div has handed back: two numbers, or an error number. -/
def DivGave (x y : Nat) (w : World) (e : Ending) (w' : World) : Prop :=
  ∃ (p1 p2 : Option Addr) (n1 c1 n2 c2 : Nat), e = .returned (.tuple #[.agg #[.slice p1 n1 c1], .agg #[.slice p2 n2 c2], .int .i64 0]) ∧ Nr w.heap.size w' p1 n1 c1 (digs x) ∧ Nr w.heap.size w' p2 n2 c2 (digs y) ∧ Gr w w'
def DivFailed (c : Nat) (w : World) (e : Ending) (w' : World) : Prop :=
  e = .returned (.tuple #[.agg #[.slice none 0 0], .agg #[.slice none 0 0], .int .i64 (c : Int)]) ∧ Gr w w'

theorem nr_nil (B : Nat) (w : World) : Nr B w none 0 0 (digs 0) := by
  rw [digs_zero]
  exact ⟨⟨rfl, Nat.le_refl _, fun _ => ⟨rfl, rfl⟩, .inl rfl, ok_nil, by decide⟩, .inl rfl⟩

set_option maxHeartbeats 2000000 in
theorem Div_bad (p q : Option Addr) (n m c d : Nat) (l k : List Nat) (w : World) (hl : Nw w p n c l) (hk : Nw w q m d k) (hv : decide (valid l) = false ∨ decide (valid k) = false) :
    Calls Try.prog 40 #[.agg #[.slice p n c], .agg #[.slice q m d]] w (DivFailed 1 w) := by
  have HL := Lib.hid hl
  have HK := Lib.hid hk
  have HV := Lib.hid hv
  have G0 := Lib.hid (((((Gr.refl w).alloc (.cells #[.slice p n c] 24)).alloc (.cells #[.slice q m d] 24)).alloc (.cells #[.slice none 0 0] 24)).alloc (.cells #[.slice none 0 0] 24))
  clear hl hk hv
  go_enter Try.func40, Try.ntmps40
  go_wp2_with fail
  refine (Valid_n p n c l _ (HL.out.grow G0.out)).mono ?_
  rintro e w1 ⟨rfl, hg⟩
  have c1 := hg.cell (p := ⟨w.heap.size, 0, none⟩) (v := .slice p n c) (by simp [go_sem])
  have c2 := hg.cell (p := ⟨w.heap.size + 1, 0, none⟩) (v := .slice q m d) (by simp [go_sem])
  have c3 := hg.cell (p := ⟨w.heap.size + 1 + 1, 0, none⟩) (v := .slice none 0 0) (by simp [go_sem])
  have f3 := hg.frozen (p := ⟨w.heap.size + 1 + 1, 0, none⟩) (v := .slice none 0 0) (by simp [go_sem]) (by simp [go_sem])
  have c4 := hg.cell (p := ⟨w.heap.size + 1 + 1 + 1, 0, none⟩) (v := .slice none 0 0) (by simp [go_sem])
  have f4 := hg.frozen (p := ⟨w.heap.size + 1 + 1 + 1, 0, none⟩) (v := .slice none 0 0) (by simp [go_sem]) (by simp [go_sem])
  have GA := Lib.hid (G0.out.trans hg)
  clear hg
  cases hv1 : decide (valid l)
  · clear hv1
    go_wp2
    exact bodyPost_ret (v := .tuple #[.agg #[.slice none 0 0], .agg #[.slice none 0 0], .int .i64 1]) (by simp [results, Try.results40, go_sem, c3, c4]) rfl ⟨rfl, (GA.out.setCell (by simp; omega) _).setCell (by simp; omega) _⟩
  · have hv2 : decide (valid k) = false := by
      rcases HV.out with h | h
      · rw [hv1] at h; cases h
      · exact h
    clear hv1
    go_wp2_with fail
    refine (Valid_n q m d k _ (HK.out.grow GA.out)).mono ?_
    rintro e w2 ⟨rfl, hg⟩
    rw [hv2]
    have e1 := hg.cell c1
    have e2 := hg.cell c2
    have e3 := hg.cell c3
    have e4 := hg.cell c4
    have g3 := hg.frozen c3 f3
    have g4 := hg.frozen c4 f4
    have GB := Lib.hid (GA.out.trans hg)
    clear hg c1 c2 c3 c4 f3 f4
    clear hv2
    go_wp2
    exact bodyPost_ret (v := .tuple #[.agg #[.slice none 0 0], .agg #[.slice none 0 0], .int .i64 1]) (by simp [results, Try.results40, go_sem, e3, e4]) rfl ⟨rfl, (GB.out.setCell (by simp; omega) _).setCell (by simp; omega) _⟩

set_option maxHeartbeats 2000000 in
theorem Div_zero (p q : Option Addr) (n c d : Nat) (l : List Nat) (w : World) (hl : Nw w p n c l) (hk : Nw w q 0 d []) (hv1 : decide (valid l) = true) :
    Calls Try.prog 40 #[.agg #[.slice p n c], .agg #[.slice q 0 d]] w (DivFailed 10 w) := by
  have hv2 : decide (valid []) = true := decide_eq_true ⟨by decide, .inl rfl⟩
  have HL := Lib.hid hl
  have HK := Lib.hid hk
  have HV1 := Lib.hid hv1
  have HV2 := Lib.hid hv2
  have G0 := Lib.hid (((((Gr.refl w).alloc (.cells #[.slice p n c] 24)).alloc (.cells #[.slice q 0 d] 24)).alloc (.cells #[.slice none 0 0] 24)).alloc (.cells #[.slice none 0 0] 24))
  clear hl hk hv1 hv2
  go_enter Try.func40, Try.ntmps40
  go_wp2_with fail
  refine (Valid_n p n c l _ (HL.out.grow G0.out)).mono ?_
  rintro e w1 ⟨rfl, hg⟩
  rw [HV1.out]
  have c1 := hg.cell (p := ⟨w.heap.size, 0, none⟩) (v := .slice p n c) (by simp [go_sem])
  have c2 := hg.cell (p := ⟨w.heap.size + 1, 0, none⟩) (v := .slice q 0 d) (by simp [go_sem])
  have c3 := hg.cell (p := ⟨w.heap.size + 1 + 1, 0, none⟩) (v := .slice none 0 0) (by simp [go_sem])
  have f3 := hg.frozen (p := ⟨w.heap.size + 1 + 1, 0, none⟩) (v := .slice none 0 0) (by simp [go_sem]) (by simp [go_sem])
  have c4 := hg.cell (p := ⟨w.heap.size + 1 + 1 + 1, 0, none⟩) (v := .slice none 0 0) (by simp [go_sem])
  have f4 := hg.frozen (p := ⟨w.heap.size + 1 + 1 + 1, 0, none⟩) (v := .slice none 0 0) (by simp [go_sem]) (by simp [go_sem])
  have GA := Lib.hid (G0.out.trans hg)
  clear hg
  go_wp2_with fail
  refine (Valid_n q 0 d [] _ (HK.out.grow GA.out)).mono ?_
  rintro e w2 ⟨rfl, hg⟩
  rw [HV2.out]
  have e1 := hg.cell c1
  have e2 := hg.cell c2
  have e3 := hg.cell c3
  have e4 := hg.cell c4
  have g3 := hg.frozen c3 f3
  have g4 := hg.frozen c4 f4
  have GB := Lib.hid (GA.out.trans hg)
  clear hg c1 c2 c3 c4 f3 f4
  go_wp2
  exact bodyPost_ret (v := .tuple #[.agg #[.slice none 0 0], .agg #[.slice none 0 0], .int .i64 10]) (by simp [results, Try.results40, go_sem, e3, e4]) rfl ⟨rfl, (GB.out.setCell (by simp; omega) _).setCell (by simp; omega) _⟩

set_option maxRecDepth 100000 in
set_option maxHeartbeats 4000000 in
theorem Div_less (p q : Option Addr) (n m c d : Nat) (l k : List Nat) (w : World) (hl : Nw w p n c l) (hk : Nw w q m d k) (hv1 : decide (valid l) = true) (hv2 : decide (valid k) = true) (hx : val l < val k) :
    Calls Try.prog 40 #[.agg #[.slice p n c], .agg #[.slice q m d]] w (DivGave 0 (val l) w) := by
  have HL := Lib.hid hl
  have HK := Lib.hid hk
  have HV1 := Lib.hid hv1
  have HV2 := Lib.hid hv2
  have HX := Lib.hid hx
  have hm0 : (m : Int) = 0 ↔ False := by
    refine ⟨fun h => ?_, False.elim⟩
    have h1 : k = [] := List.length_eq_zero_iff.1 (by rw [hk.len]; omega)
    rw [h1] at hx
    simp [val] at hx
  have hm1 : m ≠ 0 := fun h => hm0.1 (by omega)
  have G0 := Lib.hid (((((Gr.refl w).alloc (.cells #[.slice p n c] 24)).alloc (.cells #[.slice q m d] 24)).alloc (.cells #[.slice none 0 0] 24)).alloc (.cells #[.slice none 0 0] 24))
  clear hl hk hv1 hv2 hx
  go_enter Try.func40, Try.ntmps40
  go_wp2_with fail
  refine (Valid_n p n c l _ (HL.out.grow G0.out)).mono ?_
  rintro e w1 ⟨rfl, hg⟩
  rw [HV1.out]
  have c1 := hg.cell (p := ⟨w.heap.size, 0, none⟩) (v := .slice p n c) (by simp [go_sem])
  have c2 := hg.cell (p := ⟨w.heap.size + 1, 0, none⟩) (v := .slice q m d) (by simp [go_sem])
  have c3 := hg.cell (p := ⟨w.heap.size + 1 + 1, 0, none⟩) (v := .slice none 0 0) (by simp [go_sem])
  have f3 := hg.frozen (p := ⟨w.heap.size + 1 + 1, 0, none⟩) (v := .slice none 0 0) (by simp [go_sem]) (by simp [go_sem])
  have c4 := hg.cell (p := ⟨w.heap.size + 1 + 1 + 1, 0, none⟩) (v := .slice none 0 0) (by simp [go_sem])
  have f4 := hg.frozen (p := ⟨w.heap.size + 1 + 1 + 1, 0, none⟩) (v := .slice none 0 0) (by simp [go_sem]) (by simp [go_sem])
  have GA := Lib.hid (G0.out.trans hg)
  clear hg
  go_wp2_with fail
  refine (Valid_n q m d k _ (HK.out.grow GA.out)).mono ?_
  rintro e w2 ⟨rfl, hg⟩
  rw [HV2.out]
  have e1 := hg.cell c1
  have e2 := hg.cell c2
  have e3 := hg.cell c3
  have e4 := hg.cell c4
  have g3 := hg.frozen c3 f3
  have g4 := hg.frozen c4 f4
  have GB := Lib.hid (GA.out.trans hg)
  clear hg c1 c2 c3 c4 f3 f4
  clear GA G0
  go_wp2_with fail
  refine (Compare_ok p q n m c d l k _ (HL.out.grow GB.out) (HK.out.grow GB.out) HV1.out HV2.out).mono ?_
  rintro e w3 ⟨rfl, hg⟩
  have k1 := hg.cell e1
  have k3 := hg.cell e3
  have k4 := hg.cell e4
  have j3 := hg.frozen e3 g3
  have j4 := hg.frozen e4 g4
  have GC := Lib.hid (GB.out.trans hg)
  clear hg e1 e2 e3 e4 g3 g4 GB
  rw [ord_lt HX.out]
  go_wp2_with fail
  refine (clone_at p l n c HL.out.len HL.out.small HL.out.nil _ (GC.out.rd HL.out.rd)).mono ?_
  rintro e w4 ⟨a, cap, rfl, hac, han, how, hg⟩
  have m3 := hg.cell k3
  have m4 := hg.cell k4
  have mf3 := hg.frozen k3 j3
  have mf4 := hg.frozen k4 j4
  have hz : w.heap.size + 1 + 1 + 1 < w3.heap.size := World.block_lt_of_cell? w3 _ k4
  have GD := Lib.hid (GC.out.trans hg)
  have HO := Lib.hid how
  have HA := Lib.hid han
  clear hg k1 k3 k4 j3 j4 how han
  have HR : Hid (Nr w.heap.size ((w4.setCell ⟨w.heap.size + 1 + 1, 0, none⟩ (.slice none 0 0)).setCell ⟨w.heap.size + 1 + 1 + 1, 0, none⟩ (.slice a n cap)) a n cap (digs (val l))) := Lib.hid (by
    have h1 : Nr w3.heap.size w4 a n cap (digs (val l)) := by
      rw [digs_val HL.out.ok (of_decide_eq_true HV1.out).2]
      exact ⟨⟨HL.out.len, hac, HA.out, HO.out.rd, HL.out.ok, HL.out.small⟩, HO.out⟩
    have hne : ∀ (x : Nat), x < w3.heap.size → ∀ y : Addr, a = some y → y.block ≠ x ∨ val (digs (val l)) = 0 := by
      intro x hx y hy
      rcases HO.out with h | ⟨b, off, h2, h3, h4⟩
      · exact .inr (by rw [h, val_digs]; rfl)
      · rw [h2] at hy; cases hy; exact .inl (by dsimp only; omega)
    exact ((h1.set' _ _ (hne _ (by dsimp only; omega)) (tight_digs _)).set' _ _ (hne _ (by dsimp only; omega)) (tight_digs _)).mono (by have := GC.out.le; exact this))
  go_wp2
  exact bodyPost_ret (v := .tuple #[.agg #[.slice none 0 0], .agg #[.slice a n cap], .int .i64 0]) (by simp [results, Try.results40, go_sem, m3, m4]) rfl
    ⟨_, _, _, _, _, _, rfl, nr_nil _ _, HR.out, (GD.out.setCell (by simp; omega) _).setCell (by simp; omega) _⟩
end Go.Proofs.Ytiefnhpbniaklaa.Nk
