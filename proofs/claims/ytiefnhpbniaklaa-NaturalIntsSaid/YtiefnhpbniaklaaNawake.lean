/- The examples that each law of layer 2 checks first: they hold. -/
import Derived.Test.YtiefnhpbniaklaaNv
namespace Go.Proofs.Ytiefnhpbniaklaa.Nv
open Go.RowKit Go.Shelf Go.Proofs.Ytiefnhpbniaklaa.Nm Go.Proofs.Ytiefnhpbniaklaa.Ne Go.Proofs.Ytiefnhpbniaklaa.Nf Go.Proofs.Ytiefnhpbniaklaa.Nk

theorem digs_cons {x : Nat} {l : List Nat} (h : x ≠ 0) (h2 : digs (x / 4294967296) = l) : digs x = x % 4294967296 :: l := by rw [digs_pos h, h2]
theorem digs_one {x : Nat} (h : x ≠ 0) (h2 : x < 4294967296) : digs x = [x] := by rw [digs_pos h, Nat.div_eq_of_lt h2, digs_zero, Nat.mod_eq_of_lt h2]
theorem ex_a : digs 18446744073709551615 = [4294967295, 4294967295] := digs_cons (by decide) (digs_one (by decide) (by decide))
theorem ex_p : digs 340282366920938463426481119284349108225 = [1, 0, 4294967294, 4294967295] := digs_cons (by decide) (digs_cons (by decide) (digs_cons (by decide) (digs_one (by decide) (by decide))))
theorem ex_b : digs 10000000000 = [1410065408, 2] := digs_cons (by decide) (digs_one (by decide) (by decide))
theorem ex_3 : digs 3 = [3] := digs_one (by decide) (by decide)
theorem ex_q : digs 3333333333 = [3333333333] := digs_one (by decide) (by decide)
theorem ex_1 : digs 1 = [1] := digs_one (by decide) (by decide)

/-- One, two words that have been written out. -/
theorem lit1 (w : World) (x a : Nat) (h : digs x = [a]) (ha : a < 4294967296) : Nw (w.alloc (.cells #[.int .u32 (a : Int)] 62)) (some ⟨w.heap.size, 0, none⟩) 1 1 (digs x) := by
  rw [h]
  refine nw_lit rfl (ok_cons.2 ⟨ha, ok_nil⟩) (by decide) ?_
  intro i hi
  match i, hi with
  | 0, _ => simp [go_sem]
theorem lit2 (w : World) (x a b : Nat) (h : digs x = [a, b]) (ha : a < 4294967296) (hb : b < 4294967296) : Nw (w.alloc (.cells #[.int .u32 (a : Int), .int .u32 (b : Int)] 62)) (some ⟨w.heap.size, 0, none⟩) 2 2 (digs x) := by
  rw [h]
  refine nw_lit rfl (ok_cons.2 ⟨ha, ok_cons.2 ⟨hb, ok_nil⟩⟩) (by decide) ?_
  intro i hi
  match i, hi with
  | 0, _ => simp [go_sem]
  | 1, _ => simp [go_sem]
theorem lit4 (w : World) (x a b c d : Nat) (h : digs x = [a, b, c, d]) (ha : a < 4294967296) (hb : b < 4294967296) (hc : c < 4294967296) (hd : d < 4294967296) :
    Nw (w.alloc (.cells #[.int .u32 (a : Int), .int .u32 (b : Int), .int .u32 (c : Int), .int .u32 (d : Int)] 62)) (some ⟨w.heap.size, 0, none⟩) 4 4 (digs x) := by
  rw [h]
  refine nw_lit rfl (ok_cons.2 ⟨ha, ok_cons.2 ⟨hb, ok_cons.2 ⟨hc, ok_cons.2 ⟨hd, ok_nil⟩⟩⟩⟩) (by decide) ?_
  intro i hi
  match i, hi with
  | 0, _ => simp [go_sem]
  | 1, _ => simp [go_sem]
  | 2, _ => simp [go_sem]
  | 3, _ => simp [go_sem]
/-- slices.Equal of values. -/
theorem Equal_v {p q : Option Addr} {n m c d x : Nat} {w : World} (hl : Nw w p n c (digs x)) (hk : Nw w q m d (digs x)) :
    Calls Try.prog 49 #[.slice p n c, .slice q m d] w fun e w' => e = .returned (.bool true) ∧ Gr w w' := by
  have en : m = n := by rw [← hl.len, ← hk.len]
  subst en
  refine (equal_any p q _ _ m c d hl.len hk.len hl.small w hl.rd hk.rd).mono ?_
  rintro e w' ⟨rfl, j, rfl⟩
  exact ⟨by rw [decide_eq_true rfl], (Gr.refl w).drewN j⟩

set_option maxRecDepth 100000 in
set_option maxHeartbeats 4000000 in
theorem awake_any (w : World) : Calls Try.prog 20 #[] w fun e w' => e = .returned (.bool true) ∧ Gr w w' := by
  go_enter Try.func20, Try.ntmps20
  go_wp2_with fail
  have N1 := Lib.hid ((lit2 w _ 4294967295 4294967295 ex_a (by decide) (by decide)).grow ((Gr.refl _).alloc (.cells #[.slice (some ⟨w.heap.size, 0, none⟩) 2 2] 24)))
  refine (Mul_v 340282366920938463426481119284349108225 0 (.inl ⟨by have : pw 4 = 340282366920938463463374607431768211456 := rfl; have := pw_mono (show 4 ≤ 64 by decide); omega, by decide, rfl⟩) N1.out N1.out (dv_small (by decide)) (dv_small (by decide))).mono ?_
  rintro e w1 ⟨p1, n1, c1, rfl, hr1, hg1⟩
  have G1 := Lib.hid ((((Gr.refl w).alloc _).alloc _).trans hg1)
  have R1 := Lib.hid hr1.toNw
  clear hr1 hg1 N1
  go_wp2_with fail
  have N2 := Lib.hid (lit2 (w1.alloc (.cells #[.slice p1 n1 c1] 24)) _ 1410065408 2 ex_b (by decide) (by decide))
  have N3 := Lib.hid (lit1 ((w1.alloc (.cells #[.slice p1 n1 c1] 24)).alloc (.cells #[.int .u32 1410065408, .int .u32 2] 62)) _ 3 ex_3 (by decide))
  simp only [World.size_alloc] at N2 N3
  refine (Div_v (by decide) (N2.out.grow ((Gr.refl _).alloc _)) N3.out (dv_small (by decide)) (dv_small (by decide))).mono ?_
  rintro e w2 ⟨p2, q2, n2, c2, m2, d2, rfl, hr2, hs2, hg2⟩
  have k1 := (((Gr.refl w2).alloc (.cells #[.slice p2 n2 c2] 24)).alloc (.cells #[.slice q2 m2 d2] 24)).cell (hg2.cell (p := ⟨w1.heap.size, 0, none⟩) (v := .slice p1 n1 c1) (by simp [go_sem]))
  have GA := Lib.hid (((Gr.refl w2).alloc (.cells #[.slice p2 n2 c2] 24)).alloc (.cells #[.slice q2 m2 d2] 24))
  have G2 := Lib.hid (G1.out.trans ((((Gr.refl w1).alloc _).alloc _).alloc _ |>.trans hg2))
  have R1' := Lib.hid (R1.out.grow ((((Gr.refl w1).alloc _).alloc _).alloc _ |>.trans hg2))
  have R2 := Lib.hid hr2.toNw
  have R3 := Lib.hid hs2.toNw
  clear hr2 hs2 hg2 N2 N3 G1 R1
  go_wp2_with fail
  have N4 := Lib.hid (lit4 ((w2.alloc (.cells #[.slice p2 n2 c2] 24)).alloc (.cells #[.slice q2 m2 d2] 24)) _ 1 0 4294967294 4294967295 ex_p (by decide) (by decide) (by decide) (by decide))
  simp only [World.size_alloc] at N4
  refine (Equal_v (R1'.out.grow (GA.out.alloc _)) N4.out).mono ?_
  rintro e w3 ⟨rfl, hg3⟩
  have k2 := hg3.cell (p := ⟨w2.heap.size, 0, none⟩) (v := .slice p2 n2 c2) (by simp [go_sem])
  have k3 := hg3.cell (p := ⟨w2.heap.size + 1, 0, none⟩) (v := .slice q2 m2 d2) (by simp [go_sem])
  have G3 := Lib.hid ((GA.out.alloc _).trans hg3)
  clear hg3 N4 k1
  go_wp2_with fail
  have N5 := Lib.hid (lit1 w3 _ 3333333333 ex_q (by decide))
  refine (Equal_v ((R2.out.grow G3.out).grow ((Gr.refl w3).alloc _)) N5.out).mono ?_
  rintro e w4 ⟨rfl, hg4⟩
  have k4 := hg4.cell (((Gr.refl w3).alloc _).cell k3)
  have G4 := Lib.hid (((Gr.refl w3).alloc _).trans hg4)
  clear hg4 N5 k2 k3
  go_wp2_with fail
  have N6 := Lib.hid (lit1 w4 _ 1 ex_1 (by decide))
  refine (Equal_v ((R3.out.grow (G3.out.trans G4.out)).grow ((Gr.refl w4).alloc _)) N6.out).mono ?_
  rintro e w5 ⟨rfl, hg5⟩
  have G5 := Lib.hid (G2.out.trans (G3.out.trans (G4.out.trans (((Gr.refl w4).alloc _).trans hg5))))
  clear hg5 N6 k4
  go_wp2
  go_ret
  exact ⟨rfl, G5.out⟩
end Go.Proofs.Ytiefnhpbniaklaa.Nv
