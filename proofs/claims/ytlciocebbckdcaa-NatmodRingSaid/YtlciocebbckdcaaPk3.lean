/- A part of the proofs, joined of smaller texts: Mg, Mi, Mj, Mk. -/
import Derived.Test.YtlciocebbckdcaaPk2
import Derived.Deep.Cut

/- The contract of natmod's invert. -/
namespace Go.Proofs.Ytlciocebbckdcaa.Mo
open Go.RowKit Go.Shelf Go.Proofs.Ytlciocebbckdcaa.Nm Go.Proofs.Ytlciocebbckdcaa.Ne Go.Proofs.Ytlciocebbckdcaa.Nf Go.Proofs.Ytlciocebbckdcaa.Nk Go.Proofs.Ytlciocebbckdcaa.Nv Go.Proofs.Ytlciocebbckdcaa.Nr2 Go.Proofs.Ytlciocebbckdcaa.Kr

/-- What holds between two rounds of invert. -/
structure InvSt (w W : World) (x y B C : Nat) (q : Option Addr) (m d : Nat) (p0 : Option Addr) (n0 c0 : Nat) (p1 : Option Addr) (n1 c1 : Nat) (p2 : Option Addr) (n2 c2 : Nat) (p3 : Option Addr) (n3 c3 : Nat) (r0 x0 r1 x1 : Nat) (s0 s1 : Bool) : Prop where
  g : Gr w W
  km : W.cell? ⟨w.heap.size + 1, 0, none⟩ = some (.slice q m d)
  kr : W.cell? ⟨w.heap.size + 1 + 1, 0, none⟩ = some (.slice none 0 0)
  fr : W.frozen? ⟨w.heap.size + 1 + 1, 0, none⟩ = false
  nm : Nw W q m d (digs y)
  bc : B ≠ C
  lB : w.heap.size + 3 ≤ B
  lC : w.heap.size + 3 ≤ C
  mB : Av B q (digs y)
  mC : Av C q (digs y)
  sB : Stp W B (.slice p0 n0 c0) (.slice p1 n1 c1) (.bool s0)
  sC : Stp W C (.slice p2 n2 c2) (.slice p3 n3 c3) (.bool s1)
  w0 : Nw W p0 n0 c0 (digs r0)
  w1 : Nw W p1 n1 c1 (digs x0)
  w2 : Nw W p2 n2 c2 (digs r1)
  w3 : Nw W p3 n3 c3 (digs x1)
  a0B : Av B p0 (digs r0)
  a0C : Av C p0 (digs r0)
  a1B : Av B p1 (digs x0)
  a1C : Av C p1 (digs x0)
  a2B : Av B p2 (digs r1)
  a2C : Av C p2 (digs r1)
  a3B : Av B p3 (digs x1)
  a3C : Av C p3 (digs x1)
  a1R : Av (w.heap.size + 1 + 1) p1 (digs x0)
  a3R : Av (w.heap.size + 1 + 1) p3 (digs x1)
  inv : EInv x y r0 x0 s0 r1 x1 s1

set_option linter.unusedSimpArgs false in
set_option maxRecDepth 100000 in
set_option maxHeartbeats 16000000 in
theorem invert_v {p q : Option Addr} {n m c d x y : Nat} {w : World} (hl : Nw w p n c (digs x)) (hk : Nw w q m d (digs y)) (hx : x < y) (hy : y < pw 32) :
    Calls Try.prog 88 #[.agg #[.slice p n c], .agg #[.slice q m d]] w fun e w' => ∃ (p5 : Option Addr) (n5 c5 z : Nat), e = .returned (.tuple #[.agg #[.slice p5 n5 c5], .bool (decide (Nat.gcd x y = 1))]) ∧ (Nat.gcd x y = 1 → IsInv x y z) ∧ (Nat.gcd x y ≠ 1 → z = 0) ∧ Nw w' p5 n5 c5 (digs z) ∧ Gr w w' := by
  have R_a := Lib.hid hl
  have R_m := Lib.hid hk
  have HX := Lib.hid hx
  have HY := Lib.hid hy
  have G := Lib.hid ((((Gr.refl w).alloc (.cells #[.slice p n c] 24)).alloc (.cells #[.slice q m d] 24)).alloc (.cells #[.slice none 0 0] 24))
  clear hl hk hx hy
  obtain ⟨W0, hW0⟩ : ∃ W0, W0 = ((w.alloc (.cells #[.slice p n c] 24)).alloc (.cells #[.slice q m d] 24)).alloc (.cells #[.slice none 0 0] 24) := ⟨_, rfl⟩
  have k_a : W0.cell? ⟨w.heap.size, 0, none⟩ = some (.slice p n c) := by rw [hW0]; simp [go_sem]
  have k_m : W0.cell? ⟨w.heap.size + 1, 0, none⟩ = some (.slice q m d) := by rw [hW0]; simp [go_sem]
  have k_r : W0.cell? ⟨w.heap.size + 1 + 1, 0, none⟩ = some (.slice none 0 0) := by rw [hW0]; simp [go_sem]
  have f_r : W0.frozen? ⟨w.heap.size + 1 + 1, 0, none⟩ = false := by rw [hW0]; simp [go_sem]
  rw [← hW0] at G
  replace R_a := Lib.hid (R_a.out.grow G.out)
  replace R_m := Lib.hid (R_m.out.grow G.out)
  go_enter Try.func88, Try.ntmps88
  go_upto_region 1 with fail
  rw [← hW0]
  have E0 : Hid (W0.heap.size = w.heap.size + 1 + 1 + 1) := Lib.hid (by rw [hW0]; simp)
  clear hW0
  go_cut [6, 7] from 12 to 16 (fun l nw W => ∃ (B C : Nat) (p2 : Option Addr) (n2 c2 : Nat), l = .pointer (some ⟨B, 0, none⟩) ∧ nw = .pointer (some ⟨C, 0, none⟩) ∧ Hid (InvSt w W x y B C q m d q m d none 0 0 p n c p2 n2 c2 y 0 x 1 false false))
  case first =>
    have G0 := Lib.hid (Gr.refl W0)
    refine Kr.startL (fun W' => W'.cell? ⟨w.heap.size, 0, none⟩ = some (.slice p n c) ∧ W'.cell? ⟨w.heap.size + 1, 0, none⟩ = some (.slice q m d) ∧ True) [] (by kernel_rfl) ?_
    have gd : Gr W0 W0.drew := (Gr.refl _).drew
    generalize W0.drew = d1 at gd ⊢
    replace k_a := gd.cell k_a
    replace k_m := gd.cell k_m
    replace f_r := gd.frozen k_r f_r
    replace k_r := gd.cell k_r
    replace R_a := Lib.hid (R_a.out.grow gd)
    replace R_m := Lib.hid (R_m.out.grow gd)
    replace G := Lib.hid (G.out.trans gd)
    replace G0 := Lib.hid (G0.out.trans gd)
    clear gd
    have hS : d1.cell? ⟨w.heap.size, 0, none⟩ = some (.slice p n c) ∧ d1.cell? ⟨w.heap.size + 1, 0, none⟩ = some (.slice q m d) ∧ True := ⟨k_a, k_m, trivial⟩
    refine Kr.takeS (i := 0) (v := ?_) [1, 7, 8] rfl (by kernel_rfl) (by kernel_rfl) (by kernel_rfl) rfl (by kernel_rfl) (by kernel_rfl) (by kernel_rfl) (fun _ _ _ h => h) (fun wx hSx => ?_) (by rfl) hS ?_
    rotate_left
    · (go_simp; first | done | rfl)
    (try simp only [Act.put, List.getElem_toArray, List.getElem_cons_zero, List.getElem_cons_succ, List.setIfInBounds_toArray, List.set_cons_zero, List.set_cons_succ])
    refine Kr.takeP (i := 1) (v := ?_) rfl (by kernel_rfl) (by kernel_rfl) (by kernel_rfl) rfl (fun _ _ _ h => h) (fun wx => ?_) (by rfl) (fun _ => hS) ?_
    rotate_left
    · (go_simp; first | done | rfl)
    (try simp only [Act.put, List.getElem_toArray, List.getElem_cons_zero, List.getElem_cons_succ, List.setIfInBounds_toArray, List.set_cons_zero, List.set_cons_succ])
    refine Kr.takeS (i := 2) (v := ?_) [4, 8] rfl (by kernel_rfl) (by kernel_rfl) (by kernel_rfl) rfl (by kernel_rfl) (by kernel_rfl) (by kernel_rfl) (fun _ _ _ h => h) (fun wx hSx => ?_) (by rfl) hS ?_
    rotate_left
    · (go_simp; first | done | rfl)
    (try simp only [Act.put, List.getElem_toArray, List.getElem_cons_zero, List.getElem_cons_succ, List.setIfInBounds_toArray, List.set_cons_zero, List.set_cons_succ])
    refine Kr.readyL (rs := [3, 5, 6]) (by kernel_rfl) (by simp) ?_
    refine Kr.AllL.cons rfl (fun K hK => ?_) ?_
    · clear hS
      go_simp
      go_at_call 81
      refine (one_v _).mono ?_
      rintro e y2 ⟨p3, n3, c3, rfl, hr, hg⟩
      have A_1R := Lib.hid (av_nr (b := w.heap.size + 1 + 1) hr (World.block_lt_of_cell? _ _ k_r))
      have R_1 := Lib.hid hr.toNw
      clear hr
      replace k_a := hg.cell k_a
      replace k_m := hg.cell k_m
      replace f_r := hg.frozen k_r f_r
      replace k_r := hg.cell k_r
      replace R_a := Lib.hid (R_a.out.grow hg)
      replace R_m := Lib.hid (R_m.out.grow hg)
      replace G := Lib.hid (G.out.trans hg)
      replace G0 := Lib.hid (G0.out.trans hg)
      clear hg
      have hS : y2.cell? ⟨w.heap.size, 0, none⟩ = some (.slice p n c) ∧ y2.cell? ⟨w.heap.size + 1, 0, none⟩ = some (.slice q m d) ∧ True := ⟨k_a, k_m, trivial⟩
      refine hK.out _ _ (fun _ => hS) ?_
      clear hK K
      (try simp only [Act.put, List.getElem_toArray, List.getElem_cons_zero, List.getElem_cons_succ, List.setIfInBounds_toArray, List.set_cons_zero, List.set_cons_succ])
      refine Kr.takeP (i := 4) (v := ?_) rfl (by kernel_rfl) (by kernel_rfl) (by kernel_rfl) rfl (fun _ _ _ h => h) (fun wx => ?_) (by rfl) (fun _ => hS) ?_
      rotate_left
      · (go_simp; first | done | rfl)
      (try simp only [Act.put, List.getElem_toArray, List.getElem_cons_zero, List.getElem_cons_succ, List.setIfInBounds_toArray, List.set_cons_zero, List.set_cons_succ])
      refine Kr.readyL (rs := [5, 6]) (by kernel_rfl) (by simp) ?_
      refine Kr.AllL.cons rfl (fun K hK => ?_) ?_
      · clear hS
        go_simp
        obtain ⟨y3, hy⟩ : ∃ y, y2.alloc (.cells #[.slice none 0 0, .slice none 0 0, .bool false] 104) = y := ⟨_, rfl⟩
        obtain ⟨B, hB⟩ : ∃ B, y2.heap.size = B := ⟨_, rfl⟩
        rw [hy, hB]
        have hg : Gr y2 y3 := by rw [← hy]; exact (Gr.refl _).alloc _
        have L_B := Lib.hid (hB ▸ G0.out.le : W0.heap.size ≤ B)
        have A_aB := Lib.hid (av_new (b := B) R_a.out (Nat.le_of_eq hB))
        have A_mB := Lib.hid (av_new (b := B) R_m.out (Nat.le_of_eq hB))
        have A_1B := Lib.hid (av_new (b := B) R_1.out (Nat.le_of_eq hB))
        replace k_a := hg.cell k_a
        replace k_m := hg.cell k_m
        replace f_r := hg.frozen k_r f_r
        replace k_r := hg.cell k_r
        replace R_a := Lib.hid (R_a.out.grow hg)
        replace R_m := Lib.hid (R_m.out.grow hg)
        replace R_1 := Lib.hid (R_1.out.grow hg)
        replace G := Lib.hid (G.out.trans hg)
        replace G0 := Lib.hid (G0.out.trans hg)
        clear hg
        have S_B : Stp y3 B (.slice none 0 0) (.slice none 0 0) (.bool false) := by rw [← hy, ← hB]; exact ⟨by simp [go_sem], by simp [go_sem], by simp [go_sem], by simp [go_sem], by simp [go_sem], by simp [go_sem]⟩
        clear hy hB
        have hS : y3.cell? ⟨w.heap.size, 0, none⟩ = some (.slice p n c) ∧ y3.cell? ⟨w.heap.size + 1, 0, none⟩ = some (.slice q m d) ∧ True := ⟨k_a, k_m, trivial⟩
        refine hK.out _ _ (fun _ => hS) ?_
        clear hK K
        (try simp only [Act.put, List.getElem_toArray, List.getElem_cons_zero, List.getElem_cons_succ, List.setIfInBounds_toArray, List.set_cons_zero, List.set_cons_succ])
        refine Kr.readyL (rs := [6]) (by kernel_rfl) (by simp) ?_
        refine Kr.AllL.cons rfl (fun K hK => ?_) Kr.AllL.nil
        clear hS
        go_simp
        obtain ⟨y4, hy⟩ : ∃ y, y3.alloc (.cells #[.slice none 0 0, .slice none 0 0, .bool false] 104) = y := ⟨_, rfl⟩
        obtain ⟨C, hC⟩ : ∃ B, y3.heap.size = B := ⟨_, rfl⟩
        rw [hy, hC]
        have hg : Gr y3 y4 := by rw [← hy]; exact (Gr.refl _).alloc _
        have L_C := Lib.hid (hC ▸ G0.out.le : W0.heap.size ≤ C)
        have N_BC : Hid (B ≠ C) := Lib.hid (Nat.ne_of_lt (show B < C from hC ▸ S_B.lt))
        have A_aC := Lib.hid (av_new (b := C) R_a.out (Nat.le_of_eq hC))
        have A_mC := Lib.hid (av_new (b := C) R_m.out (Nat.le_of_eq hC))
        have A_1C := Lib.hid (av_new (b := C) R_1.out (Nat.le_of_eq hC))
        replace k_a := hg.cell k_a
        replace k_m := hg.cell k_m
        replace f_r := hg.frozen k_r f_r
        replace k_r := hg.cell k_r
        replace R_a := Lib.hid (R_a.out.grow hg)
        replace R_m := Lib.hid (R_m.out.grow hg)
        replace R_1 := Lib.hid (R_1.out.grow hg)
        replace G := Lib.hid (G.out.trans hg)
        replace G0 := Lib.hid (G0.out.trans hg)
        replace S_B := S_B.grow hg
        clear hg
        have S_C : Stp y4 C (.slice none 0 0) (.slice none 0 0) (.bool false) := by rw [← hy, ← hC]; exact ⟨by simp [go_sem], by simp [go_sem], by simp [go_sem], by simp [go_sem], by simp [go_sem], by simp [go_sem]⟩
        clear hy hC
        have hS : y4.cell? ⟨w.heap.size, 0, none⟩ = some (.slice p n c) ∧ y4.cell? ⟨w.heap.size + 1, 0, none⟩ = some (.slice q m d) ∧ True := ⟨k_a, k_m, trivial⟩
        refine hK.out _ _ (fun _ => hS) ?_
        clear hK K
        (try simp only [Act.put, List.getElem_toArray, List.getElem_cons_zero, List.getElem_cons_succ, List.setIfInBounds_toArray, List.set_cons_zero, List.set_cons_succ])
        refine Kr.readyL (rs := [7]) (by kernel_rfl) (by simp) ?_
        refine Kr.AllL.cons rfl (fun K hK => ?_) Kr.AllL.nil
        clear hS
        go_simp
        have c0 := S_B.c0; have c1 := S_B.c1; have c2 := S_B.c2; have f0 := S_B.f0; have f1 := S_B.f1; have f2 := S_B.f2
        go_simp
        clear c0 c1 c2 f0 f1 f2
        obtain ⟨y5, hy⟩ : ∃ y, ((y4.setCell ⟨B, 0, none⟩ (.slice q m d)).setCell ⟨B, 1, none⟩ (.slice none 0 0)).setCell ⟨B, 2, none⟩ (.bool false) = y := ⟨_, rfl⟩
        rw [hy]
        have ho : Off B y4 y5 := by rw [← hy]; exact (((Off.refl _ _).set _ _).set _ _).set _ _
        replace S_B : Stp y5 B (.slice q m d) (.slice none 0 0) (.bool false) := by rw [← hy]; exact S_B.put _ _ _
        clear hy
        replace S_C := S_C.off ho N_BC.out.symm
        replace k_a := ho.cell _ _ (show w.heap.size ≠ B from by have := L_B.out; have := E0.out; omega) k_a
        replace k_m := ho.cell _ _ (show w.heap.size + 1 ≠ B from by have := L_B.out; have := E0.out; omega) k_m
        replace f_r := ho.frz _ f_r
        replace k_r := ho.cell _ _ (show w.heap.size + 1 + 1 ≠ B from by have := L_B.out; have := E0.out; omega) k_r
        replace R_a := Lib.hid (ho.nw _ _ _ _ A_aB.out R_a.out)
        replace R_m := Lib.hid (ho.nw _ _ _ _ A_mB.out R_m.out)
        replace R_1 := Lib.hid (ho.nw _ _ _ _ A_1B.out R_1.out)
        replace G := Lib.hid (ho.gr _ (by have := L_B.out; have := E0.out; omega) G.out)
        replace G0 := Lib.hid (ho.gr _ (by have := L_B.out; have := E0.out; omega) G0.out)
        clear ho
        have hS : y5.cell? ⟨w.heap.size, 0, none⟩ = some (.slice p n c) ∧ y5.cell? ⟨w.heap.size + 1, 0, none⟩ = some (.slice q m d) ∧ True := ⟨k_a, k_m, trivial⟩
        refine hK.out _ _ (fun _ => hS) ?_
        clear hK K
        (try simp only [Act.put, List.getElem_toArray, List.getElem_cons_zero, List.getElem_cons_succ, List.setIfInBounds_toArray, List.set_cons_zero, List.set_cons_succ])
        refine Kr.readyL (rs := [8]) (by kernel_rfl) (by simp) ?_
        refine Kr.AllL.cons rfl (fun K hK => ?_) Kr.AllL.nil
        clear hS
        go_simp
        have c0 := S_C.c0; have c1 := S_C.c1; have c2 := S_C.c2; have f0 := S_C.f0; have f1 := S_C.f1; have f2 := S_C.f2
        go_simp
        clear c0 c1 c2 f0 f1 f2
        obtain ⟨y6, hy⟩ : ∃ y, ((y5.setCell ⟨C, 0, none⟩ (.slice p n c)).setCell ⟨C, 1, none⟩ (.slice p3 n3 c3)).setCell ⟨C, 2, none⟩ (.bool false) = y := ⟨_, rfl⟩
        rw [hy]
        have ho : Off C y5 y6 := by rw [← hy]; exact (((Off.refl _ _).set _ _).set _ _).set _ _
        replace S_C : Stp y6 C (.slice p n c) (.slice p3 n3 c3) (.bool false) := by rw [← hy]; exact S_C.put _ _ _
        clear hy
        replace S_B := S_B.off ho N_BC.out
        replace k_a := ho.cell _ _ (show w.heap.size ≠ C from by have := L_C.out; have := E0.out; omega) k_a
        replace k_m := ho.cell _ _ (show w.heap.size + 1 ≠ C from by have := L_C.out; have := E0.out; omega) k_m
        replace f_r := ho.frz _ f_r
        replace k_r := ho.cell _ _ (show w.heap.size + 1 + 1 ≠ C from by have := L_C.out; have := E0.out; omega) k_r
        replace R_a := Lib.hid (ho.nw _ _ _ _ A_aC.out R_a.out)
        replace R_m := Lib.hid (ho.nw _ _ _ _ A_mC.out R_m.out)
        replace R_1 := Lib.hid (ho.nw _ _ _ _ A_1C.out R_1.out)
        replace G := Lib.hid (ho.gr _ (by have := L_C.out; have := E0.out; omega) G.out)
        replace G0 := Lib.hid (ho.gr _ (by have := L_C.out; have := E0.out; omega) G0.out)
        clear ho
        have hS : y6.cell? ⟨w.heap.size, 0, none⟩ = some (.slice p n c) ∧ y6.cell? ⟨w.heap.size + 1, 0, none⟩ = some (.slice q m d) ∧ True := ⟨k_a, k_m, trivial⟩
        refine hK.out _ _ (fun _ => hS) ?_
        clear hK K
        (try simp only [Act.put, List.getElem_toArray, List.getElem_cons_zero, List.getElem_cons_succ, List.setIfInBounds_toArray, List.set_cons_zero, List.set_cons_succ])
        clear hS
        refine Kr.doneL (by kernel_rfl) ?_ _
        go_wp2_with fail
        go_meet
        have e0 := E0.out
        exact ⟨B, C, p3, n3, c3, rfl, rfl, Lib.hid ⟨G.out, k_m, k_r, f_r, R_m.out, N_BC.out, by have := L_B.out; omega, by have := L_C.out; omega, A_mB.out, A_mC.out, S_B, S_C, R_m.out, nw_none _, R_a.out, R_1.out, A_mB.out, A_mC.out, av_none _ _, av_none _ _, A_aB.out, A_aC.out, A_1B.out, A_1C.out, av_none _ _, A_1R.out, EInv.start HX.out⟩⟩
      refine Kr.AllL.cons rfl (fun K hK => ?_) Kr.AllL.nil
      clear hS
      go_simp
      obtain ⟨y7, hy⟩ : ∃ y, y2.alloc (.cells #[.slice none 0 0, .slice none 0 0, .bool false] 104) = y := ⟨_, rfl⟩
      obtain ⟨C, hC⟩ : ∃ B, y2.heap.size = B := ⟨_, rfl⟩
      rw [hy, hC]
      have hg : Gr y2 y7 := by rw [← hy]; exact (Gr.refl _).alloc _
      have L_C := Lib.hid (hC ▸ G0.out.le : W0.heap.size ≤ C)
      have A_aC := Lib.hid (av_new (b := C) R_a.out (Nat.le_of_eq hC))
      have A_mC := Lib.hid (av_new (b := C) R_m.out (Nat.le_of_eq hC))
      have A_1C := Lib.hid (av_new (b := C) R_1.out (Nat.le_of_eq hC))
      replace k_a := hg.cell k_a
      replace k_m := hg.cell k_m
      replace f_r := hg.frozen k_r f_r
      replace k_r := hg.cell k_r
      replace R_a := Lib.hid (R_a.out.grow hg)
      replace R_m := Lib.hid (R_m.out.grow hg)
      replace R_1 := Lib.hid (R_1.out.grow hg)
      replace G := Lib.hid (G.out.trans hg)
      replace G0 := Lib.hid (G0.out.trans hg)
      clear hg
      have S_C : Stp y7 C (.slice none 0 0) (.slice none 0 0) (.bool false) := by rw [← hy, ← hC]; exact ⟨by simp [go_sem], by simp [go_sem], by simp [go_sem], by simp [go_sem], by simp [go_sem], by simp [go_sem]⟩
      clear hy hC
      have hS : y7.cell? ⟨w.heap.size, 0, none⟩ = some (.slice p n c) ∧ y7.cell? ⟨w.heap.size + 1, 0, none⟩ = some (.slice q m d) ∧ True := ⟨k_a, k_m, trivial⟩
      refine hK.out _ _ (fun _ => hS) ?_
      clear hK K
      (try simp only [Act.put, List.getElem_toArray, List.getElem_cons_zero, List.getElem_cons_succ, List.setIfInBounds_toArray, List.set_cons_zero, List.set_cons_succ])
      refine Kr.readyL (rs := [5]) (by kernel_rfl) (by simp) ?_
      refine Kr.AllL.cons rfl (fun K hK => ?_) Kr.AllL.nil
      clear hS
      go_simp
      obtain ⟨y8, hy⟩ : ∃ y, y7.alloc (.cells #[.slice none 0 0, .slice none 0 0, .bool false] 104) = y := ⟨_, rfl⟩
      obtain ⟨B, hB⟩ : ∃ B, y7.heap.size = B := ⟨_, rfl⟩
      rw [hy, hB]
      have hg : Gr y7 y8 := by rw [← hy]; exact (Gr.refl _).alloc _
      have L_B := Lib.hid (hB ▸ G0.out.le : W0.heap.size ≤ B)
      have N_CB : Hid (C ≠ B) := Lib.hid (Nat.ne_of_lt (show C < B from hB ▸ S_C.lt))
      have A_aB := Lib.hid (av_new (b := B) R_a.out (Nat.le_of_eq hB))
      have A_mB := Lib.hid (av_new (b := B) R_m.out (Nat.le_of_eq hB))
      have A_1B := Lib.hid (av_new (b := B) R_1.out (Nat.le_of_eq hB))
      replace k_a := hg.cell k_a
      replace k_m := hg.cell k_m
      replace f_r := hg.frozen k_r f_r
      replace k_r := hg.cell k_r
      replace R_a := Lib.hid (R_a.out.grow hg)
      replace R_m := Lib.hid (R_m.out.grow hg)
      replace R_1 := Lib.hid (R_1.out.grow hg)
      replace G := Lib.hid (G.out.trans hg)
      replace G0 := Lib.hid (G0.out.trans hg)
      replace S_C := S_C.grow hg
      clear hg
      have S_B : Stp y8 B (.slice none 0 0) (.slice none 0 0) (.bool false) := by rw [← hy, ← hB]; exact ⟨by simp [go_sem], by simp [go_sem], by simp [go_sem], by simp [go_sem], by simp [go_sem], by simp [go_sem]⟩
      clear hy hB
      have hS : y8.cell? ⟨w.heap.size, 0, none⟩ = some (.slice p n c) ∧ y8.cell? ⟨w.heap.size + 1, 0, none⟩ = some (.slice q m d) ∧ True := ⟨k_a, k_m, trivial⟩
      refine hK.out _ _ (fun _ => hS) ?_
      clear hK K
      (try simp only [Act.put, List.getElem_toArray, List.getElem_cons_zero, List.getElem_cons_succ, List.setIfInBounds_toArray, List.set_cons_zero, List.set_cons_succ])
      refine Kr.readyL (rs := [7]) (by kernel_rfl) (by simp) ?_
      refine Kr.AllL.cons rfl (fun K hK => ?_) Kr.AllL.nil
      clear hS
      go_simp
      have c0 := S_B.c0; have c1 := S_B.c1; have c2 := S_B.c2; have f0 := S_B.f0; have f1 := S_B.f1; have f2 := S_B.f2
      go_simp
      clear c0 c1 c2 f0 f1 f2
      obtain ⟨y9, hy⟩ : ∃ y, ((y8.setCell ⟨B, 0, none⟩ (.slice q m d)).setCell ⟨B, 1, none⟩ (.slice none 0 0)).setCell ⟨B, 2, none⟩ (.bool false) = y := ⟨_, rfl⟩
      rw [hy]
      have ho : Off B y8 y9 := by rw [← hy]; exact (((Off.refl _ _).set _ _).set _ _).set _ _
      replace S_B : Stp y9 B (.slice q m d) (.slice none 0 0) (.bool false) := by rw [← hy]; exact S_B.put _ _ _
      clear hy
      replace S_C := S_C.off ho N_CB.out
      replace k_a := ho.cell _ _ (show w.heap.size ≠ B from by have := L_B.out; have := E0.out; omega) k_a
      replace k_m := ho.cell _ _ (show w.heap.size + 1 ≠ B from by have := L_B.out; have := E0.out; omega) k_m
      replace f_r := ho.frz _ f_r
      replace k_r := ho.cell _ _ (show w.heap.size + 1 + 1 ≠ B from by have := L_B.out; have := E0.out; omega) k_r
      replace R_a := Lib.hid (ho.nw _ _ _ _ A_aB.out R_a.out)
      replace R_m := Lib.hid (ho.nw _ _ _ _ A_mB.out R_m.out)
      replace R_1 := Lib.hid (ho.nw _ _ _ _ A_1B.out R_1.out)
      replace G := Lib.hid (ho.gr _ (by have := L_B.out; have := E0.out; omega) G.out)
      replace G0 := Lib.hid (ho.gr _ (by have := L_B.out; have := E0.out; omega) G0.out)
      clear ho
      have hS : y9.cell? ⟨w.heap.size, 0, none⟩ = some (.slice p n c) ∧ y9.cell? ⟨w.heap.size + 1, 0, none⟩ = some (.slice q m d) ∧ True := ⟨k_a, k_m, trivial⟩
      refine hK.out _ _ (fun _ => hS) ?_
      clear hK K
      (try simp only [Act.put, List.getElem_toArray, List.getElem_cons_zero, List.getElem_cons_succ, List.setIfInBounds_toArray, List.set_cons_zero, List.set_cons_succ])
      refine Kr.readyL (rs := [8]) (by kernel_rfl) (by simp) ?_
      refine Kr.AllL.cons rfl (fun K hK => ?_) Kr.AllL.nil
      clear hS
      go_simp
      have c0 := S_C.c0; have c1 := S_C.c1; have c2 := S_C.c2; have f0 := S_C.f0; have f1 := S_C.f1; have f2 := S_C.f2
      go_simp
      clear c0 c1 c2 f0 f1 f2
      obtain ⟨y10, hy⟩ : ∃ y, ((y9.setCell ⟨C, 0, none⟩ (.slice p n c)).setCell ⟨C, 1, none⟩ (.slice p3 n3 c3)).setCell ⟨C, 2, none⟩ (.bool false) = y := ⟨_, rfl⟩
      rw [hy]
      have ho : Off C y9 y10 := by rw [← hy]; exact (((Off.refl _ _).set _ _).set _ _).set _ _
      replace S_C : Stp y10 C (.slice p n c) (.slice p3 n3 c3) (.bool false) := by rw [← hy]; exact S_C.put _ _ _
      clear hy
      replace S_B := S_B.off ho N_CB.out.symm
      replace k_a := ho.cell _ _ (show w.heap.size ≠ C from by have := L_C.out; have := E0.out; omega) k_a
      replace k_m := ho.cell _ _ (show w.heap.size + 1 ≠ C from by have := L_C.out; have := E0.out; omega) k_m
      replace f_r := ho.frz _ f_r
      replace k_r := ho.cell _ _ (show w.heap.size + 1 + 1 ≠ C from by have := L_C.out; have := E0.out; omega) k_r
      replace R_a := Lib.hid (ho.nw _ _ _ _ A_aC.out R_a.out)
      replace R_m := Lib.hid (ho.nw _ _ _ _ A_mC.out R_m.out)
      replace R_1 := Lib.hid (ho.nw _ _ _ _ A_1C.out R_1.out)
      replace G := Lib.hid (ho.gr _ (by have := L_C.out; have := E0.out; omega) G.out)
      replace G0 := Lib.hid (ho.gr _ (by have := L_C.out; have := E0.out; omega) G0.out)
      clear ho
      have hS : y10.cell? ⟨w.heap.size, 0, none⟩ = some (.slice p n c) ∧ y10.cell? ⟨w.heap.size + 1, 0, none⟩ = some (.slice q m d) ∧ True := ⟨k_a, k_m, trivial⟩
      refine hK.out _ _ (fun _ => hS) ?_
      clear hK K
      (try simp only [Act.put, List.getElem_toArray, List.getElem_cons_zero, List.getElem_cons_succ, List.setIfInBounds_toArray, List.set_cons_zero, List.set_cons_succ])
      clear hS
      refine Kr.doneL (by kernel_rfl) ?_ _
      go_wp2_with fail
      go_meet
      have e0 := E0.out
      exact ⟨B, C, p3, n3, c3, rfl, rfl, Lib.hid ⟨G.out, k_m, k_r, f_r, R_m.out, N_CB.out.symm, by have := L_B.out; omega, by have := L_C.out; omega, A_mB.out, A_mC.out, S_B, S_C, R_m.out, nw_none _, R_a.out, R_1.out, A_mB.out, A_mC.out, av_none _ _, av_none _ _, A_aB.out, A_aC.out, A_1B.out, A_1C.out, av_none _ _, A_1R.out, EInv.start HX.out⟩⟩
    refine Kr.AllL.cons rfl (fun K hK => ?_) ?_
    · clear hS
      go_simp
      obtain ⟨y11, hy⟩ : ∃ y, d1.alloc (.cells #[.slice none 0 0, .slice none 0 0, .bool false] 104) = y := ⟨_, rfl⟩
      obtain ⟨B, hB⟩ : ∃ B, d1.heap.size = B := ⟨_, rfl⟩
      rw [hy, hB]
      have hg : Gr d1 y11 := by rw [← hy]; exact (Gr.refl _).alloc _
      have L_B := Lib.hid (hB ▸ G0.out.le : W0.heap.size ≤ B)
      have A_aB := Lib.hid (av_new (b := B) R_a.out (Nat.le_of_eq hB))
      have A_mB := Lib.hid (av_new (b := B) R_m.out (Nat.le_of_eq hB))
      replace k_a := hg.cell k_a
      replace k_m := hg.cell k_m
      replace f_r := hg.frozen k_r f_r
      replace k_r := hg.cell k_r
      replace R_a := Lib.hid (R_a.out.grow hg)
      replace R_m := Lib.hid (R_m.out.grow hg)
      replace G := Lib.hid (G.out.trans hg)
      replace G0 := Lib.hid (G0.out.trans hg)
      clear hg
      have S_B : Stp y11 B (.slice none 0 0) (.slice none 0 0) (.bool false) := by rw [← hy, ← hB]; exact ⟨by simp [go_sem], by simp [go_sem], by simp [go_sem], by simp [go_sem], by simp [go_sem], by simp [go_sem]⟩
      clear hy hB
      have hS : y11.cell? ⟨w.heap.size, 0, none⟩ = some (.slice p n c) ∧ y11.cell? ⟨w.heap.size + 1, 0, none⟩ = some (.slice q m d) ∧ True := ⟨k_a, k_m, trivial⟩
      refine hK.out _ _ (fun _ => hS) ?_
      clear hK K
      (try simp only [Act.put, List.getElem_toArray, List.getElem_cons_zero, List.getElem_cons_succ, List.setIfInBounds_toArray, List.set_cons_zero, List.set_cons_succ])
      refine Kr.readyL (rs := [3, 6]) (by kernel_rfl) (by simp) ?_
      refine Kr.AllL.cons rfl (fun K hK => ?_) ?_
      · clear hS
        go_simp
        go_at_call 81
        refine (one_v _).mono ?_
        rintro e y12 ⟨p3, n3, c3, rfl, hr, hg⟩
        have A_1B := Lib.hid (av_nr (b := B) hr S_B.lt)
        have A_1R := Lib.hid (av_nr (b := w.heap.size + 1 + 1) hr (World.block_lt_of_cell? _ _ k_r))
        have R_1 := Lib.hid hr.toNw
        clear hr
        replace k_a := hg.cell k_a
        replace k_m := hg.cell k_m
        replace f_r := hg.frozen k_r f_r
        replace k_r := hg.cell k_r
        replace R_a := Lib.hid (R_a.out.grow hg)
        replace R_m := Lib.hid (R_m.out.grow hg)
        replace G := Lib.hid (G.out.trans hg)
        replace G0 := Lib.hid (G0.out.trans hg)
        replace S_B := S_B.grow hg
        clear hg
        have hS : y12.cell? ⟨w.heap.size, 0, none⟩ = some (.slice p n c) ∧ y12.cell? ⟨w.heap.size + 1, 0, none⟩ = some (.slice q m d) ∧ True := ⟨k_a, k_m, trivial⟩
        refine hK.out _ _ (fun _ => hS) ?_
        clear hK K
        (try simp only [Act.put, List.getElem_toArray, List.getElem_cons_zero, List.getElem_cons_succ, List.setIfInBounds_toArray, List.set_cons_zero, List.set_cons_succ])
        refine Kr.takeP (i := 4) (v := ?_) rfl (by kernel_rfl) (by kernel_rfl) (by kernel_rfl) rfl (fun _ _ _ h => h) (fun wx => ?_) (by rfl) (fun _ => hS) ?_
        rotate_left
        · (go_simp; first | done | rfl)
        (try simp only [Act.put, List.getElem_toArray, List.getElem_cons_zero, List.getElem_cons_succ, List.setIfInBounds_toArray, List.set_cons_zero, List.set_cons_succ])
        refine Kr.readyL (rs := [6]) (by kernel_rfl) (by simp) ?_
        refine Kr.AllL.cons rfl (fun K hK => ?_) Kr.AllL.nil
        clear hS
        go_simp
        obtain ⟨y13, hy⟩ : ∃ y, y12.alloc (.cells #[.slice none 0 0, .slice none 0 0, .bool false] 104) = y := ⟨_, rfl⟩
        obtain ⟨C, hC⟩ : ∃ B, y12.heap.size = B := ⟨_, rfl⟩
        rw [hy, hC]
        have hg : Gr y12 y13 := by rw [← hy]; exact (Gr.refl _).alloc _
        have L_C := Lib.hid (hC ▸ G0.out.le : W0.heap.size ≤ C)
        have N_BC : Hid (B ≠ C) := Lib.hid (Nat.ne_of_lt (show B < C from hC ▸ S_B.lt))
        have A_aC := Lib.hid (av_new (b := C) R_a.out (Nat.le_of_eq hC))
        have A_mC := Lib.hid (av_new (b := C) R_m.out (Nat.le_of_eq hC))
        have A_1C := Lib.hid (av_new (b := C) R_1.out (Nat.le_of_eq hC))
        replace k_a := hg.cell k_a
        replace k_m := hg.cell k_m
        replace f_r := hg.frozen k_r f_r
        replace k_r := hg.cell k_r
        replace R_a := Lib.hid (R_a.out.grow hg)
        replace R_m := Lib.hid (R_m.out.grow hg)
        replace R_1 := Lib.hid (R_1.out.grow hg)
        replace G := Lib.hid (G.out.trans hg)
        replace G0 := Lib.hid (G0.out.trans hg)
        replace S_B := S_B.grow hg
        clear hg
        have S_C : Stp y13 C (.slice none 0 0) (.slice none 0 0) (.bool false) := by rw [← hy, ← hC]; exact ⟨by simp [go_sem], by simp [go_sem], by simp [go_sem], by simp [go_sem], by simp [go_sem], by simp [go_sem]⟩
        clear hy hC
        have hS : y13.cell? ⟨w.heap.size, 0, none⟩ = some (.slice p n c) ∧ y13.cell? ⟨w.heap.size + 1, 0, none⟩ = some (.slice q m d) ∧ True := ⟨k_a, k_m, trivial⟩
        refine hK.out _ _ (fun _ => hS) ?_
        clear hK K
        (try simp only [Act.put, List.getElem_toArray, List.getElem_cons_zero, List.getElem_cons_succ, List.setIfInBounds_toArray, List.set_cons_zero, List.set_cons_succ])
        refine Kr.readyL (rs := [7]) (by kernel_rfl) (by simp) ?_
        refine Kr.AllL.cons rfl (fun K hK => ?_) Kr.AllL.nil
        clear hS
        go_simp
        have c0 := S_B.c0; have c1 := S_B.c1; have c2 := S_B.c2; have f0 := S_B.f0; have f1 := S_B.f1; have f2 := S_B.f2
        go_simp
        clear c0 c1 c2 f0 f1 f2
        obtain ⟨y14, hy⟩ : ∃ y, ((y13.setCell ⟨B, 0, none⟩ (.slice q m d)).setCell ⟨B, 1, none⟩ (.slice none 0 0)).setCell ⟨B, 2, none⟩ (.bool false) = y := ⟨_, rfl⟩
        rw [hy]
        have ho : Off B y13 y14 := by rw [← hy]; exact (((Off.refl _ _).set _ _).set _ _).set _ _
        replace S_B : Stp y14 B (.slice q m d) (.slice none 0 0) (.bool false) := by rw [← hy]; exact S_B.put _ _ _
        clear hy
        replace S_C := S_C.off ho N_BC.out.symm
        replace k_a := ho.cell _ _ (show w.heap.size ≠ B from by have := L_B.out; have := E0.out; omega) k_a
        replace k_m := ho.cell _ _ (show w.heap.size + 1 ≠ B from by have := L_B.out; have := E0.out; omega) k_m
        replace f_r := ho.frz _ f_r
        replace k_r := ho.cell _ _ (show w.heap.size + 1 + 1 ≠ B from by have := L_B.out; have := E0.out; omega) k_r
        replace R_a := Lib.hid (ho.nw _ _ _ _ A_aB.out R_a.out)
        replace R_m := Lib.hid (ho.nw _ _ _ _ A_mB.out R_m.out)
        replace R_1 := Lib.hid (ho.nw _ _ _ _ A_1B.out R_1.out)
        replace G := Lib.hid (ho.gr _ (by have := L_B.out; have := E0.out; omega) G.out)
        replace G0 := Lib.hid (ho.gr _ (by have := L_B.out; have := E0.out; omega) G0.out)
        clear ho
        have hS : y14.cell? ⟨w.heap.size, 0, none⟩ = some (.slice p n c) ∧ y14.cell? ⟨w.heap.size + 1, 0, none⟩ = some (.slice q m d) ∧ True := ⟨k_a, k_m, trivial⟩
        refine hK.out _ _ (fun _ => hS) ?_
        clear hK K
        (try simp only [Act.put, List.getElem_toArray, List.getElem_cons_zero, List.getElem_cons_succ, List.setIfInBounds_toArray, List.set_cons_zero, List.set_cons_succ])
        refine Kr.readyL (rs := [8]) (by kernel_rfl) (by simp) ?_
        refine Kr.AllL.cons rfl (fun K hK => ?_) Kr.AllL.nil
        clear hS
        go_simp
        have c0 := S_C.c0; have c1 := S_C.c1; have c2 := S_C.c2; have f0 := S_C.f0; have f1 := S_C.f1; have f2 := S_C.f2
        go_simp
        clear c0 c1 c2 f0 f1 f2
        obtain ⟨y15, hy⟩ : ∃ y, ((y14.setCell ⟨C, 0, none⟩ (.slice p n c)).setCell ⟨C, 1, none⟩ (.slice p3 n3 c3)).setCell ⟨C, 2, none⟩ (.bool false) = y := ⟨_, rfl⟩
        rw [hy]
        have ho : Off C y14 y15 := by rw [← hy]; exact (((Off.refl _ _).set _ _).set _ _).set _ _
        replace S_C : Stp y15 C (.slice p n c) (.slice p3 n3 c3) (.bool false) := by rw [← hy]; exact S_C.put _ _ _
        clear hy
        replace S_B := S_B.off ho N_BC.out
        replace k_a := ho.cell _ _ (show w.heap.size ≠ C from by have := L_C.out; have := E0.out; omega) k_a
        replace k_m := ho.cell _ _ (show w.heap.size + 1 ≠ C from by have := L_C.out; have := E0.out; omega) k_m
        replace f_r := ho.frz _ f_r
        replace k_r := ho.cell _ _ (show w.heap.size + 1 + 1 ≠ C from by have := L_C.out; have := E0.out; omega) k_r
        replace R_a := Lib.hid (ho.nw _ _ _ _ A_aC.out R_a.out)
        replace R_m := Lib.hid (ho.nw _ _ _ _ A_mC.out R_m.out)
        replace R_1 := Lib.hid (ho.nw _ _ _ _ A_1C.out R_1.out)
        replace G := Lib.hid (ho.gr _ (by have := L_C.out; have := E0.out; omega) G.out)
        replace G0 := Lib.hid (ho.gr _ (by have := L_C.out; have := E0.out; omega) G0.out)
        clear ho
        have hS : y15.cell? ⟨w.heap.size, 0, none⟩ = some (.slice p n c) ∧ y15.cell? ⟨w.heap.size + 1, 0, none⟩ = some (.slice q m d) ∧ True := ⟨k_a, k_m, trivial⟩
        refine hK.out _ _ (fun _ => hS) ?_
        clear hK K
        (try simp only [Act.put, List.getElem_toArray, List.getElem_cons_zero, List.getElem_cons_succ, List.setIfInBounds_toArray, List.set_cons_zero, List.set_cons_succ])
        clear hS
        refine Kr.doneL (by kernel_rfl) ?_ _
        go_wp2_with fail
        go_meet
        have e0 := E0.out
        exact ⟨B, C, p3, n3, c3, rfl, rfl, Lib.hid ⟨G.out, k_m, k_r, f_r, R_m.out, N_BC.out, by have := L_B.out; omega, by have := L_C.out; omega, A_mB.out, A_mC.out, S_B, S_C, R_m.out, nw_none _, R_a.out, R_1.out, A_mB.out, A_mC.out, av_none _ _, av_none _ _, A_aB.out, A_aC.out, A_1B.out, A_1C.out, av_none _ _, A_1R.out, EInv.start HX.out⟩⟩
      refine Kr.AllL.cons rfl (fun K hK => ?_) Kr.AllL.nil
      clear hS
      go_simp
      obtain ⟨y16, hy⟩ : ∃ y, y11.alloc (.cells #[.slice none 0 0, .slice none 0 0, .bool false] 104) = y := ⟨_, rfl⟩
      obtain ⟨C, hC⟩ : ∃ B, y11.heap.size = B := ⟨_, rfl⟩
      rw [hy, hC]
      have hg : Gr y11 y16 := by rw [← hy]; exact (Gr.refl _).alloc _
      have L_C := Lib.hid (hC ▸ G0.out.le : W0.heap.size ≤ C)
      have N_BC : Hid (B ≠ C) := Lib.hid (Nat.ne_of_lt (show B < C from hC ▸ S_B.lt))
      have A_aC := Lib.hid (av_new (b := C) R_a.out (Nat.le_of_eq hC))
      have A_mC := Lib.hid (av_new (b := C) R_m.out (Nat.le_of_eq hC))
      replace k_a := hg.cell k_a
      replace k_m := hg.cell k_m
      replace f_r := hg.frozen k_r f_r
      replace k_r := hg.cell k_r
      replace R_a := Lib.hid (R_a.out.grow hg)
      replace R_m := Lib.hid (R_m.out.grow hg)
      replace G := Lib.hid (G.out.trans hg)
      replace G0 := Lib.hid (G0.out.trans hg)
      replace S_B := S_B.grow hg
      clear hg
      have S_C : Stp y16 C (.slice none 0 0) (.slice none 0 0) (.bool false) := by rw [← hy, ← hC]; exact ⟨by simp [go_sem], by simp [go_sem], by simp [go_sem], by simp [go_sem], by simp [go_sem], by simp [go_sem]⟩
      clear hy hC
      have hS : y16.cell? ⟨w.heap.size, 0, none⟩ = some (.slice p n c) ∧ y16.cell? ⟨w.heap.size + 1, 0, none⟩ = some (.slice q m d) ∧ True := ⟨k_a, k_m, trivial⟩
      refine hK.out _ _ (fun _ => hS) ?_
      clear hK K
      (try simp only [Act.put, List.getElem_toArray, List.getElem_cons_zero, List.getElem_cons_succ, List.setIfInBounds_toArray, List.set_cons_zero, List.set_cons_succ])
      refine Kr.readyL (rs := [3]) (by kernel_rfl) (by simp) ?_
      refine Kr.AllL.cons rfl (fun K hK => ?_) Kr.AllL.nil
      clear hS
      go_simp
      go_at_call 81
      refine (one_v _).mono ?_
      rintro e y17 ⟨p3, n3, c3, rfl, hr, hg⟩
      have A_1B := Lib.hid (av_nr (b := B) hr S_B.lt)
      have A_1C := Lib.hid (av_nr (b := C) hr S_C.lt)
      have A_1R := Lib.hid (av_nr (b := w.heap.size + 1 + 1) hr (World.block_lt_of_cell? _ _ k_r))
      have R_1 := Lib.hid hr.toNw
      clear hr
      replace k_a := hg.cell k_a
      replace k_m := hg.cell k_m
      replace f_r := hg.frozen k_r f_r
      replace k_r := hg.cell k_r
      replace R_a := Lib.hid (R_a.out.grow hg)
      replace R_m := Lib.hid (R_m.out.grow hg)
      replace G := Lib.hid (G.out.trans hg)
      replace G0 := Lib.hid (G0.out.trans hg)
      replace S_B := S_B.grow hg
      replace S_C := S_C.grow hg
      clear hg
      have hS : y17.cell? ⟨w.heap.size, 0, none⟩ = some (.slice p n c) ∧ y17.cell? ⟨w.heap.size + 1, 0, none⟩ = some (.slice q m d) ∧ True := ⟨k_a, k_m, trivial⟩
      refine hK.out _ _ (fun _ => hS) ?_
      clear hK K
      (try simp only [Act.put, List.getElem_toArray, List.getElem_cons_zero, List.getElem_cons_succ, List.setIfInBounds_toArray, List.set_cons_zero, List.set_cons_succ])
      refine Kr.takeP (i := 4) (v := ?_) rfl (by kernel_rfl) (by kernel_rfl) (by kernel_rfl) rfl (fun _ _ _ h => h) (fun wx => ?_) (by rfl) (fun _ => hS) ?_
      rotate_left
      · (go_simp; first | done | rfl)
      (try simp only [Act.put, List.getElem_toArray, List.getElem_cons_zero, List.getElem_cons_succ, List.setIfInBounds_toArray, List.set_cons_zero, List.set_cons_succ])
      refine Kr.readyL (rs := [7]) (by kernel_rfl) (by simp) ?_
      refine Kr.AllL.cons rfl (fun K hK => ?_) Kr.AllL.nil
      clear hS
      go_simp
      have c0 := S_B.c0; have c1 := S_B.c1; have c2 := S_B.c2; have f0 := S_B.f0; have f1 := S_B.f1; have f2 := S_B.f2
      go_simp
      clear c0 c1 c2 f0 f1 f2
      obtain ⟨y18, hy⟩ : ∃ y, ((y17.setCell ⟨B, 0, none⟩ (.slice q m d)).setCell ⟨B, 1, none⟩ (.slice none 0 0)).setCell ⟨B, 2, none⟩ (.bool false) = y := ⟨_, rfl⟩
      rw [hy]
      have ho : Off B y17 y18 := by rw [← hy]; exact (((Off.refl _ _).set _ _).set _ _).set _ _
      replace S_B : Stp y18 B (.slice q m d) (.slice none 0 0) (.bool false) := by rw [← hy]; exact S_B.put _ _ _
      clear hy
      replace S_C := S_C.off ho N_BC.out.symm
      replace k_a := ho.cell _ _ (show w.heap.size ≠ B from by have := L_B.out; have := E0.out; omega) k_a
      replace k_m := ho.cell _ _ (show w.heap.size + 1 ≠ B from by have := L_B.out; have := E0.out; omega) k_m
      replace f_r := ho.frz _ f_r
      replace k_r := ho.cell _ _ (show w.heap.size + 1 + 1 ≠ B from by have := L_B.out; have := E0.out; omega) k_r
      replace R_a := Lib.hid (ho.nw _ _ _ _ A_aB.out R_a.out)
      replace R_m := Lib.hid (ho.nw _ _ _ _ A_mB.out R_m.out)
      replace R_1 := Lib.hid (ho.nw _ _ _ _ A_1B.out R_1.out)
      replace G := Lib.hid (ho.gr _ (by have := L_B.out; have := E0.out; omega) G.out)
      replace G0 := Lib.hid (ho.gr _ (by have := L_B.out; have := E0.out; omega) G0.out)
      clear ho
      have hS : y18.cell? ⟨w.heap.size, 0, none⟩ = some (.slice p n c) ∧ y18.cell? ⟨w.heap.size + 1, 0, none⟩ = some (.slice q m d) ∧ True := ⟨k_a, k_m, trivial⟩
      refine hK.out _ _ (fun _ => hS) ?_
      clear hK K
      (try simp only [Act.put, List.getElem_toArray, List.getElem_cons_zero, List.getElem_cons_succ, List.setIfInBounds_toArray, List.set_cons_zero, List.set_cons_succ])
      refine Kr.readyL (rs := [8]) (by kernel_rfl) (by simp) ?_
      refine Kr.AllL.cons rfl (fun K hK => ?_) Kr.AllL.nil
      clear hS
      go_simp
      have c0 := S_C.c0; have c1 := S_C.c1; have c2 := S_C.c2; have f0 := S_C.f0; have f1 := S_C.f1; have f2 := S_C.f2
      go_simp
      clear c0 c1 c2 f0 f1 f2
      obtain ⟨y19, hy⟩ : ∃ y, ((y18.setCell ⟨C, 0, none⟩ (.slice p n c)).setCell ⟨C, 1, none⟩ (.slice p3 n3 c3)).setCell ⟨C, 2, none⟩ (.bool false) = y := ⟨_, rfl⟩
      rw [hy]
      have ho : Off C y18 y19 := by rw [← hy]; exact (((Off.refl _ _).set _ _).set _ _).set _ _
      replace S_C : Stp y19 C (.slice p n c) (.slice p3 n3 c3) (.bool false) := by rw [← hy]; exact S_C.put _ _ _
      clear hy
      replace S_B := S_B.off ho N_BC.out
      replace k_a := ho.cell _ _ (show w.heap.size ≠ C from by have := L_C.out; have := E0.out; omega) k_a
      replace k_m := ho.cell _ _ (show w.heap.size + 1 ≠ C from by have := L_C.out; have := E0.out; omega) k_m
      replace f_r := ho.frz _ f_r
      replace k_r := ho.cell _ _ (show w.heap.size + 1 + 1 ≠ C from by have := L_C.out; have := E0.out; omega) k_r
      replace R_a := Lib.hid (ho.nw _ _ _ _ A_aC.out R_a.out)
      replace R_m := Lib.hid (ho.nw _ _ _ _ A_mC.out R_m.out)
      replace R_1 := Lib.hid (ho.nw _ _ _ _ A_1C.out R_1.out)
      replace G := Lib.hid (ho.gr _ (by have := L_C.out; have := E0.out; omega) G.out)
      replace G0 := Lib.hid (ho.gr _ (by have := L_C.out; have := E0.out; omega) G0.out)
      clear ho
      have hS : y19.cell? ⟨w.heap.size, 0, none⟩ = some (.slice p n c) ∧ y19.cell? ⟨w.heap.size + 1, 0, none⟩ = some (.slice q m d) ∧ True := ⟨k_a, k_m, trivial⟩
      refine hK.out _ _ (fun _ => hS) ?_
      clear hK K
      (try simp only [Act.put, List.getElem_toArray, List.getElem_cons_zero, List.getElem_cons_succ, List.setIfInBounds_toArray, List.set_cons_zero, List.set_cons_succ])
      clear hS
      refine Kr.doneL (by kernel_rfl) ?_ _
      go_wp2_with fail
      go_meet
      have e0 := E0.out
      exact ⟨B, C, p3, n3, c3, rfl, rfl, Lib.hid ⟨G.out, k_m, k_r, f_r, R_m.out, N_BC.out, by have := L_B.out; omega, by have := L_C.out; omega, A_mB.out, A_mC.out, S_B, S_C, R_m.out, nw_none _, R_a.out, R_1.out, A_mB.out, A_mC.out, av_none _ _, av_none _ _, A_aB.out, A_aC.out, A_1B.out, A_1C.out, av_none _ _, A_1R.out, EInv.start HX.out⟩⟩
    refine Kr.AllL.cons rfl (fun K hK => ?_) Kr.AllL.nil
    clear hS
    go_simp
    obtain ⟨y20, hy⟩ : ∃ y, d1.alloc (.cells #[.slice none 0 0, .slice none 0 0, .bool false] 104) = y := ⟨_, rfl⟩
    obtain ⟨C, hC⟩ : ∃ B, d1.heap.size = B := ⟨_, rfl⟩
    rw [hy, hC]
    have hg : Gr d1 y20 := by rw [← hy]; exact (Gr.refl _).alloc _
    have L_C := Lib.hid (hC ▸ G0.out.le : W0.heap.size ≤ C)
    have A_aC := Lib.hid (av_new (b := C) R_a.out (Nat.le_of_eq hC))
    have A_mC := Lib.hid (av_new (b := C) R_m.out (Nat.le_of_eq hC))
    replace k_a := hg.cell k_a
    replace k_m := hg.cell k_m
    replace f_r := hg.frozen k_r f_r
    replace k_r := hg.cell k_r
    replace R_a := Lib.hid (R_a.out.grow hg)
    replace R_m := Lib.hid (R_m.out.grow hg)
    replace G := Lib.hid (G.out.trans hg)
    replace G0 := Lib.hid (G0.out.trans hg)
    clear hg
    have S_C : Stp y20 C (.slice none 0 0) (.slice none 0 0) (.bool false) := by rw [← hy, ← hC]; exact ⟨by simp [go_sem], by simp [go_sem], by simp [go_sem], by simp [go_sem], by simp [go_sem], by simp [go_sem]⟩
    clear hy hC
    have hS : y20.cell? ⟨w.heap.size, 0, none⟩ = some (.slice p n c) ∧ y20.cell? ⟨w.heap.size + 1, 0, none⟩ = some (.slice q m d) ∧ True := ⟨k_a, k_m, trivial⟩
    refine hK.out _ _ (fun _ => hS) ?_
    clear hK K
    (try simp only [Act.put, List.getElem_toArray, List.getElem_cons_zero, List.getElem_cons_succ, List.setIfInBounds_toArray, List.set_cons_zero, List.set_cons_succ])
    refine Kr.readyL (rs := [3, 5]) (by kernel_rfl) (by simp) ?_
    refine Kr.AllL.cons rfl (fun K hK => ?_) ?_
    · clear hS
      go_simp
      go_at_call 81
      refine (one_v _).mono ?_
      rintro e y21 ⟨p3, n3, c3, rfl, hr, hg⟩
      have A_1C := Lib.hid (av_nr (b := C) hr S_C.lt)
      have A_1R := Lib.hid (av_nr (b := w.heap.size + 1 + 1) hr (World.block_lt_of_cell? _ _ k_r))
      have R_1 := Lib.hid hr.toNw
      clear hr
      replace k_a := hg.cell k_a
      replace k_m := hg.cell k_m
      replace f_r := hg.frozen k_r f_r
      replace k_r := hg.cell k_r
      replace R_a := Lib.hid (R_a.out.grow hg)
      replace R_m := Lib.hid (R_m.out.grow hg)
      replace G := Lib.hid (G.out.trans hg)
      replace G0 := Lib.hid (G0.out.trans hg)
      replace S_C := S_C.grow hg
      clear hg
      have hS : y21.cell? ⟨w.heap.size, 0, none⟩ = some (.slice p n c) ∧ y21.cell? ⟨w.heap.size + 1, 0, none⟩ = some (.slice q m d) ∧ True := ⟨k_a, k_m, trivial⟩
      refine hK.out _ _ (fun _ => hS) ?_
      clear hK K
      (try simp only [Act.put, List.getElem_toArray, List.getElem_cons_zero, List.getElem_cons_succ, List.setIfInBounds_toArray, List.set_cons_zero, List.set_cons_succ])
      refine Kr.takeP (i := 4) (v := ?_) rfl (by kernel_rfl) (by kernel_rfl) (by kernel_rfl) rfl (fun _ _ _ h => h) (fun wx => ?_) (by rfl) (fun _ => hS) ?_
      rotate_left
      · (go_simp; first | done | rfl)
      (try simp only [Act.put, List.getElem_toArray, List.getElem_cons_zero, List.getElem_cons_succ, List.setIfInBounds_toArray, List.set_cons_zero, List.set_cons_succ])
      refine Kr.readyL (rs := [5]) (by kernel_rfl) (by simp) ?_
      refine Kr.AllL.cons rfl (fun K hK => ?_) Kr.AllL.nil
      clear hS
      go_simp
      obtain ⟨y22, hy⟩ : ∃ y, y21.alloc (.cells #[.slice none 0 0, .slice none 0 0, .bool false] 104) = y := ⟨_, rfl⟩
      obtain ⟨B, hB⟩ : ∃ B, y21.heap.size = B := ⟨_, rfl⟩
      rw [hy, hB]
      have hg : Gr y21 y22 := by rw [← hy]; exact (Gr.refl _).alloc _
      have L_B := Lib.hid (hB ▸ G0.out.le : W0.heap.size ≤ B)
      have N_CB : Hid (C ≠ B) := Lib.hid (Nat.ne_of_lt (show C < B from hB ▸ S_C.lt))
      have A_aB := Lib.hid (av_new (b := B) R_a.out (Nat.le_of_eq hB))
      have A_mB := Lib.hid (av_new (b := B) R_m.out (Nat.le_of_eq hB))
      have A_1B := Lib.hid (av_new (b := B) R_1.out (Nat.le_of_eq hB))
      replace k_a := hg.cell k_a
      replace k_m := hg.cell k_m
      replace f_r := hg.frozen k_r f_r
      replace k_r := hg.cell k_r
      replace R_a := Lib.hid (R_a.out.grow hg)
      replace R_m := Lib.hid (R_m.out.grow hg)
      replace R_1 := Lib.hid (R_1.out.grow hg)
      replace G := Lib.hid (G.out.trans hg)
      replace G0 := Lib.hid (G0.out.trans hg)
      replace S_C := S_C.grow hg
      clear hg
      have S_B : Stp y22 B (.slice none 0 0) (.slice none 0 0) (.bool false) := by rw [← hy, ← hB]; exact ⟨by simp [go_sem], by simp [go_sem], by simp [go_sem], by simp [go_sem], by simp [go_sem], by simp [go_sem]⟩
      clear hy hB
      have hS : y22.cell? ⟨w.heap.size, 0, none⟩ = some (.slice p n c) ∧ y22.cell? ⟨w.heap.size + 1, 0, none⟩ = some (.slice q m d) ∧ True := ⟨k_a, k_m, trivial⟩
      refine hK.out _ _ (fun _ => hS) ?_
      clear hK K
      (try simp only [Act.put, List.getElem_toArray, List.getElem_cons_zero, List.getElem_cons_succ, List.setIfInBounds_toArray, List.set_cons_zero, List.set_cons_succ])
      refine Kr.readyL (rs := [7]) (by kernel_rfl) (by simp) ?_
      refine Kr.AllL.cons rfl (fun K hK => ?_) Kr.AllL.nil
      clear hS
      go_simp
      have c0 := S_B.c0; have c1 := S_B.c1; have c2 := S_B.c2; have f0 := S_B.f0; have f1 := S_B.f1; have f2 := S_B.f2
      go_simp
      clear c0 c1 c2 f0 f1 f2
      obtain ⟨y23, hy⟩ : ∃ y, ((y22.setCell ⟨B, 0, none⟩ (.slice q m d)).setCell ⟨B, 1, none⟩ (.slice none 0 0)).setCell ⟨B, 2, none⟩ (.bool false) = y := ⟨_, rfl⟩
      rw [hy]
      have ho : Off B y22 y23 := by rw [← hy]; exact (((Off.refl _ _).set _ _).set _ _).set _ _
      replace S_B : Stp y23 B (.slice q m d) (.slice none 0 0) (.bool false) := by rw [← hy]; exact S_B.put _ _ _
      clear hy
      replace S_C := S_C.off ho N_CB.out
      replace k_a := ho.cell _ _ (show w.heap.size ≠ B from by have := L_B.out; have := E0.out; omega) k_a
      replace k_m := ho.cell _ _ (show w.heap.size + 1 ≠ B from by have := L_B.out; have := E0.out; omega) k_m
      replace f_r := ho.frz _ f_r
      replace k_r := ho.cell _ _ (show w.heap.size + 1 + 1 ≠ B from by have := L_B.out; have := E0.out; omega) k_r
      replace R_a := Lib.hid (ho.nw _ _ _ _ A_aB.out R_a.out)
      replace R_m := Lib.hid (ho.nw _ _ _ _ A_mB.out R_m.out)
      replace R_1 := Lib.hid (ho.nw _ _ _ _ A_1B.out R_1.out)
      replace G := Lib.hid (ho.gr _ (by have := L_B.out; have := E0.out; omega) G.out)
      replace G0 := Lib.hid (ho.gr _ (by have := L_B.out; have := E0.out; omega) G0.out)
      clear ho
      have hS : y23.cell? ⟨w.heap.size, 0, none⟩ = some (.slice p n c) ∧ y23.cell? ⟨w.heap.size + 1, 0, none⟩ = some (.slice q m d) ∧ True := ⟨k_a, k_m, trivial⟩
      refine hK.out _ _ (fun _ => hS) ?_
      clear hK K
      (try simp only [Act.put, List.getElem_toArray, List.getElem_cons_zero, List.getElem_cons_succ, List.setIfInBounds_toArray, List.set_cons_zero, List.set_cons_succ])
      refine Kr.readyL (rs := [8]) (by kernel_rfl) (by simp) ?_
      refine Kr.AllL.cons rfl (fun K hK => ?_) Kr.AllL.nil
      clear hS
      go_simp
      have c0 := S_C.c0; have c1 := S_C.c1; have c2 := S_C.c2; have f0 := S_C.f0; have f1 := S_C.f1; have f2 := S_C.f2
      go_simp
      clear c0 c1 c2 f0 f1 f2
      obtain ⟨y24, hy⟩ : ∃ y, ((y23.setCell ⟨C, 0, none⟩ (.slice p n c)).setCell ⟨C, 1, none⟩ (.slice p3 n3 c3)).setCell ⟨C, 2, none⟩ (.bool false) = y := ⟨_, rfl⟩
      rw [hy]
      have ho : Off C y23 y24 := by rw [← hy]; exact (((Off.refl _ _).set _ _).set _ _).set _ _
      replace S_C : Stp y24 C (.slice p n c) (.slice p3 n3 c3) (.bool false) := by rw [← hy]; exact S_C.put _ _ _
      clear hy
      replace S_B := S_B.off ho N_CB.out.symm
      replace k_a := ho.cell _ _ (show w.heap.size ≠ C from by have := L_C.out; have := E0.out; omega) k_a
      replace k_m := ho.cell _ _ (show w.heap.size + 1 ≠ C from by have := L_C.out; have := E0.out; omega) k_m
      replace f_r := ho.frz _ f_r
      replace k_r := ho.cell _ _ (show w.heap.size + 1 + 1 ≠ C from by have := L_C.out; have := E0.out; omega) k_r
      replace R_a := Lib.hid (ho.nw _ _ _ _ A_aC.out R_a.out)
      replace R_m := Lib.hid (ho.nw _ _ _ _ A_mC.out R_m.out)
      replace R_1 := Lib.hid (ho.nw _ _ _ _ A_1C.out R_1.out)
      replace G := Lib.hid (ho.gr _ (by have := L_C.out; have := E0.out; omega) G.out)
      replace G0 := Lib.hid (ho.gr _ (by have := L_C.out; have := E0.out; omega) G0.out)
      clear ho
      have hS : y24.cell? ⟨w.heap.size, 0, none⟩ = some (.slice p n c) ∧ y24.cell? ⟨w.heap.size + 1, 0, none⟩ = some (.slice q m d) ∧ True := ⟨k_a, k_m, trivial⟩
      refine hK.out _ _ (fun _ => hS) ?_
      clear hK K
      (try simp only [Act.put, List.getElem_toArray, List.getElem_cons_zero, List.getElem_cons_succ, List.setIfInBounds_toArray, List.set_cons_zero, List.set_cons_succ])
      clear hS
      refine Kr.doneL (by kernel_rfl) ?_ _
      go_wp2_with fail
      go_meet
      have e0 := E0.out
      exact ⟨B, C, p3, n3, c3, rfl, rfl, Lib.hid ⟨G.out, k_m, k_r, f_r, R_m.out, N_CB.out.symm, by have := L_B.out; omega, by have := L_C.out; omega, A_mB.out, A_mC.out, S_B, S_C, R_m.out, nw_none _, R_a.out, R_1.out, A_mB.out, A_mC.out, av_none _ _, av_none _ _, A_aB.out, A_aC.out, A_1B.out, A_1C.out, av_none _ _, A_1R.out, EInv.start HX.out⟩⟩
    refine Kr.AllL.cons rfl (fun K hK => ?_) Kr.AllL.nil
    clear hS
    go_simp
    obtain ⟨y25, hy⟩ : ∃ y, y20.alloc (.cells #[.slice none 0 0, .slice none 0 0, .bool false] 104) = y := ⟨_, rfl⟩
    obtain ⟨B, hB⟩ : ∃ B, y20.heap.size = B := ⟨_, rfl⟩
    rw [hy, hB]
    have hg : Gr y20 y25 := by rw [← hy]; exact (Gr.refl _).alloc _
    have L_B := Lib.hid (hB ▸ G0.out.le : W0.heap.size ≤ B)
    have N_CB : Hid (C ≠ B) := Lib.hid (Nat.ne_of_lt (show C < B from hB ▸ S_C.lt))
    have A_aB := Lib.hid (av_new (b := B) R_a.out (Nat.le_of_eq hB))
    have A_mB := Lib.hid (av_new (b := B) R_m.out (Nat.le_of_eq hB))
    replace k_a := hg.cell k_a
    replace k_m := hg.cell k_m
    replace f_r := hg.frozen k_r f_r
    replace k_r := hg.cell k_r
    replace R_a := Lib.hid (R_a.out.grow hg)
    replace R_m := Lib.hid (R_m.out.grow hg)
    replace G := Lib.hid (G.out.trans hg)
    replace G0 := Lib.hid (G0.out.trans hg)
    replace S_C := S_C.grow hg
    clear hg
    have S_B : Stp y25 B (.slice none 0 0) (.slice none 0 0) (.bool false) := by rw [← hy, ← hB]; exact ⟨by simp [go_sem], by simp [go_sem], by simp [go_sem], by simp [go_sem], by simp [go_sem], by simp [go_sem]⟩
    clear hy hB
    have hS : y25.cell? ⟨w.heap.size, 0, none⟩ = some (.slice p n c) ∧ y25.cell? ⟨w.heap.size + 1, 0, none⟩ = some (.slice q m d) ∧ True := ⟨k_a, k_m, trivial⟩
    refine hK.out _ _ (fun _ => hS) ?_
    clear hK K
    (try simp only [Act.put, List.getElem_toArray, List.getElem_cons_zero, List.getElem_cons_succ, List.setIfInBounds_toArray, List.set_cons_zero, List.set_cons_succ])
    refine Kr.readyL (rs := [3]) (by kernel_rfl) (by simp) ?_
    refine Kr.AllL.cons rfl (fun K hK => ?_) Kr.AllL.nil
    clear hS
    go_simp
    go_at_call 81
    refine (one_v _).mono ?_
    rintro e y26 ⟨p3, n3, c3, rfl, hr, hg⟩
    have A_1C := Lib.hid (av_nr (b := C) hr S_C.lt)
    have A_1B := Lib.hid (av_nr (b := B) hr S_B.lt)
    have A_1R := Lib.hid (av_nr (b := w.heap.size + 1 + 1) hr (World.block_lt_of_cell? _ _ k_r))
    have R_1 := Lib.hid hr.toNw
    clear hr
    replace k_a := hg.cell k_a
    replace k_m := hg.cell k_m
    replace f_r := hg.frozen k_r f_r
    replace k_r := hg.cell k_r
    replace R_a := Lib.hid (R_a.out.grow hg)
    replace R_m := Lib.hid (R_m.out.grow hg)
    replace G := Lib.hid (G.out.trans hg)
    replace G0 := Lib.hid (G0.out.trans hg)
    replace S_C := S_C.grow hg
    replace S_B := S_B.grow hg
    clear hg
    have hS : y26.cell? ⟨w.heap.size, 0, none⟩ = some (.slice p n c) ∧ y26.cell? ⟨w.heap.size + 1, 0, none⟩ = some (.slice q m d) ∧ True := ⟨k_a, k_m, trivial⟩
    refine hK.out _ _ (fun _ => hS) ?_
    clear hK K
    (try simp only [Act.put, List.getElem_toArray, List.getElem_cons_zero, List.getElem_cons_succ, List.setIfInBounds_toArray, List.set_cons_zero, List.set_cons_succ])
    refine Kr.takeP (i := 4) (v := ?_) rfl (by kernel_rfl) (by kernel_rfl) (by kernel_rfl) rfl (fun _ _ _ h => h) (fun wx => ?_) (by rfl) (fun _ => hS) ?_
    rotate_left
    · (go_simp; first | done | rfl)
    (try simp only [Act.put, List.getElem_toArray, List.getElem_cons_zero, List.getElem_cons_succ, List.setIfInBounds_toArray, List.set_cons_zero, List.set_cons_succ])
    refine Kr.readyL (rs := [7]) (by kernel_rfl) (by simp) ?_
    refine Kr.AllL.cons rfl (fun K hK => ?_) Kr.AllL.nil
    clear hS
    go_simp
    have c0 := S_B.c0; have c1 := S_B.c1; have c2 := S_B.c2; have f0 := S_B.f0; have f1 := S_B.f1; have f2 := S_B.f2
    go_simp
    clear c0 c1 c2 f0 f1 f2
    obtain ⟨y27, hy⟩ : ∃ y, ((y26.setCell ⟨B, 0, none⟩ (.slice q m d)).setCell ⟨B, 1, none⟩ (.slice none 0 0)).setCell ⟨B, 2, none⟩ (.bool false) = y := ⟨_, rfl⟩
    rw [hy]
    have ho : Off B y26 y27 := by rw [← hy]; exact (((Off.refl _ _).set _ _).set _ _).set _ _
    replace S_B : Stp y27 B (.slice q m d) (.slice none 0 0) (.bool false) := by rw [← hy]; exact S_B.put _ _ _
    clear hy
    replace S_C := S_C.off ho N_CB.out
    replace k_a := ho.cell _ _ (show w.heap.size ≠ B from by have := L_B.out; have := E0.out; omega) k_a
    replace k_m := ho.cell _ _ (show w.heap.size + 1 ≠ B from by have := L_B.out; have := E0.out; omega) k_m
    replace f_r := ho.frz _ f_r
    replace k_r := ho.cell _ _ (show w.heap.size + 1 + 1 ≠ B from by have := L_B.out; have := E0.out; omega) k_r
    replace R_a := Lib.hid (ho.nw _ _ _ _ A_aB.out R_a.out)
    replace R_m := Lib.hid (ho.nw _ _ _ _ A_mB.out R_m.out)
    replace R_1 := Lib.hid (ho.nw _ _ _ _ A_1B.out R_1.out)
    replace G := Lib.hid (ho.gr _ (by have := L_B.out; have := E0.out; omega) G.out)
    replace G0 := Lib.hid (ho.gr _ (by have := L_B.out; have := E0.out; omega) G0.out)
    clear ho
    have hS : y27.cell? ⟨w.heap.size, 0, none⟩ = some (.slice p n c) ∧ y27.cell? ⟨w.heap.size + 1, 0, none⟩ = some (.slice q m d) ∧ True := ⟨k_a, k_m, trivial⟩
    refine hK.out _ _ (fun _ => hS) ?_
    clear hK K
    (try simp only [Act.put, List.getElem_toArray, List.getElem_cons_zero, List.getElem_cons_succ, List.setIfInBounds_toArray, List.set_cons_zero, List.set_cons_succ])
    refine Kr.readyL (rs := [8]) (by kernel_rfl) (by simp) ?_
    refine Kr.AllL.cons rfl (fun K hK => ?_) Kr.AllL.nil
    clear hS
    go_simp
    have c0 := S_C.c0; have c1 := S_C.c1; have c2 := S_C.c2; have f0 := S_C.f0; have f1 := S_C.f1; have f2 := S_C.f2
    go_simp
    clear c0 c1 c2 f0 f1 f2
    obtain ⟨y28, hy⟩ : ∃ y, ((y27.setCell ⟨C, 0, none⟩ (.slice p n c)).setCell ⟨C, 1, none⟩ (.slice p3 n3 c3)).setCell ⟨C, 2, none⟩ (.bool false) = y := ⟨_, rfl⟩
    rw [hy]
    have ho : Off C y27 y28 := by rw [← hy]; exact (((Off.refl _ _).set _ _).set _ _).set _ _
    replace S_C : Stp y28 C (.slice p n c) (.slice p3 n3 c3) (.bool false) := by rw [← hy]; exact S_C.put _ _ _
    clear hy
    replace S_B := S_B.off ho N_CB.out.symm
    replace k_a := ho.cell _ _ (show w.heap.size ≠ C from by have := L_C.out; have := E0.out; omega) k_a
    replace k_m := ho.cell _ _ (show w.heap.size + 1 ≠ C from by have := L_C.out; have := E0.out; omega) k_m
    replace f_r := ho.frz _ f_r
    replace k_r := ho.cell _ _ (show w.heap.size + 1 + 1 ≠ C from by have := L_C.out; have := E0.out; omega) k_r
    replace R_a := Lib.hid (ho.nw _ _ _ _ A_aC.out R_a.out)
    replace R_m := Lib.hid (ho.nw _ _ _ _ A_mC.out R_m.out)
    replace R_1 := Lib.hid (ho.nw _ _ _ _ A_1C.out R_1.out)
    replace G := Lib.hid (ho.gr _ (by have := L_C.out; have := E0.out; omega) G.out)
    replace G0 := Lib.hid (ho.gr _ (by have := L_C.out; have := E0.out; omega) G0.out)
    clear ho
    have hS : y28.cell? ⟨w.heap.size, 0, none⟩ = some (.slice p n c) ∧ y28.cell? ⟨w.heap.size + 1, 0, none⟩ = some (.slice q m d) ∧ True := ⟨k_a, k_m, trivial⟩
    refine hK.out _ _ (fun _ => hS) ?_
    clear hK K
    (try simp only [Act.put, List.getElem_toArray, List.getElem_cons_zero, List.getElem_cons_succ, List.setIfInBounds_toArray, List.set_cons_zero, List.set_cons_succ])
    clear hS
    refine Kr.doneL (by kernel_rfl) ?_ _
    go_wp2_with fail
    go_meet
    have e0 := E0.out
    exact ⟨B, C, p3, n3, c3, rfl, rfl, Lib.hid ⟨G.out, k_m, k_r, f_r, R_m.out, N_CB.out.symm, by have := L_B.out; omega, by have := L_C.out; omega, A_mB.out, A_mC.out, S_B, S_C, R_m.out, nw_none _, R_a.out, R_1.out, A_mB.out, A_mC.out, av_none _ _, av_none _ _, A_aB.out, A_aC.out, A_1B.out, A_1C.out, av_none _ _, A_1R.out, EInv.start HX.out⟩⟩
  case rest =>
    obtain ⟨B, C, pz, nz, cz, rfl, rfl, HI⟩ := hcut
    have HXY := Lib.hid (Nat.lt_trans HX.out HY.out)
    clear R_a R_m k_a k_m k_r f_r E0 G
    go_wp2
    go_loopw [] (fun wr => ∃ (p0 : Option Addr) (n0 c0 : Nat) (p1 : Option Addr) (n1 c1 : Nat) (p2 : Option Addr) (n2 c2 : Nat) (p3 : Option Addr) (n3 c3 : Nat) (r0 x0 r1 x1 : Nat) (s0 s1 : Bool), Hid (InvSt w wr x y B C q m d p0 n0 c0 p1 n1 c1 p2 n2 c2 p3 n3 c3 r0 x0 r1 x1 s0 s1)) (fun wr => numAt wr ⟨C, 0, none⟩)
    case atStart => exact ⟨_, _, _, _, _, _, _, _, _, _, _, _, _, _, _, _, _, _, HI⟩
    case round =>
      clear HI
      obtain ⟨p0, n0, c0, p1, n1, c1, p2, n2, c2, p3, n3, c3, r0, x0, r1, x1, s0, s1, HI⟩ := hrel
      have G := Lib.hid HI.out.g
      have N_BC := Lib.hid HI.out.bc
      have L_B := Lib.hid HI.out.lB
      have L_C := Lib.hid HI.out.lC
      have R_m := Lib.hid HI.out.nm
      have A_mB := Lib.hid HI.out.mB
      have A_mC := Lib.hid HI.out.mC
      have R_0 := Lib.hid HI.out.w0
      have R_1 := Lib.hid HI.out.w1
      have R_2 := Lib.hid HI.out.w2
      have R_3 := Lib.hid HI.out.w3
      have A_0B := Lib.hid HI.out.a0B
      have A_0C := Lib.hid HI.out.a0C
      have A_1B := Lib.hid HI.out.a1B
      have A_1C := Lib.hid HI.out.a1C
      have A_2B := Lib.hid HI.out.a2B
      have A_2C := Lib.hid HI.out.a2C
      have A_3B := Lib.hid HI.out.a3B
      have A_3C := Lib.hid HI.out.a3C
      have A_1R := Lib.hid HI.out.a1R
      have A_3R := Lib.hid HI.out.a3R
      have HE := Lib.hid HI.out.inv
      have k_m := HI.out.km
      have k_r := HI.out.kr
      have f_r := HI.out.fr
      have S_B := HI.out.sB
      have S_C := HI.out.sC
      have HMe : Hid (numAt wr ⟨C, 0, none⟩ = r1) := Lib.hid ((numAt_eq S_C.c0 R_2.out).trans (val_digs r1))
      have e0 : Hid (w.heap.size + 1 + 1 + 1 = w.heap.size + 1 + 1 + 1) := Lib.hid rfl
      have E0 := e0
      clear e0
      clear HI
      have k_n := S_C.c0
      go_wp2_with fail
      refine (isZero_v R_2.out).mono ?_
      rintro e y101 ⟨rfl, hg⟩
      replace k_m := hg.cell k_m
      replace f_r := hg.frozen k_r f_r
      replace k_r := hg.cell k_r
      replace k_n := hg.cell k_n
      replace R_m := Lib.hid (R_m.out.grow hg)
      replace R_0 := Lib.hid (R_0.out.grow hg)
      replace R_1 := Lib.hid (R_1.out.grow hg)
      replace R_2 := Lib.hid (R_2.out.grow hg)
      replace R_3 := Lib.hid (R_3.out.grow hg)
      replace G := Lib.hid (G.out.trans hg)
      replace S_B := S_B.grow hg
      replace S_C := S_C.grow hg
      clear hg
      by_cases h : r1 = 0
      · subst h
        clear k_n
        have HGC := Lib.hid HE.out.gcd_end
        have k_l := S_B.c0
        have HR0 := Lib.hid (Nat.lt_of_le_of_lt HE.out.small HY.out)
        go_upto_region 6 with fail
        by_cases h1 : r0 = 1
        · have HO : Hid (ord r0 1 = 0) := Lib.hid (by rw [h1, ord_eq])
          have HG1 : Hid (Nat.gcd x y = 1) := Lib.hid (by rw [← HGC.out]; exact h1)
          have HD : Hid (decide (Nat.gcd x y = 1) = true) := Lib.hid (decide_eq_true HG1.out)
          have HI : Hid (IsInv x y (if s0 then y - x0 else x0)) := Lib.hid ((h1 ▸ HE.out).inv_end (Nat.lt_of_le_of_lt (Nat.zero_le _) HX.out))
          have HLE := Lib.hid HE.out.le0
          clear h1 HE HGC
          refine Kr.startL (fun W' => W'.cell? ⟨B, 0, none⟩ = some (.slice p0 n0 c0) ∧ True) [] (by kernel_rfl) ?_
          have gd : Gr y101 y101.drew := (Gr.refl _).drew
          generalize y101.drew = d102 at gd ⊢
          replace k_m := gd.cell k_m
          replace f_r := gd.frozen k_r f_r
          replace k_r := gd.cell k_r
          replace k_l := gd.cell k_l
          replace R_m := Lib.hid (R_m.out.grow gd)
          replace R_0 := Lib.hid (R_0.out.grow gd)
          replace R_1 := Lib.hid (R_1.out.grow gd)
          replace R_2 := Lib.hid (R_2.out.grow gd)
          replace R_3 := Lib.hid (R_3.out.grow gd)
          replace G := Lib.hid (G.out.trans gd)
          replace S_B := S_B.grow gd
          replace S_C := S_C.grow gd
          clear gd
          have hS : d102.cell? ⟨B, 0, none⟩ = some (.slice p0 n0 c0) ∧ True := ⟨k_l, trivial⟩
          refine Kr.takeP (i := 0) (v := ?_) rfl (by kernel_rfl) (by kernel_rfl) (by kernel_rfl) rfl (fun _ _ _ h => h) (fun wx => ?_) (by rfl) (fun _ => hS) ?_
          rotate_left
          · (go_simp; first | done | rfl)
          (try simp only [Act.put, List.getElem_toArray, List.getElem_cons_zero, List.getElem_cons_succ, List.setIfInBounds_toArray, List.set_cons_zero, List.set_cons_succ])
          refine Kr.takeS (i := 1) (v := ?_) [3, 4, 5] rfl (by kernel_rfl) (by kernel_rfl) (by kernel_rfl) rfl (by kernel_rfl) (by kernel_rfl) (by kernel_rfl) (fun _ _ _ h => h) (fun wx hSx => ?_) (by rfl) hS ?_
          rotate_left
          · (go_simp; first | done | rfl)
          (try simp only [Act.put, List.getElem_toArray, List.getElem_cons_zero, List.getElem_cons_succ, List.setIfInBounds_toArray, List.set_cons_zero, List.set_cons_succ])
          refine Kr.readyL (rs := [2]) (by kernel_rfl) (by simp) ?_
          refine Kr.AllL.cons rfl (fun K hK => ?_) Kr.AllL.nil
          clear hS
          go_simp
          go_at_call 81
          refine (one_v _).mono ?_
          rintro e y103 ⟨p4, n4, c4, rfl, hr, hg⟩
          have A_4B := Lib.hid (av_nr (b := B) hr S_B.lt)
          have A_4C := Lib.hid (av_nr (b := C) hr S_C.lt)
          have A_4R := Lib.hid (av_nr (b := w.heap.size + 1 + 1) hr (World.block_lt_of_cell? _ _ k_r))
          have R_4 := Lib.hid hr.toNw
          clear hr
          replace k_m := hg.cell k_m
          replace f_r := hg.frozen k_r f_r
          replace k_r := hg.cell k_r
          replace k_l := hg.cell k_l
          replace R_m := Lib.hid (R_m.out.grow hg)
          replace R_0 := Lib.hid (R_0.out.grow hg)
          replace R_1 := Lib.hid (R_1.out.grow hg)
          replace R_2 := Lib.hid (R_2.out.grow hg)
          replace R_3 := Lib.hid (R_3.out.grow hg)
          replace G := Lib.hid (G.out.trans hg)
          replace S_B := S_B.grow hg
          replace S_C := S_C.grow hg
          clear hg
          have hS : y103.cell? ⟨B, 0, none⟩ = some (.slice p0 n0 c0) ∧ True := ⟨k_l, trivial⟩
          refine hK.out _ _ (fun _ => hS) ?_
          clear hK K
          (try simp only [Act.put, List.getElem_toArray, List.getElem_cons_zero, List.getElem_cons_succ, List.setIfInBounds_toArray, List.set_cons_zero, List.set_cons_succ])
          refine Kr.readyL (rs := [3]) (by kernel_rfl) (by simp) ?_
          refine Kr.AllL.cons rfl (fun K hK => ?_) Kr.AllL.nil
          clear hS
          go_simp
          go_at_call 93
          refine (Compare_v R_0.out R_4.out (lt64 HR0.out) (by first | exact Nat.lt_of_lt_of_le (by decide) (pw_mono (show 1 ≤ 64 by decide)))).mono ?_
          rintro e y104 ⟨rfl, hg⟩
          rw [HO.out]
          replace k_m := hg.cell k_m
          replace f_r := hg.frozen k_r f_r
          replace k_r := hg.cell k_r
          replace k_l := hg.cell k_l
          replace R_m := Lib.hid (R_m.out.grow hg)
          replace R_0 := Lib.hid (R_0.out.grow hg)
          replace R_1 := Lib.hid (R_1.out.grow hg)
          replace R_2 := Lib.hid (R_2.out.grow hg)
          replace R_3 := Lib.hid (R_3.out.grow hg)
          replace R_4 := Lib.hid (R_4.out.grow hg)
          replace G := Lib.hid (G.out.trans hg)
          replace S_B := S_B.grow hg
          replace S_C := S_C.grow hg
          clear hg
          have hS : y104.cell? ⟨B, 0, none⟩ = some (.slice p0 n0 c0) ∧ True := ⟨k_l, trivial⟩
          refine hK.out _ _ (fun _ => hS) ?_
          clear hK K
          (try simp only [Act.put, List.getElem_toArray, List.getElem_cons_zero, List.getElem_cons_succ, List.setIfInBounds_toArray, List.set_cons_zero, List.set_cons_succ])
          refine Kr.takeP (i := 4) (v := ?_) rfl (by kernel_rfl) (by kernel_rfl) (by kernel_rfl) rfl (fun _ _ _ h => h) (fun wx => ?_) (by rfl) (fun _ => hS) ?_
          rotate_left
          · (go_simp; first | done | rfl)
          (try simp only [Act.put, List.getElem_toArray, List.getElem_cons_zero, List.getElem_cons_succ, List.setIfInBounds_toArray, List.set_cons_zero, List.set_cons_succ])
          refine Kr.takeP (i := 5) (v := ?_) rfl (by kernel_rfl) (by kernel_rfl) (by kernel_rfl) rfl (fun _ _ _ h => h) (fun wx => ?_) (by rfl) (fun _ => hS) ?_
          rotate_left
          · (go_simp; first | done | rfl)
          (try simp only [Act.put, List.getElem_toArray, List.getElem_cons_zero, List.getElem_cons_succ, List.setIfInBounds_toArray, List.set_cons_zero, List.set_cons_succ])
          clear hS
          refine Kr.doneL (by kernel_rfl) ?_ _
          have k_s := S_B.c2
          have k_f := S_B.c1
          cases s0 with
          | true =>
            go_wp2_with fail
            refine (mminus_v R_m.out R_1.out (lt64 HY.out) (lt64 (Nat.lt_of_le_of_lt HLE.out HY.out)) HLE.out).mono ?_
            rintro e y105 ⟨p5, n5, c5, rfl, hr, hg⟩
            have A_5B := Lib.hid (av_nr (b := B) hr S_B.lt)
            have A_5C := Lib.hid (av_nr (b := C) hr S_C.lt)
            have A_5R := Lib.hid (av_nr (b := w.heap.size + 1 + 1) hr (World.block_lt_of_cell? _ _ k_r))
            have R_5 := Lib.hid hr.toNw
            clear hr
            replace k_m := hg.cell k_m
            replace f_r := hg.frozen k_r f_r
            replace k_r := hg.cell k_r
            replace k_l := hg.cell k_l
            replace k_s := hg.cell k_s
            replace k_f := hg.cell k_f
            replace R_m := Lib.hid (R_m.out.grow hg)
            replace R_0 := Lib.hid (R_0.out.grow hg)
            replace R_1 := Lib.hid (R_1.out.grow hg)
            replace R_2 := Lib.hid (R_2.out.grow hg)
            replace R_3 := Lib.hid (R_3.out.grow hg)
            replace R_4 := Lib.hid (R_4.out.grow hg)
            replace G := Lib.hid (G.out.trans hg)
            replace S_B := S_B.grow hg
            replace S_C := S_C.grow hg
            clear hg
            go_wp2
            refine bodyPost_ret (v := .tuple #[.agg #[.slice p5 n5 c5], .bool true]) (by simp [results, Try.results88, go_sem, k_r]) rfl ⟨p5, n5, c5, _, ?_, ?_, ?_, nw_put (a := ⟨w.heap.size + 1 + 1, 0, none⟩) R_5.out A_5R.out _, G.out.setCell (by dsimp only; omega) _⟩
            · rw [HD.out]
            · exact fun _ => HI.out
            · exact fun h => absurd HG1.out h
          | false =>
            go_wp2
            refine bodyPost_ret (v := .tuple #[.agg #[.slice p1 n1 c1], .bool true]) (by simp [results, Try.results88, go_sem, k_r]) rfl ⟨p1, n1, c1, _, ?_, ?_, ?_, nw_put (a := ⟨w.heap.size + 1 + 1, 0, none⟩) R_1.out A_1R.out _, G.out.setCell (by dsimp only; omega) _⟩
            · rw [HD.out]
            · exact fun _ => HI.out
            · exact fun h => absurd HG1.out h
        · have HG1 : Hid (Nat.gcd x y ≠ 1) := Lib.hid (by rw [← HGC.out]; exact h1)
          have HD : Hid (decide (Nat.gcd x y = 1) = false) := Lib.hid (decide_eq_false HG1.out)
          have HO2 : Hid (ord r0 1 = -1 ∨ ord r0 1 = 1) := Lib.hid ((Nat.lt_or_gt_of_ne h1).imp ord_lt ord_gt)
          clear h1 HE HGC
          rcases HO2.out with HO1 | HO1
          · have HO := Lib.hid HO1
            clear HO1
            refine Kr.startL (fun W' => W'.cell? ⟨B, 0, none⟩ = some (.slice p0 n0 c0) ∧ True) [] (by kernel_rfl) ?_
            have gd : Gr y101 y101.drew := (Gr.refl _).drew
            generalize y101.drew = d106 at gd ⊢
            replace k_m := gd.cell k_m
            replace f_r := gd.frozen k_r f_r
            replace k_r := gd.cell k_r
            replace k_l := gd.cell k_l
            replace R_m := Lib.hid (R_m.out.grow gd)
            replace R_0 := Lib.hid (R_0.out.grow gd)
            replace R_1 := Lib.hid (R_1.out.grow gd)
            replace R_2 := Lib.hid (R_2.out.grow gd)
            replace R_3 := Lib.hid (R_3.out.grow gd)
            replace G := Lib.hid (G.out.trans gd)
            replace S_B := S_B.grow gd
            replace S_C := S_C.grow gd
            clear gd
            have hS : d106.cell? ⟨B, 0, none⟩ = some (.slice p0 n0 c0) ∧ True := ⟨k_l, trivial⟩
            refine Kr.takeP (i := 0) (v := ?_) rfl (by kernel_rfl) (by kernel_rfl) (by kernel_rfl) rfl (fun _ _ _ h => h) (fun wx => ?_) (by rfl) (fun _ => hS) ?_
            rotate_left
            · (go_simp; first | done | rfl)
            (try simp only [Act.put, List.getElem_toArray, List.getElem_cons_zero, List.getElem_cons_succ, List.setIfInBounds_toArray, List.set_cons_zero, List.set_cons_succ])
            refine Kr.takeS (i := 1) (v := ?_) [3, 4, 5] rfl (by kernel_rfl) (by kernel_rfl) (by kernel_rfl) rfl (by kernel_rfl) (by kernel_rfl) (by kernel_rfl) (fun _ _ _ h => h) (fun wx hSx => ?_) (by rfl) hS ?_
            rotate_left
            · (go_simp; first | done | rfl)
            (try simp only [Act.put, List.getElem_toArray, List.getElem_cons_zero, List.getElem_cons_succ, List.setIfInBounds_toArray, List.set_cons_zero, List.set_cons_succ])
            refine Kr.readyL (rs := [2]) (by kernel_rfl) (by simp) ?_
            refine Kr.AllL.cons rfl (fun K hK => ?_) Kr.AllL.nil
            clear hS
            go_simp
            go_at_call 81
            refine (one_v _).mono ?_
            rintro e y107 ⟨p4, n4, c4, rfl, hr, hg⟩
            have A_4B := Lib.hid (av_nr (b := B) hr S_B.lt)
            have A_4C := Lib.hid (av_nr (b := C) hr S_C.lt)
            have A_4R := Lib.hid (av_nr (b := w.heap.size + 1 + 1) hr (World.block_lt_of_cell? _ _ k_r))
            have R_4 := Lib.hid hr.toNw
            clear hr
            replace k_m := hg.cell k_m
            replace f_r := hg.frozen k_r f_r
            replace k_r := hg.cell k_r
            replace k_l := hg.cell k_l
            replace R_m := Lib.hid (R_m.out.grow hg)
            replace R_0 := Lib.hid (R_0.out.grow hg)
            replace R_1 := Lib.hid (R_1.out.grow hg)
            replace R_2 := Lib.hid (R_2.out.grow hg)
            replace R_3 := Lib.hid (R_3.out.grow hg)
            replace G := Lib.hid (G.out.trans hg)
            replace S_B := S_B.grow hg
            replace S_C := S_C.grow hg
            clear hg
            have hS : y107.cell? ⟨B, 0, none⟩ = some (.slice p0 n0 c0) ∧ True := ⟨k_l, trivial⟩
            refine hK.out _ _ (fun _ => hS) ?_
            clear hK K
            (try simp only [Act.put, List.getElem_toArray, List.getElem_cons_zero, List.getElem_cons_succ, List.setIfInBounds_toArray, List.set_cons_zero, List.set_cons_succ])
            refine Kr.readyL (rs := [3]) (by kernel_rfl) (by simp) ?_
            refine Kr.AllL.cons rfl (fun K hK => ?_) Kr.AllL.nil
            clear hS
            go_simp
            go_at_call 93
            refine (Compare_v R_0.out R_4.out (lt64 HR0.out) (by first | exact Nat.lt_of_lt_of_le (by decide) (pw_mono (show 1 ≤ 64 by decide)))).mono ?_
            rintro e y108 ⟨rfl, hg⟩
            rw [HO.out]
            replace k_m := hg.cell k_m
            replace f_r := hg.frozen k_r f_r
            replace k_r := hg.cell k_r
            replace k_l := hg.cell k_l
            replace R_m := Lib.hid (R_m.out.grow hg)
            replace R_0 := Lib.hid (R_0.out.grow hg)
            replace R_1 := Lib.hid (R_1.out.grow hg)
            replace R_2 := Lib.hid (R_2.out.grow hg)
            replace R_3 := Lib.hid (R_3.out.grow hg)
            replace R_4 := Lib.hid (R_4.out.grow hg)
            replace G := Lib.hid (G.out.trans hg)
            replace S_B := S_B.grow hg
            replace S_C := S_C.grow hg
            clear hg
            have hS : y108.cell? ⟨B, 0, none⟩ = some (.slice p0 n0 c0) ∧ True := ⟨k_l, trivial⟩
            refine hK.out _ _ (fun _ => hS) ?_
            clear hK K
            (try simp only [Act.put, List.getElem_toArray, List.getElem_cons_zero, List.getElem_cons_succ, List.setIfInBounds_toArray, List.set_cons_zero, List.set_cons_succ])
            refine Kr.takeP (i := 4) (v := ?_) rfl (by kernel_rfl) (by kernel_rfl) (by kernel_rfl) rfl (fun _ _ _ h => h) (fun wx => ?_) (by rfl) (fun _ => hS) ?_
            rotate_left
            · (go_simp; first | done | rfl)
            (try simp only [Act.put, List.getElem_toArray, List.getElem_cons_zero, List.getElem_cons_succ, List.setIfInBounds_toArray, List.set_cons_zero, List.set_cons_succ])
            refine Kr.takeP (i := 5) (v := ?_) rfl (by kernel_rfl) (by kernel_rfl) (by kernel_rfl) rfl (fun _ _ _ h => h) (fun wx => ?_) (by rfl) (fun _ => hS) ?_
            rotate_left
            · (go_simp; first | done | rfl)
            (try simp only [Act.put, List.getElem_toArray, List.getElem_cons_zero, List.getElem_cons_succ, List.setIfInBounds_toArray, List.set_cons_zero, List.set_cons_succ])
            clear hS
            refine Kr.doneL (by kernel_rfl) ?_ _
            go_wp2
            refine bodyPost_ret (v := .tuple #[.agg #[.slice none 0 0], .bool false]) (by simp [results, Try.results88, go_sem, k_r]) rfl ⟨none, 0, 0, 0, ?_, ?_, ?_, (nr_nil 0 _).toNw, G.out.setCell (by dsimp only; omega) _⟩
            · rw [HD.out]
            · exact fun h => absurd h HG1.out
            · exact fun _ => rfl
          · have HO := Lib.hid HO1
            clear HO1
            refine Kr.startL (fun W' => W'.cell? ⟨B, 0, none⟩ = some (.slice p0 n0 c0) ∧ True) [] (by kernel_rfl) ?_
            have gd : Gr y101 y101.drew := (Gr.refl _).drew
            generalize y101.drew = d109 at gd ⊢
            replace k_m := gd.cell k_m
            replace f_r := gd.frozen k_r f_r
            replace k_r := gd.cell k_r
            replace k_l := gd.cell k_l
            replace R_m := Lib.hid (R_m.out.grow gd)
            replace R_0 := Lib.hid (R_0.out.grow gd)
            replace R_1 := Lib.hid (R_1.out.grow gd)
            replace R_2 := Lib.hid (R_2.out.grow gd)
            replace R_3 := Lib.hid (R_3.out.grow gd)
            replace G := Lib.hid (G.out.trans gd)
            replace S_B := S_B.grow gd
            replace S_C := S_C.grow gd
            clear gd
            have hS : d109.cell? ⟨B, 0, none⟩ = some (.slice p0 n0 c0) ∧ True := ⟨k_l, trivial⟩
            refine Kr.takeP (i := 0) (v := ?_) rfl (by kernel_rfl) (by kernel_rfl) (by kernel_rfl) rfl (fun _ _ _ h => h) (fun wx => ?_) (by rfl) (fun _ => hS) ?_
            rotate_left
            · (go_simp; first | done | rfl)
            (try simp only [Act.put, List.getElem_toArray, List.getElem_cons_zero, List.getElem_cons_succ, List.setIfInBounds_toArray, List.set_cons_zero, List.set_cons_succ])
            refine Kr.takeS (i := 1) (v := ?_) [3, 4, 5] rfl (by kernel_rfl) (by kernel_rfl) (by kernel_rfl) rfl (by kernel_rfl) (by kernel_rfl) (by kernel_rfl) (fun _ _ _ h => h) (fun wx hSx => ?_) (by rfl) hS ?_
            rotate_left
            · (go_simp; first | done | rfl)
            (try simp only [Act.put, List.getElem_toArray, List.getElem_cons_zero, List.getElem_cons_succ, List.setIfInBounds_toArray, List.set_cons_zero, List.set_cons_succ])
            refine Kr.readyL (rs := [2]) (by kernel_rfl) (by simp) ?_
            refine Kr.AllL.cons rfl (fun K hK => ?_) Kr.AllL.nil
            clear hS
            go_simp
            go_at_call 81
            refine (one_v _).mono ?_
            rintro e y110 ⟨p4, n4, c4, rfl, hr, hg⟩
            have A_4B := Lib.hid (av_nr (b := B) hr S_B.lt)
            have A_4C := Lib.hid (av_nr (b := C) hr S_C.lt)
            have A_4R := Lib.hid (av_nr (b := w.heap.size + 1 + 1) hr (World.block_lt_of_cell? _ _ k_r))
            have R_4 := Lib.hid hr.toNw
            clear hr
            replace k_m := hg.cell k_m
            replace f_r := hg.frozen k_r f_r
            replace k_r := hg.cell k_r
            replace k_l := hg.cell k_l
            replace R_m := Lib.hid (R_m.out.grow hg)
            replace R_0 := Lib.hid (R_0.out.grow hg)
            replace R_1 := Lib.hid (R_1.out.grow hg)
            replace R_2 := Lib.hid (R_2.out.grow hg)
            replace R_3 := Lib.hid (R_3.out.grow hg)
            replace G := Lib.hid (G.out.trans hg)
            replace S_B := S_B.grow hg
            replace S_C := S_C.grow hg
            clear hg
            have hS : y110.cell? ⟨B, 0, none⟩ = some (.slice p0 n0 c0) ∧ True := ⟨k_l, trivial⟩
            refine hK.out _ _ (fun _ => hS) ?_
            clear hK K
            (try simp only [Act.put, List.getElem_toArray, List.getElem_cons_zero, List.getElem_cons_succ, List.setIfInBounds_toArray, List.set_cons_zero, List.set_cons_succ])
            refine Kr.readyL (rs := [3]) (by kernel_rfl) (by simp) ?_
            refine Kr.AllL.cons rfl (fun K hK => ?_) Kr.AllL.nil
            clear hS
            go_simp
            go_at_call 93
            refine (Compare_v R_0.out R_4.out (lt64 HR0.out) (by first | exact Nat.lt_of_lt_of_le (by decide) (pw_mono (show 1 ≤ 64 by decide)))).mono ?_
            rintro e y111 ⟨rfl, hg⟩
            rw [HO.out]
            replace k_m := hg.cell k_m
            replace f_r := hg.frozen k_r f_r
            replace k_r := hg.cell k_r
            replace k_l := hg.cell k_l
            replace R_m := Lib.hid (R_m.out.grow hg)
            replace R_0 := Lib.hid (R_0.out.grow hg)
            replace R_1 := Lib.hid (R_1.out.grow hg)
            replace R_2 := Lib.hid (R_2.out.grow hg)
            replace R_3 := Lib.hid (R_3.out.grow hg)
            replace R_4 := Lib.hid (R_4.out.grow hg)
            replace G := Lib.hid (G.out.trans hg)
            replace S_B := S_B.grow hg
            replace S_C := S_C.grow hg
            clear hg
            have hS : y111.cell? ⟨B, 0, none⟩ = some (.slice p0 n0 c0) ∧ True := ⟨k_l, trivial⟩
            refine hK.out _ _ (fun _ => hS) ?_
            clear hK K
            (try simp only [Act.put, List.getElem_toArray, List.getElem_cons_zero, List.getElem_cons_succ, List.setIfInBounds_toArray, List.set_cons_zero, List.set_cons_succ])
            refine Kr.takeP (i := 4) (v := ?_) rfl (by kernel_rfl) (by kernel_rfl) (by kernel_rfl) rfl (fun _ _ _ h => h) (fun wx => ?_) (by rfl) (fun _ => hS) ?_
            rotate_left
            · (go_simp; first | done | rfl)
            (try simp only [Act.put, List.getElem_toArray, List.getElem_cons_zero, List.getElem_cons_succ, List.setIfInBounds_toArray, List.set_cons_zero, List.set_cons_succ])
            refine Kr.takeP (i := 5) (v := ?_) rfl (by kernel_rfl) (by kernel_rfl) (by kernel_rfl) rfl (fun _ _ _ h => h) (fun wx => ?_) (by rfl) (fun _ => hS) ?_
            rotate_left
            · (go_simp; first | done | rfl)
            (try simp only [Act.put, List.getElem_toArray, List.getElem_cons_zero, List.getElem_cons_succ, List.setIfInBounds_toArray, List.set_cons_zero, List.set_cons_succ])
            clear hS
            refine Kr.doneL (by kernel_rfl) ?_ _
            go_wp2
            refine bodyPost_ret (v := .tuple #[.agg #[.slice none 0 0], .bool false]) (by simp [results, Try.results88, go_sem, k_r]) rfl ⟨none, 0, 0, 0, ?_, ?_, ?_, (nr_nil 0 _).toNw, G.out.setCell (by dsimp only; omega) _⟩
            · rw [HD.out]
            · exact fun h => absurd h HG1.out
            · exact fun _ => rfl
      · have h0 : decide (r1 = 0) = false := decide_eq_false h
        rw [h0]
        have HP := Lib.hid (Nat.pos_of_ne_zero h)
        clear h h0
        have HF := Lib.hid (HE.out.fits HP.out)
        have HR0 := Lib.hid (Nat.lt_of_le_of_lt HE.out.small HY.out)
        have HR1 := Lib.hid (Nat.lt_trans HE.out.lt HR0.out)
        have k_l := S_B.c0
        go_wp2_with fail
        refine (Div_v HP.out R_0.out R_2.out (lt64 HR0.out) (lt64 HR1.out)).mono ?_
        rintro e y112 ⟨pq, pr, nq, cq, nr, cr, rfl, hr, hr2, hg⟩
        have A_dB := Lib.hid (av_nr (b := B) hr2 S_B.lt)
        have A_dC := Lib.hid (av_nr (b := C) hr2 S_C.lt)
        have A_dR := Lib.hid (av_nr (b := w.heap.size + 1 + 1) hr2 (World.block_lt_of_cell? _ _ k_r))
        have R_d := Lib.hid hr2.toNw
        clear hr2
        have A_qB := Lib.hid (av_nr (b := B) hr S_B.lt)
        have A_qC := Lib.hid (av_nr (b := C) hr S_C.lt)
        have A_qR := Lib.hid (av_nr (b := w.heap.size + 1 + 1) hr (World.block_lt_of_cell? _ _ k_r))
        have R_q := Lib.hid hr.toNw
        clear hr
        replace k_m := hg.cell k_m
        replace f_r := hg.frozen k_r f_r
        replace k_r := hg.cell k_r
        replace k_n := hg.cell k_n
        replace k_l := hg.cell k_l
        replace R_m := Lib.hid (R_m.out.grow hg)
        replace R_0 := Lib.hid (R_0.out.grow hg)
        replace R_1 := Lib.hid (R_1.out.grow hg)
        replace R_2 := Lib.hid (R_2.out.grow hg)
        replace R_3 := Lib.hid (R_3.out.grow hg)
        replace G := Lib.hid (G.out.trans hg)
        replace S_B := S_B.grow hg
        replace S_C := S_C.grow hg
        clear hg
        clear k_l
        clear k_n
        have hg : Gr y112 ((y112.alloc (.cells #[.slice pq nq cq] 24)).alloc (.cells #[.slice pr nr cr] 24)) := ((Gr.refl _).alloc _).alloc _
        have k_q : ((y112.alloc (.cells #[.slice pq nq cq] 24)).alloc (.cells #[.slice pr nr cr] 24)).cell? ⟨y112.heap.size, 0, none⟩ = some (.slice pq nq cq) := by simp [go_sem]
        have k_d : ((y112.alloc (.cells #[.slice pq nq cq] 24)).alloc (.cells #[.slice pr nr cr] 24)).cell? ⟨y112.heap.size + 1, 0, none⟩ = some (.slice pr nr cr) := by simp [go_sem]
        have NQ_B : y112.heap.size ≠ B := Nat.ne_of_gt S_B.lt
        have ND_B : y112.heap.size + 1 ≠ B := Nat.ne_of_gt (Nat.lt_succ_of_lt S_B.lt)
        have NC_qB := Lib.hid NQ_B
        have NC_dB := Lib.hid ND_B
        clear NQ_B ND_B
        have NQ_C : y112.heap.size ≠ C := Nat.ne_of_gt S_C.lt
        have ND_C : y112.heap.size + 1 ≠ C := Nat.ne_of_gt (Nat.lt_succ_of_lt S_C.lt)
        have NC_qC := Lib.hid NQ_C
        have NC_dC := Lib.hid ND_C
        clear NQ_C ND_C
        go_upto_region 4 with fail
        generalize ((y112.alloc (.cells #[.slice pq nq cq] 24)).alloc (.cells #[.slice pr nr cr] 24)) = y113 at hg k_q k_d ⊢
        obtain ⟨Bq, hBq⟩ : ∃ b, y112.heap.size = b := ⟨_, rfl⟩
        rw [hBq] at k_q k_d NC_qB NC_qC NC_dB NC_dC ⊢
        clear hBq
        replace k_m := hg.cell k_m
        replace f_r := hg.frozen k_r f_r
        replace k_r := hg.cell k_r
        replace R_m := Lib.hid (R_m.out.grow hg)
        replace R_0 := Lib.hid (R_0.out.grow hg)
        replace R_1 := Lib.hid (R_1.out.grow hg)
        replace R_2 := Lib.hid (R_2.out.grow hg)
        replace R_3 := Lib.hid (R_3.out.grow hg)
        replace R_q := Lib.hid (R_q.out.grow hg)
        replace R_d := Lib.hid (R_d.out.grow hg)
        replace G := Lib.hid (G.out.trans hg)
        replace S_B := S_B.grow hg
        replace S_C := S_C.grow hg
        clear hg
        have k_x := S_B.c1
        have k_z := S_C.c1
        have G0 := Lib.hid (Gr.refl y113)
        refine Kr.startL (fun W' => W'.cell? ⟨Bq, 0, none⟩ = some (.slice pq nq cq) ∧ W'.cell? ⟨B, 1, none⟩ = some (.slice p1 n1 c1) ∧ W'.cell? ⟨C, 1, none⟩ = some (.slice p3 n3 c3) ∧ True) [] (by kernel_rfl) ?_
        have gd : Gr y113 y113.drew := (Gr.refl _).drew
        generalize y113.drew = d114 at gd ⊢
        replace k_m := gd.cell k_m
        replace f_r := gd.frozen k_r f_r
        replace k_r := gd.cell k_r
        replace k_q := gd.cell k_q
        replace k_d := gd.cell k_d
        replace k_x := gd.cell k_x
        replace k_z := gd.cell k_z
        replace R_m := Lib.hid (R_m.out.grow gd)
        replace R_0 := Lib.hid (R_0.out.grow gd)
        replace R_1 := Lib.hid (R_1.out.grow gd)
        replace R_2 := Lib.hid (R_2.out.grow gd)
        replace R_3 := Lib.hid (R_3.out.grow gd)
        replace R_q := Lib.hid (R_q.out.grow gd)
        replace R_d := Lib.hid (R_d.out.grow gd)
        replace G := Lib.hid (G.out.trans gd)
        replace G0 := Lib.hid (G0.out.trans gd)
        replace S_B := S_B.grow gd
        replace S_C := S_C.grow gd
        clear gd
        have hS : d114.cell? ⟨Bq, 0, none⟩ = some (.slice pq nq cq) ∧ d114.cell? ⟨B, 1, none⟩ = some (.slice p1 n1 c1) ∧ d114.cell? ⟨C, 1, none⟩ = some (.slice p3 n3 c3) ∧ True := ⟨k_q, k_x, k_z, trivial⟩
        refine Kr.takeP (i := 0) (v := ?_) rfl (by kernel_rfl) (by kernel_rfl) (by kernel_rfl) rfl (fun _ _ _ h => h) (fun wx => ?_) (by rfl) (fun _ => hS) ?_
        rotate_left
        · (go_simp; first | done | rfl)
        (try simp only [Act.put, List.getElem_toArray, List.getElem_cons_zero, List.getElem_cons_succ, List.setIfInBounds_toArray, List.set_cons_zero, List.set_cons_succ])
        refine Kr.takeS (i := 1) (v := ?_) [6, 8] rfl (by kernel_rfl) (by kernel_rfl) (by kernel_rfl) rfl (by kernel_rfl) (by kernel_rfl) (by kernel_rfl) (fun _ _ _ h => h) (fun wx hSx => ?_) (by rfl) hS ?_
        rotate_left
        · (go_simp; first | done | rfl)
        (try simp only [Act.put, List.getElem_toArray, List.getElem_cons_zero, List.getElem_cons_succ, List.setIfInBounds_toArray, List.set_cons_zero, List.set_cons_succ])
        refine Kr.takeS (i := 2) (v := ?_) [5, 6, 8] rfl (by kernel_rfl) (by kernel_rfl) (by kernel_rfl) rfl (by kernel_rfl) (by kernel_rfl) (by kernel_rfl) (fun _ _ _ h => h) (fun wx hSx => ?_) (by rfl) hS ?_
        rotate_left
        · (go_simp; first | done | rfl)
        (try simp only [Act.put, List.getElem_toArray, List.getElem_cons_zero, List.getElem_cons_succ, List.setIfInBounds_toArray, List.set_cons_zero, List.set_cons_succ])
        refine Kr.takeP (i := 3) (v := ?_) rfl (by kernel_rfl) (by kernel_rfl) (by kernel_rfl) rfl (fun _ _ _ h => h) (fun wx => ?_) (by rfl) (fun _ => hS) ?_
        rotate_left
        · (go_simp; first | done | rfl)
        (try simp only [Act.put, List.getElem_toArray, List.getElem_cons_zero, List.getElem_cons_succ, List.setIfInBounds_toArray, List.set_cons_zero, List.set_cons_succ])
        refine Kr.takeS (i := 4) (v := ?_) [5, 6, 8] rfl (by kernel_rfl) (by kernel_rfl) (by kernel_rfl) rfl (by kernel_rfl) (by kernel_rfl) (by kernel_rfl) (fun _ _ _ h => h) (fun wx hSx => ?_) (by rfl) hS ?_
        rotate_left
        · (go_simp; first | done | rfl)
        (try simp only [Act.put, List.getElem_toArray, List.getElem_cons_zero, List.getElem_cons_succ, List.setIfInBounds_toArray, List.set_cons_zero, List.set_cons_succ])
        refine Kr.readyL (rs := [5, 7]) (by kernel_rfl) (by simp) ?_
        refine Kr.AllL.cons rfl (fun K hK => ?_) ?_
        · clear hS
          go_simp
          go_at_call 79
          refine (mtimes_v R_q.out R_3.out (lt64 (Nat.lt_of_le_of_lt (Nat.div_le_self r0 r1) HR0.out)) (lt64 (Nat.lt_of_le_of_lt HF.out.1 HY.out)) (lt64 (Nat.lt_of_le_of_lt HF.out.2.1 HY.out))).mono ?_
          rintro e y115 ⟨p6, n6, c6, rfl, hr, hg⟩
          have A_6B := Lib.hid (av_nr (b := B) hr S_B.lt)
          have A_6C := Lib.hid (av_nr (b := C) hr S_C.lt)
          have A_6R := Lib.hid (av_nr (b := w.heap.size + 1 + 1) hr (World.block_lt_of_cell? _ _ k_r))
          have R_6 := Lib.hid hr.toNw
          clear hr
          replace k_m := hg.cell k_m
          replace f_r := hg.frozen k_r f_r
          replace k_r := hg.cell k_r
          replace k_q := hg.cell k_q
          replace k_d := hg.cell k_d
          replace k_x := hg.cell k_x
          replace k_z := hg.cell k_z
          replace R_m := Lib.hid (R_m.out.grow hg)
          replace R_0 := Lib.hid (R_0.out.grow hg)
          replace R_1 := Lib.hid (R_1.out.grow hg)
          replace R_2 := Lib.hid (R_2.out.grow hg)
          replace R_3 := Lib.hid (R_3.out.grow hg)
          replace R_q := Lib.hid (R_q.out.grow hg)
          replace R_d := Lib.hid (R_d.out.grow hg)
          replace G := Lib.hid (G.out.trans hg)
          replace G0 := Lib.hid (G0.out.trans hg)
          replace S_B := S_B.grow hg
          replace S_C := S_C.grow hg
          clear hg
          have hS : y115.cell? ⟨Bq, 0, none⟩ = some (.slice pq nq cq) ∧ y115.cell? ⟨B, 1, none⟩ = some (.slice p1 n1 c1) ∧ y115.cell? ⟨C, 1, none⟩ = some (.slice p3 n3 c3) ∧ True := ⟨k_q, k_x, k_z, trivial⟩
          refine hK.out _ _ (fun _ => hS) ?_
          clear hK K
          (try simp only [Act.put, List.getElem_toArray, List.getElem_cons_zero, List.getElem_cons_succ, List.setIfInBounds_toArray, List.set_cons_zero, List.set_cons_succ])
          refine Kr.readyL (rs := [6, 7]) (by kernel_rfl) (by simp) ?_
          refine Kr.AllL.cons rfl (fun K hK => ?_) ?_
          · clear hS
            go_simp
            go_at_call 72
            refine (mplus_v R_1.out R_6.out (lt64 (Nat.lt_of_le_of_lt HE.out.le0 HY.out)) (lt64 (Nat.lt_of_le_of_lt HF.out.2.1 HY.out)) (lt64 (Nat.lt_of_le_of_lt HF.out.2.2 HY.out))).mono ?_
            rintro e y116 ⟨p7, n7, c7, rfl, hr, hg⟩
            have A_7B := Lib.hid (av_nr (b := B) hr S_B.lt)
            have A_7C := Lib.hid (av_nr (b := C) hr S_C.lt)
            have A_7R := Lib.hid (av_nr (b := w.heap.size + 1 + 1) hr (World.block_lt_of_cell? _ _ k_r))
            have R_7 := Lib.hid hr.toNw
            clear hr
            replace k_m := hg.cell k_m
            replace f_r := hg.frozen k_r f_r
            replace k_r := hg.cell k_r
            replace k_q := hg.cell k_q
            replace k_d := hg.cell k_d
            replace k_x := hg.cell k_x
            replace k_z := hg.cell k_z
            replace R_m := Lib.hid (R_m.out.grow hg)
            replace R_0 := Lib.hid (R_0.out.grow hg)
            replace R_1 := Lib.hid (R_1.out.grow hg)
            replace R_2 := Lib.hid (R_2.out.grow hg)
            replace R_3 := Lib.hid (R_3.out.grow hg)
            replace R_q := Lib.hid (R_q.out.grow hg)
            replace R_d := Lib.hid (R_d.out.grow hg)
            replace R_6 := Lib.hid (R_6.out.grow hg)
            replace G := Lib.hid (G.out.trans hg)
            replace G0 := Lib.hid (G0.out.trans hg)
            replace S_B := S_B.grow hg
            replace S_C := S_C.grow hg
            clear hg
            have hS : y116.cell? ⟨Bq, 0, none⟩ = some (.slice pq nq cq) ∧ y116.cell? ⟨B, 1, none⟩ = some (.slice p1 n1 c1) ∧ y116.cell? ⟨C, 1, none⟩ = some (.slice p3 n3 c3) ∧ True := ⟨k_q, k_x, k_z, trivial⟩
            refine hK.out _ _ (fun _ => hS) ?_
            clear hK K
            (try simp only [Act.put, List.getElem_toArray, List.getElem_cons_zero, List.getElem_cons_succ, List.setIfInBounds_toArray, List.set_cons_zero, List.set_cons_succ])
            refine Kr.readyL (rs := [7]) (by kernel_rfl) (by simp) ?_
            refine Kr.AllL.cons rfl (fun K hK => ?_) Kr.AllL.nil
            clear hS
            go_simp
            obtain ⟨y118, hy⟩ : ∃ y, y116.alloc (.cells #[.slice none 0 0] 24) = y := ⟨_, rfl⟩
            obtain ⟨F, hF⟩ : ∃ B, y116.heap.size = B := ⟨_, rfl⟩
            rw [hy, hF]
            have hg : Gr y116 y118 := by rw [← hy]; exact (Gr.refl _).alloc _
            have L_F : Hid (w.heap.size + 3 ≤ F ∧ y113.heap.size ≤ F) := Lib.hid ⟨by have := World.block_lt_of_cell? _ _ k_r; dsimp only at this; omega, hF ▸ G0.out.le⟩
            have N_BF : Hid (B ≠ F) := Lib.hid (Nat.ne_of_lt (show B < F from hF ▸ S_B.lt))
            have N_CF : Hid (C ≠ F) := Lib.hid (Nat.ne_of_lt (show C < F from hF ▸ S_C.lt))
            have A_mF := Lib.hid (av_new (b := F) R_m.out (Nat.le_of_eq hF))
            have A_0F := Lib.hid (av_new (b := F) R_0.out (Nat.le_of_eq hF))
            have A_1F := Lib.hid (av_new (b := F) R_1.out (Nat.le_of_eq hF))
            have A_2F := Lib.hid (av_new (b := F) R_2.out (Nat.le_of_eq hF))
            have A_3F := Lib.hid (av_new (b := F) R_3.out (Nat.le_of_eq hF))
            have A_qF := Lib.hid (av_new (b := F) R_q.out (Nat.le_of_eq hF))
            have A_dF := Lib.hid (av_new (b := F) R_d.out (Nat.le_of_eq hF))
            have A_6F := Lib.hid (av_new (b := F) R_6.out (Nat.le_of_eq hF))
            have A_7F := Lib.hid (av_new (b := F) R_7.out (Nat.le_of_eq hF))
            have NC_mF : Hid (w.heap.size + 1 ≠ F) := Lib.hid (Nat.ne_of_lt (hF ▸ World.block_lt_of_cell? _ _ k_m : w.heap.size + 1 < F))
            have NC_rF : Hid (w.heap.size + 1 + 1 ≠ F) := Lib.hid (Nat.ne_of_lt (hF ▸ World.block_lt_of_cell? _ _ k_r : w.heap.size + 1 + 1 < F))
            have NC_qF : Hid (Bq ≠ F) := Lib.hid (Nat.ne_of_lt (hF ▸ World.block_lt_of_cell? _ _ k_q : Bq < F))
            have NC_dF : Hid (Bq + 1 ≠ F) := Lib.hid (Nat.ne_of_lt (hF ▸ World.block_lt_of_cell? _ _ k_d : Bq + 1 < F))
            have NC_xF : Hid (B ≠ F) := Lib.hid (Nat.ne_of_lt (hF ▸ World.block_lt_of_cell? _ _ k_x : B < F))
            have NC_zF : Hid (C ≠ F) := Lib.hid (Nat.ne_of_lt (hF ▸ World.block_lt_of_cell? _ _ k_z : C < F))
            replace k_m := hg.cell k_m
            replace f_r := hg.frozen k_r f_r
            replace k_r := hg.cell k_r
            replace k_q := hg.cell k_q
            replace k_d := hg.cell k_d
            replace k_x := hg.cell k_x
            replace k_z := hg.cell k_z
            replace R_m := Lib.hid (R_m.out.grow hg)
            replace R_0 := Lib.hid (R_0.out.grow hg)
            replace R_1 := Lib.hid (R_1.out.grow hg)
            replace R_2 := Lib.hid (R_2.out.grow hg)
            replace R_3 := Lib.hid (R_3.out.grow hg)
            replace R_q := Lib.hid (R_q.out.grow hg)
            replace R_d := Lib.hid (R_d.out.grow hg)
            replace R_6 := Lib.hid (R_6.out.grow hg)
            replace R_7 := Lib.hid (R_7.out.grow hg)
            replace G := Lib.hid (G.out.trans hg)
            replace G0 := Lib.hid (G0.out.trans hg)
            replace S_B := S_B.grow hg
            replace S_C := S_C.grow hg
            clear hg
            have k_F : y118.cell? ⟨F, 0, none⟩ = some (.slice none 0 0) := by rw [← hy, ← hF]; simp [go_sem]
            have f_F : y118.frozen? ⟨F, 0, none⟩ = false := by rw [← hy, ← hF]; simp [go_sem]
            clear hy hF
            have hS : y118.cell? ⟨Bq, 0, none⟩ = some (.slice pq nq cq) ∧ y118.cell? ⟨B, 1, none⟩ = some (.slice p1 n1 c1) ∧ y118.cell? ⟨C, 1, none⟩ = some (.slice p3 n3 c3) ∧ True := ⟨k_q, k_x, k_z, trivial⟩
            refine hK.out _ _ (fun _ => hS) ?_
            clear hK K
            (try simp only [Act.put, List.getElem_toArray, List.getElem_cons_zero, List.getElem_cons_succ, List.setIfInBounds_toArray, List.set_cons_zero, List.set_cons_succ])
            refine Kr.readyL (rs := [8]) (by kernel_rfl) (by simp) ?_
            refine Kr.AllL.cons rfl (fun K hK => ?_) Kr.AllL.nil
            clear hS
            go_simp
            obtain ⟨y120, hy⟩ : ∃ y, y118.setCell ⟨F, 0, none⟩ (.slice p7 n7 c7) = y := ⟨_, rfl⟩
            rw [hy]
            have ho : Off F y118 y120 := by rw [← hy]; exact (Off.refl _ _).set _ _
            have k2 : y120.cell? ⟨F, 0, none⟩ = some (.slice p7 n7 c7) := by rw [← hy]; exact setCell_at k_F
            have f2 := ho.frz _ f_F
            clear hy k_F f_F
            replace S_B := S_B.off ho N_BF.out
            replace S_C := S_C.off ho N_CF.out
            replace k_m := ho.cell _ _ (show w.heap.size + 1 ≠ F from NC_mF.out) k_m
            replace f_r := ho.frz _ f_r
            replace k_r := ho.cell _ _ (show w.heap.size + 1 + 1 ≠ F from NC_rF.out) k_r
            replace k_q := ho.cell _ _ (show Bq ≠ F from NC_qF.out) k_q
            replace k_d := ho.cell _ _ (show Bq + 1 ≠ F from NC_dF.out) k_d
            replace k_x := ho.cell _ _ (show B ≠ F from NC_xF.out) k_x
            replace k_z := ho.cell _ _ (show C ≠ F from NC_zF.out) k_z
            replace R_m := Lib.hid (ho.nw _ _ _ _ A_mF.out R_m.out)
            replace R_0 := Lib.hid (ho.nw _ _ _ _ A_0F.out R_0.out)
            replace R_1 := Lib.hid (ho.nw _ _ _ _ A_1F.out R_1.out)
            replace R_2 := Lib.hid (ho.nw _ _ _ _ A_2F.out R_2.out)
            replace R_3 := Lib.hid (ho.nw _ _ _ _ A_3F.out R_3.out)
            replace R_q := Lib.hid (ho.nw _ _ _ _ A_qF.out R_q.out)
            replace R_d := Lib.hid (ho.nw _ _ _ _ A_dF.out R_d.out)
            replace R_6 := Lib.hid (ho.nw _ _ _ _ A_6F.out R_6.out)
            replace R_7 := Lib.hid (ho.nw _ _ _ _ A_7F.out R_7.out)
            replace G := Lib.hid (ho.gr _ (by have := L_F.out; have := E0.out; omega) G.out)
            replace G0 := Lib.hid (ho.gr _ (by have := L_F.out; have := E0.out; omega) G0.out)
            clear ho
            have k_F := k2
            have f_F := f2
            clear k2 f2
            have hS : y120.cell? ⟨Bq, 0, none⟩ = some (.slice pq nq cq) ∧ y120.cell? ⟨B, 1, none⟩ = some (.slice p1 n1 c1) ∧ y120.cell? ⟨C, 1, none⟩ = some (.slice p3 n3 c3) ∧ True := ⟨k_q, k_x, k_z, trivial⟩
            refine hK.out _ _ (fun _ => hS) ?_
            clear hK K
            (try simp only [Act.put, List.getElem_toArray, List.getElem_cons_zero, List.getElem_cons_succ, List.setIfInBounds_toArray, List.set_cons_zero, List.set_cons_succ])
            clear hS
            refine Kr.doneL (by kernel_rfl) ?_ _
            clear k_x
            clear k_z
            clear k_q
            clear R_q
            go_upto_region 5 with fail
            have k_n0 := S_C.c0
            have k_n1 := S_C.c1
            have k_n2 := S_C.c2
            have NC_FB := N_BF.out.symm
            have NC_FC := N_CF.out.symm
            replace NC_FB := Lib.hid NC_FB
            replace NC_FC := Lib.hid NC_FC
            clear G0
            refine Kr.startL (fun W' => W'.cell? ⟨C, 0, none⟩ = some (.slice p2 n2 c2) ∧ W'.cell? ⟨C, 1, none⟩ = some (.slice p3 n3 c3) ∧ W'.cell? ⟨C, 2, none⟩ = some (.bool s1) ∧ W'.cell? ⟨Bq + 1, 0, none⟩ = some (.slice pr nr cr) ∧ W'.cell? ⟨F, 0, none⟩ = some (.slice p7 n7 c7) ∧ True) [8] (by kernel_rfl) ?_
            have gd : Gr y120 y120.drew := (Gr.refl _).drew
            generalize y120.drew = d121 at gd ⊢
            replace k_m := gd.cell k_m
            replace f_r := gd.frozen k_r f_r
            replace k_r := gd.cell k_r
            replace k_d := gd.cell k_d
            replace f_F := gd.frozen k_F f_F
            replace k_F := gd.cell k_F
            replace k_n0 := gd.cell k_n0
            replace k_n1 := gd.cell k_n1
            replace k_n2 := gd.cell k_n2
            replace R_m := Lib.hid (R_m.out.grow gd)
            replace R_0 := Lib.hid (R_0.out.grow gd)
            replace R_1 := Lib.hid (R_1.out.grow gd)
            replace R_2 := Lib.hid (R_2.out.grow gd)
            replace R_3 := Lib.hid (R_3.out.grow gd)
            replace R_d := Lib.hid (R_d.out.grow gd)
            replace R_6 := Lib.hid (R_6.out.grow gd)
            replace R_7 := Lib.hid (R_7.out.grow gd)
            replace G := Lib.hid (G.out.trans gd)
            replace S_B := S_B.grow gd
            replace S_C := S_C.grow gd
            clear gd
            have hS : d121.cell? ⟨C, 0, none⟩ = some (.slice p2 n2 c2) ∧ d121.cell? ⟨C, 1, none⟩ = some (.slice p3 n3 c3) ∧ d121.cell? ⟨C, 2, none⟩ = some (.bool s1) ∧ d121.cell? ⟨Bq + 1, 0, none⟩ = some (.slice pr nr cr) ∧ d121.cell? ⟨F, 0, none⟩ = some (.slice p7 n7 c7) ∧ True := ⟨k_n0, k_n1, k_n2, k_d, k_F, trivial⟩
            refine Kr.takeS (i := 0) (v := ?_) [7, 8] rfl (by kernel_rfl) (by kernel_rfl) (by kernel_rfl) rfl (by kernel_rfl) (by kernel_rfl) (by kernel_rfl) (fun _ _ _ h => h) (fun wx hSx => ?_) (by rfl) hS ?_
            rotate_left
            · (go_simp; first | done | rfl)
            (try simp only [Act.put, List.getElem_toArray, List.getElem_cons_zero, List.getElem_cons_succ, List.setIfInBounds_toArray, List.set_cons_zero, List.set_cons_succ])
            refine Kr.takeS (i := 1) (v := ?_) [6, 8] rfl (by kernel_rfl) (by kernel_rfl) (by kernel_rfl) rfl (by kernel_rfl) (by kernel_rfl) (by kernel_rfl) (fun _ _ _ h => h) (fun wx hSx => ?_) (by rfl) hS ?_
            rotate_left
            · (go_simp; first | done | rfl)
            (try simp only [Act.put, List.getElem_toArray, List.getElem_cons_zero, List.getElem_cons_succ, List.setIfInBounds_toArray, List.set_cons_zero, List.set_cons_succ])
            refine Kr.takeS (i := 2) (v := ?_) [6, 8] rfl (by kernel_rfl) (by kernel_rfl) (by kernel_rfl) rfl (by kernel_rfl) (by kernel_rfl) (by kernel_rfl) (fun _ _ _ h => h) (fun wx hSx => ?_) (by rfl) hS ?_
            rotate_left
            · (go_simp; first | done | rfl)
            (try simp only [Act.put, List.getElem_toArray, List.getElem_cons_zero, List.getElem_cons_succ, List.setIfInBounds_toArray, List.set_cons_zero, List.set_cons_succ])
            refine Kr.takeP (i := 3) (v := ?_) rfl (by kernel_rfl) (by kernel_rfl) (by kernel_rfl) rfl (fun _ _ _ h => h) (fun wx => ?_) (by rfl) (fun _ => hS) ?_
            rotate_left
            · (go_simp; first | done | rfl)
            (try simp only [Act.put, List.getElem_toArray, List.getElem_cons_zero, List.getElem_cons_succ, List.setIfInBounds_toArray, List.set_cons_zero, List.set_cons_succ])
            refine Kr.takeS (i := 4) (v := ?_) [5, 6, 8] rfl (by kernel_rfl) (by kernel_rfl) (by kernel_rfl) rfl (by kernel_rfl) (by kernel_rfl) (by kernel_rfl) (fun _ _ _ h => h) (fun wx hSx => ?_) (by rfl) hS ?_
            rotate_left
            · (go_simp; first | done | rfl)
            (try simp only [Act.put, List.getElem_toArray, List.getElem_cons_zero, List.getElem_cons_succ, List.setIfInBounds_toArray, List.set_cons_zero, List.set_cons_succ])
            refine Kr.takeP (i := 5) (v := ?_) rfl (by kernel_rfl) (by kernel_rfl) (by kernel_rfl) rfl (fun _ _ _ h => h) (fun wx => ?_) (by rfl) (fun _ => hS) ?_
            rotate_left
            · (go_simp; first | done | rfl)
            (try simp only [Act.put, List.getElem_toArray, List.getElem_cons_zero, List.getElem_cons_succ, List.setIfInBounds_toArray, List.set_cons_zero, List.set_cons_succ])
            refine Kr.takeP (i := 6) (v := ?_) rfl (by kernel_rfl) (by kernel_rfl) (by kernel_rfl) rfl (fun _ _ _ h => h) (fun wx => ?_) (by rfl) (fun _ => hS) ?_
            rotate_left
            · (go_simp; first | done | rfl)
            (try simp only [Act.put, List.getElem_toArray, List.getElem_cons_zero, List.getElem_cons_succ, List.setIfInBounds_toArray, List.set_cons_zero, List.set_cons_succ])
            refine Kr.readyL (rs := [7]) (by kernel_rfl) (by simp) ?_
            refine Kr.AllL.cons rfl (fun K hK => ?_) Kr.AllL.nil
            clear hS
            go_simp
            have c0 := S_B.c0; have c1 := S_B.c1; have c2 := S_B.c2; have f0 := S_B.f0; have f1 := S_B.f1; have f2 := S_B.f2
            go_simp
            clear c0 c1 c2 f0 f1 f2
            obtain ⟨y122, hy⟩ : ∃ y, ((d121.setCell ⟨B, 0, none⟩ (.slice p2 n2 c2)).setCell ⟨B, 1, none⟩ (.slice p3 n3 c3)).setCell ⟨B, 2, none⟩ (.bool s1) = y := ⟨_, rfl⟩
            rw [hy]
            have ho : Off B d121 y122 := by rw [← hy]; exact (((Off.refl _ _).set _ _).set _ _).set _ _
            replace S_B : Stp y122 B (.slice p2 n2 c2) (.slice p3 n3 c3) (.bool s1) := by rw [← hy]; exact S_B.put _ _ _
            clear hy
            replace S_C := S_C.off ho N_BC.out.symm
            replace k_m := ho.cell _ _ (show w.heap.size + 1 ≠ B from by have := L_B.out; have := E0.out; omega) k_m
            replace f_r := ho.frz _ f_r
            replace k_r := ho.cell _ _ (show w.heap.size + 1 + 1 ≠ B from by have := L_B.out; have := E0.out; omega) k_r
            replace k_d := ho.cell _ _ (show Bq + 1 ≠ B from NC_dB.out) k_d
            replace f_F := ho.frz _ f_F
            replace k_F := ho.cell _ _ (show F ≠ B from N_BF.out.symm) k_F
            replace k_n0 := ho.cell _ _ (show C ≠ B from N_BC.out.symm) k_n0
            replace k_n1 := ho.cell _ _ (show C ≠ B from N_BC.out.symm) k_n1
            replace k_n2 := ho.cell _ _ (show C ≠ B from N_BC.out.symm) k_n2
            replace R_m := Lib.hid (ho.nw _ _ _ _ A_mB.out R_m.out)
            replace R_0 := Lib.hid (ho.nw _ _ _ _ A_0B.out R_0.out)
            replace R_1 := Lib.hid (ho.nw _ _ _ _ A_1B.out R_1.out)
            replace R_2 := Lib.hid (ho.nw _ _ _ _ A_2B.out R_2.out)
            replace R_3 := Lib.hid (ho.nw _ _ _ _ A_3B.out R_3.out)
            replace R_d := Lib.hid (ho.nw _ _ _ _ A_dB.out R_d.out)
            replace R_6 := Lib.hid (ho.nw _ _ _ _ A_6B.out R_6.out)
            replace R_7 := Lib.hid (ho.nw _ _ _ _ A_7B.out R_7.out)
            replace G := Lib.hid (ho.gr _ (by have := L_B.out; have := E0.out; omega) G.out)
            clear ho
            have hS : y122.cell? ⟨C, 0, none⟩ = some (.slice p2 n2 c2) ∧ y122.cell? ⟨C, 1, none⟩ = some (.slice p3 n3 c3) ∧ y122.cell? ⟨C, 2, none⟩ = some (.bool s1) ∧ y122.cell? ⟨Bq + 1, 0, none⟩ = some (.slice pr nr cr) ∧ y122.cell? ⟨F, 0, none⟩ = some (.slice p7 n7 c7) ∧ True := ⟨k_n0, k_n1, k_n2, k_d, k_F, trivial⟩
            refine hK.out _ _ (fun _ => hS) ?_
            clear hK K
            (try simp only [Act.put, List.getElem_toArray, List.getElem_cons_zero, List.getElem_cons_succ, List.setIfInBounds_toArray, List.set_cons_zero, List.set_cons_succ])
            refine Kr.readyL (rs := [8]) (by kernel_rfl) (by simp) ?_
            refine Kr.AllL.cons rfl (fun K hK => ?_) Kr.AllL.nil
            clear hS
            go_simp
            have c0 := S_C.c0; have c1 := S_C.c1; have c2 := S_C.c2; have f0 := S_C.f0; have f1 := S_C.f1; have f2 := S_C.f2
            go_simp
            clear c0 c1 c2 f0 f1 f2
            obtain ⟨y123, hy⟩ : ∃ y, ((y122.setCell ⟨C, 0, none⟩ (.slice pr nr cr)).setCell ⟨C, 1, none⟩ (.slice p7 n7 c7)).setCell ⟨C, 2, none⟩ (.bool (!s1)) = y := ⟨_, rfl⟩
            rw [hy]
            have ho : Off C y122 y123 := by rw [← hy]; exact (((Off.refl _ _).set _ _).set _ _).set _ _
            replace S_C : Stp y123 C (.slice pr nr cr) (.slice p7 n7 c7) (.bool (!s1)) := by rw [← hy]; exact S_C.put _ _ _
            clear hy
            clear k_n0
            clear k_n1
            clear k_n2
            replace S_B := S_B.off ho N_BC.out
            replace k_m := ho.cell _ _ (show w.heap.size + 1 ≠ C from by have := L_C.out; have := E0.out; omega) k_m
            replace f_r := ho.frz _ f_r
            replace k_r := ho.cell _ _ (show w.heap.size + 1 + 1 ≠ C from by have := L_C.out; have := E0.out; omega) k_r
            replace k_d := ho.cell _ _ (show Bq + 1 ≠ C from NC_dC.out) k_d
            replace f_F := ho.frz _ f_F
            replace k_F := ho.cell _ _ (show F ≠ C from N_CF.out.symm) k_F
            replace R_m := Lib.hid (ho.nw _ _ _ _ A_mC.out R_m.out)
            replace R_0 := Lib.hid (ho.nw _ _ _ _ A_0C.out R_0.out)
            replace R_1 := Lib.hid (ho.nw _ _ _ _ A_1C.out R_1.out)
            replace R_2 := Lib.hid (ho.nw _ _ _ _ A_2C.out R_2.out)
            replace R_3 := Lib.hid (ho.nw _ _ _ _ A_3C.out R_3.out)
            replace R_d := Lib.hid (ho.nw _ _ _ _ A_dC.out R_d.out)
            replace R_6 := Lib.hid (ho.nw _ _ _ _ A_6C.out R_6.out)
            replace R_7 := Lib.hid (ho.nw _ _ _ _ A_7C.out R_7.out)
            replace G := Lib.hid (ho.gr _ (by have := L_C.out; have := E0.out; omega) G.out)
            clear ho
            refine hK.out _ _ (Kr.noStill (by kernel_rfl)) ?_
            clear hK K
            (try simp only [Act.put, List.getElem_toArray, List.getElem_cons_zero, List.getElem_cons_succ, List.setIfInBounds_toArray, List.set_cons_zero, List.set_cons_succ])
            refine Kr.doneL (by kernel_rfl) ?_ _
            go_wp2
            go_roundw
            case rel => exact ⟨_, _, _, _, _, _, _, _, _, _, _, _, _, _, _, _, _, _, Lib.hid ⟨G.out, k_m, k_r, f_r, R_m.out, N_BC.out, L_B.out, L_C.out, A_mB.out, A_mC.out, S_B, S_C, R_2.out, R_3.out, R_d.out, R_7.out, A_2B.out, A_2C.out, A_3B.out, A_3C.out, A_dB.out, A_dC.out, A_7B.out, A_7C.out, A_3R.out, A_7R.out, HE.out.step HP.out⟩⟩
            case measure => rw [HMe.out, numAt_eq S_C.c0 R_d.out, val_digs]; exact Nat.mod_lt _ HP.out
          refine Kr.AllL.cons rfl (fun K hK => ?_) Kr.AllL.nil
          clear hS
          go_simp
          obtain ⟨y125, hy⟩ : ∃ y, y115.alloc (.cells #[.slice none 0 0] 24) = y := ⟨_, rfl⟩
          obtain ⟨F, hF⟩ : ∃ B, y115.heap.size = B := ⟨_, rfl⟩
          rw [hy, hF]
          have hg : Gr y115 y125 := by rw [← hy]; exact (Gr.refl _).alloc _
          have L_F : Hid (w.heap.size + 3 ≤ F ∧ y113.heap.size ≤ F) := Lib.hid ⟨by have := World.block_lt_of_cell? _ _ k_r; dsimp only at this; omega, hF ▸ G0.out.le⟩
          have N_BF : Hid (B ≠ F) := Lib.hid (Nat.ne_of_lt (show B < F from hF ▸ S_B.lt))
          have N_CF : Hid (C ≠ F) := Lib.hid (Nat.ne_of_lt (show C < F from hF ▸ S_C.lt))
          have A_mF := Lib.hid (av_new (b := F) R_m.out (Nat.le_of_eq hF))
          have A_0F := Lib.hid (av_new (b := F) R_0.out (Nat.le_of_eq hF))
          have A_1F := Lib.hid (av_new (b := F) R_1.out (Nat.le_of_eq hF))
          have A_2F := Lib.hid (av_new (b := F) R_2.out (Nat.le_of_eq hF))
          have A_3F := Lib.hid (av_new (b := F) R_3.out (Nat.le_of_eq hF))
          have A_qF := Lib.hid (av_new (b := F) R_q.out (Nat.le_of_eq hF))
          have A_dF := Lib.hid (av_new (b := F) R_d.out (Nat.le_of_eq hF))
          have A_6F := Lib.hid (av_new (b := F) R_6.out (Nat.le_of_eq hF))
          have NC_mF : Hid (w.heap.size + 1 ≠ F) := Lib.hid (Nat.ne_of_lt (hF ▸ World.block_lt_of_cell? _ _ k_m : w.heap.size + 1 < F))
          have NC_rF : Hid (w.heap.size + 1 + 1 ≠ F) := Lib.hid (Nat.ne_of_lt (hF ▸ World.block_lt_of_cell? _ _ k_r : w.heap.size + 1 + 1 < F))
          have NC_qF : Hid (Bq ≠ F) := Lib.hid (Nat.ne_of_lt (hF ▸ World.block_lt_of_cell? _ _ k_q : Bq < F))
          have NC_dF : Hid (Bq + 1 ≠ F) := Lib.hid (Nat.ne_of_lt (hF ▸ World.block_lt_of_cell? _ _ k_d : Bq + 1 < F))
          have NC_xF : Hid (B ≠ F) := Lib.hid (Nat.ne_of_lt (hF ▸ World.block_lt_of_cell? _ _ k_x : B < F))
          have NC_zF : Hid (C ≠ F) := Lib.hid (Nat.ne_of_lt (hF ▸ World.block_lt_of_cell? _ _ k_z : C < F))
          replace k_m := hg.cell k_m
          replace f_r := hg.frozen k_r f_r
          replace k_r := hg.cell k_r
          replace k_q := hg.cell k_q
          replace k_d := hg.cell k_d
          replace k_x := hg.cell k_x
          replace k_z := hg.cell k_z
          replace R_m := Lib.hid (R_m.out.grow hg)
          replace R_0 := Lib.hid (R_0.out.grow hg)
          replace R_1 := Lib.hid (R_1.out.grow hg)
          replace R_2 := Lib.hid (R_2.out.grow hg)
          replace R_3 := Lib.hid (R_3.out.grow hg)
          replace R_q := Lib.hid (R_q.out.grow hg)
          replace R_d := Lib.hid (R_d.out.grow hg)
          replace R_6 := Lib.hid (R_6.out.grow hg)
          replace G := Lib.hid (G.out.trans hg)
          replace G0 := Lib.hid (G0.out.trans hg)
          replace S_B := S_B.grow hg
          replace S_C := S_C.grow hg
          clear hg
          have k_F : y125.cell? ⟨F, 0, none⟩ = some (.slice none 0 0) := by rw [← hy, ← hF]; simp [go_sem]
          have f_F : y125.frozen? ⟨F, 0, none⟩ = false := by rw [← hy, ← hF]; simp [go_sem]
          clear hy hF
          have hS : y125.cell? ⟨Bq, 0, none⟩ = some (.slice pq nq cq) ∧ y125.cell? ⟨B, 1, none⟩ = some (.slice p1 n1 c1) ∧ y125.cell? ⟨C, 1, none⟩ = some (.slice p3 n3 c3) ∧ True := ⟨k_q, k_x, k_z, trivial⟩
          refine hK.out _ _ (fun _ => hS) ?_
          clear hK K
          (try simp only [Act.put, List.getElem_toArray, List.getElem_cons_zero, List.getElem_cons_succ, List.setIfInBounds_toArray, List.set_cons_zero, List.set_cons_succ])
          refine Kr.readyL (rs := [6]) (by kernel_rfl) (by simp) ?_
          refine Kr.AllL.cons rfl (fun K hK => ?_) Kr.AllL.nil
          clear hS
          go_simp
          go_at_call 72
          refine (mplus_v R_1.out R_6.out (lt64 (Nat.lt_of_le_of_lt HE.out.le0 HY.out)) (lt64 (Nat.lt_of_le_of_lt HF.out.2.1 HY.out)) (lt64 (Nat.lt_of_le_of_lt HF.out.2.2 HY.out))).mono ?_
          rintro e y126 ⟨p7, n7, c7, rfl, hr, hg⟩
          have A_7B := Lib.hid (av_nr (b := B) hr S_B.lt)
          have A_7C := Lib.hid (av_nr (b := C) hr S_C.lt)
          have A_7R := Lib.hid (av_nr (b := w.heap.size + 1 + 1) hr (World.block_lt_of_cell? _ _ k_r))
          have A_7F := Lib.hid (av_nr (b := F) hr (World.block_lt_of_cell? _ _ k_F))
          have R_7 := Lib.hid hr.toNw
          clear hr
          replace k_m := hg.cell k_m
          replace f_r := hg.frozen k_r f_r
          replace k_r := hg.cell k_r
          replace k_q := hg.cell k_q
          replace k_d := hg.cell k_d
          replace k_x := hg.cell k_x
          replace k_z := hg.cell k_z
          replace f_F := hg.frozen k_F f_F
          replace k_F := hg.cell k_F
          replace R_m := Lib.hid (R_m.out.grow hg)
          replace R_0 := Lib.hid (R_0.out.grow hg)
          replace R_1 := Lib.hid (R_1.out.grow hg)
          replace R_2 := Lib.hid (R_2.out.grow hg)
          replace R_3 := Lib.hid (R_3.out.grow hg)
          replace R_q := Lib.hid (R_q.out.grow hg)
          replace R_d := Lib.hid (R_d.out.grow hg)
          replace R_6 := Lib.hid (R_6.out.grow hg)
          replace G := Lib.hid (G.out.trans hg)
          replace G0 := Lib.hid (G0.out.trans hg)
          replace S_B := S_B.grow hg
          replace S_C := S_C.grow hg
          clear hg
          have hS : y126.cell? ⟨Bq, 0, none⟩ = some (.slice pq nq cq) ∧ y126.cell? ⟨B, 1, none⟩ = some (.slice p1 n1 c1) ∧ y126.cell? ⟨C, 1, none⟩ = some (.slice p3 n3 c3) ∧ True := ⟨k_q, k_x, k_z, trivial⟩
          refine hK.out _ _ (fun _ => hS) ?_
          clear hK K
          (try simp only [Act.put, List.getElem_toArray, List.getElem_cons_zero, List.getElem_cons_succ, List.setIfInBounds_toArray, List.set_cons_zero, List.set_cons_succ])
          refine Kr.readyL (rs := [8]) (by kernel_rfl) (by simp) ?_
          refine Kr.AllL.cons rfl (fun K hK => ?_) Kr.AllL.nil
          clear hS
          go_simp
          obtain ⟨y128, hy⟩ : ∃ y, y126.setCell ⟨F, 0, none⟩ (.slice p7 n7 c7) = y := ⟨_, rfl⟩
          rw [hy]
          have ho : Off F y126 y128 := by rw [← hy]; exact (Off.refl _ _).set _ _
          have k2 : y128.cell? ⟨F, 0, none⟩ = some (.slice p7 n7 c7) := by rw [← hy]; exact setCell_at k_F
          have f2 := ho.frz _ f_F
          clear hy k_F f_F
          replace S_B := S_B.off ho N_BF.out
          replace S_C := S_C.off ho N_CF.out
          replace k_m := ho.cell _ _ (show w.heap.size + 1 ≠ F from NC_mF.out) k_m
          replace f_r := ho.frz _ f_r
          replace k_r := ho.cell _ _ (show w.heap.size + 1 + 1 ≠ F from NC_rF.out) k_r
          replace k_q := ho.cell _ _ (show Bq ≠ F from NC_qF.out) k_q
          replace k_d := ho.cell _ _ (show Bq + 1 ≠ F from NC_dF.out) k_d
          replace k_x := ho.cell _ _ (show B ≠ F from NC_xF.out) k_x
          replace k_z := ho.cell _ _ (show C ≠ F from NC_zF.out) k_z
          replace R_m := Lib.hid (ho.nw _ _ _ _ A_mF.out R_m.out)
          replace R_0 := Lib.hid (ho.nw _ _ _ _ A_0F.out R_0.out)
          replace R_1 := Lib.hid (ho.nw _ _ _ _ A_1F.out R_1.out)
          replace R_2 := Lib.hid (ho.nw _ _ _ _ A_2F.out R_2.out)
          replace R_3 := Lib.hid (ho.nw _ _ _ _ A_3F.out R_3.out)
          replace R_q := Lib.hid (ho.nw _ _ _ _ A_qF.out R_q.out)
          replace R_d := Lib.hid (ho.nw _ _ _ _ A_dF.out R_d.out)
          replace R_6 := Lib.hid (ho.nw _ _ _ _ A_6F.out R_6.out)
          replace R_7 := Lib.hid (ho.nw _ _ _ _ A_7F.out R_7.out)
          replace G := Lib.hid (ho.gr _ (by have := L_F.out; have := E0.out; omega) G.out)
          replace G0 := Lib.hid (ho.gr _ (by have := L_F.out; have := E0.out; omega) G0.out)
          clear ho
          have k_F := k2
          have f_F := f2
          clear k2 f2
          have hS : y128.cell? ⟨Bq, 0, none⟩ = some (.slice pq nq cq) ∧ y128.cell? ⟨B, 1, none⟩ = some (.slice p1 n1 c1) ∧ y128.cell? ⟨C, 1, none⟩ = some (.slice p3 n3 c3) ∧ True := ⟨k_q, k_x, k_z, trivial⟩
          refine hK.out _ _ (fun _ => hS) ?_
          clear hK K
          (try simp only [Act.put, List.getElem_toArray, List.getElem_cons_zero, List.getElem_cons_succ, List.setIfInBounds_toArray, List.set_cons_zero, List.set_cons_succ])
          clear hS
          refine Kr.doneL (by kernel_rfl) ?_ _
          clear k_x
          clear k_z
          clear k_q
          clear R_q
          go_upto_region 5 with fail
          have k_n0 := S_C.c0
          have k_n1 := S_C.c1
          have k_n2 := S_C.c2
          have NC_FB := N_BF.out.symm
          have NC_FC := N_CF.out.symm
          replace NC_FB := Lib.hid NC_FB
          replace NC_FC := Lib.hid NC_FC
          clear G0
          refine Kr.startL (fun W' => W'.cell? ⟨C, 0, none⟩ = some (.slice p2 n2 c2) ∧ W'.cell? ⟨C, 1, none⟩ = some (.slice p3 n3 c3) ∧ W'.cell? ⟨C, 2, none⟩ = some (.bool s1) ∧ W'.cell? ⟨Bq + 1, 0, none⟩ = some (.slice pr nr cr) ∧ W'.cell? ⟨F, 0, none⟩ = some (.slice p7 n7 c7) ∧ True) [8] (by kernel_rfl) ?_
          have gd : Gr y128 y128.drew := (Gr.refl _).drew
          generalize y128.drew = d129 at gd ⊢
          replace k_m := gd.cell k_m
          replace f_r := gd.frozen k_r f_r
          replace k_r := gd.cell k_r
          replace k_d := gd.cell k_d
          replace f_F := gd.frozen k_F f_F
          replace k_F := gd.cell k_F
          replace k_n0 := gd.cell k_n0
          replace k_n1 := gd.cell k_n1
          replace k_n2 := gd.cell k_n2
          replace R_m := Lib.hid (R_m.out.grow gd)
          replace R_0 := Lib.hid (R_0.out.grow gd)
          replace R_1 := Lib.hid (R_1.out.grow gd)
          replace R_2 := Lib.hid (R_2.out.grow gd)
          replace R_3 := Lib.hid (R_3.out.grow gd)
          replace R_d := Lib.hid (R_d.out.grow gd)
          replace R_6 := Lib.hid (R_6.out.grow gd)
          replace R_7 := Lib.hid (R_7.out.grow gd)
          replace G := Lib.hid (G.out.trans gd)
          replace S_B := S_B.grow gd
          replace S_C := S_C.grow gd
          clear gd
          have hS : d129.cell? ⟨C, 0, none⟩ = some (.slice p2 n2 c2) ∧ d129.cell? ⟨C, 1, none⟩ = some (.slice p3 n3 c3) ∧ d129.cell? ⟨C, 2, none⟩ = some (.bool s1) ∧ d129.cell? ⟨Bq + 1, 0, none⟩ = some (.slice pr nr cr) ∧ d129.cell? ⟨F, 0, none⟩ = some (.slice p7 n7 c7) ∧ True := ⟨k_n0, k_n1, k_n2, k_d, k_F, trivial⟩
          refine Kr.takeS (i := 0) (v := ?_) [7, 8] rfl (by kernel_rfl) (by kernel_rfl) (by kernel_rfl) rfl (by kernel_rfl) (by kernel_rfl) (by kernel_rfl) (fun _ _ _ h => h) (fun wx hSx => ?_) (by rfl) hS ?_
          rotate_left
          · (go_simp; first | done | rfl)
          (try simp only [Act.put, List.getElem_toArray, List.getElem_cons_zero, List.getElem_cons_succ, List.setIfInBounds_toArray, List.set_cons_zero, List.set_cons_succ])
          refine Kr.takeS (i := 1) (v := ?_) [6, 8] rfl (by kernel_rfl) (by kernel_rfl) (by kernel_rfl) rfl (by kernel_rfl) (by kernel_rfl) (by kernel_rfl) (fun _ _ _ h => h) (fun wx hSx => ?_) (by rfl) hS ?_
          rotate_left
          · (go_simp; first | done | rfl)
          (try simp only [Act.put, List.getElem_toArray, List.getElem_cons_zero, List.getElem_cons_succ, List.setIfInBounds_toArray, List.set_cons_zero, List.set_cons_succ])
          refine Kr.takeS (i := 2) (v := ?_) [6, 8] rfl (by kernel_rfl) (by kernel_rfl) (by kernel_rfl) rfl (by kernel_rfl) (by kernel_rfl) (by kernel_rfl) (fun _ _ _ h => h) (fun wx hSx => ?_) (by rfl) hS ?_
          rotate_left
          · (go_simp; first | done | rfl)
          (try simp only [Act.put, List.getElem_toArray, List.getElem_cons_zero, List.getElem_cons_succ, List.setIfInBounds_toArray, List.set_cons_zero, List.set_cons_succ])
          refine Kr.takeP (i := 3) (v := ?_) rfl (by kernel_rfl) (by kernel_rfl) (by kernel_rfl) rfl (fun _ _ _ h => h) (fun wx => ?_) (by rfl) (fun _ => hS) ?_
          rotate_left
          · (go_simp; first | done | rfl)
          (try simp only [Act.put, List.getElem_toArray, List.getElem_cons_zero, List.getElem_cons_succ, List.setIfInBounds_toArray, List.set_cons_zero, List.set_cons_succ])
          refine Kr.takeS (i := 4) (v := ?_) [5, 6, 8] rfl (by kernel_rfl) (by kernel_rfl) (by kernel_rfl) rfl (by kernel_rfl) (by kernel_rfl) (by kernel_rfl) (fun _ _ _ h => h) (fun wx hSx => ?_) (by rfl) hS ?_
          rotate_left
          · (go_simp; first | done | rfl)
          (try simp only [Act.put, List.getElem_toArray, List.getElem_cons_zero, List.getElem_cons_succ, List.setIfInBounds_toArray, List.set_cons_zero, List.set_cons_succ])
          refine Kr.takeP (i := 5) (v := ?_) rfl (by kernel_rfl) (by kernel_rfl) (by kernel_rfl) rfl (fun _ _ _ h => h) (fun wx => ?_) (by rfl) (fun _ => hS) ?_
          rotate_left
          · (go_simp; first | done | rfl)
          (try simp only [Act.put, List.getElem_toArray, List.getElem_cons_zero, List.getElem_cons_succ, List.setIfInBounds_toArray, List.set_cons_zero, List.set_cons_succ])
          refine Kr.takeP (i := 6) (v := ?_) rfl (by kernel_rfl) (by kernel_rfl) (by kernel_rfl) rfl (fun _ _ _ h => h) (fun wx => ?_) (by rfl) (fun _ => hS) ?_
          rotate_left
          · (go_simp; first | done | rfl)
          (try simp only [Act.put, List.getElem_toArray, List.getElem_cons_zero, List.getElem_cons_succ, List.setIfInBounds_toArray, List.set_cons_zero, List.set_cons_succ])
          refine Kr.readyL (rs := [7]) (by kernel_rfl) (by simp) ?_
          refine Kr.AllL.cons rfl (fun K hK => ?_) Kr.AllL.nil
          clear hS
          go_simp
          have c0 := S_B.c0; have c1 := S_B.c1; have c2 := S_B.c2; have f0 := S_B.f0; have f1 := S_B.f1; have f2 := S_B.f2
          go_simp
          clear c0 c1 c2 f0 f1 f2
          obtain ⟨y130, hy⟩ : ∃ y, ((d129.setCell ⟨B, 0, none⟩ (.slice p2 n2 c2)).setCell ⟨B, 1, none⟩ (.slice p3 n3 c3)).setCell ⟨B, 2, none⟩ (.bool s1) = y := ⟨_, rfl⟩
          rw [hy]
          have ho : Off B d129 y130 := by rw [← hy]; exact (((Off.refl _ _).set _ _).set _ _).set _ _
          replace S_B : Stp y130 B (.slice p2 n2 c2) (.slice p3 n3 c3) (.bool s1) := by rw [← hy]; exact S_B.put _ _ _
          clear hy
          replace S_C := S_C.off ho N_BC.out.symm
          replace k_m := ho.cell _ _ (show w.heap.size + 1 ≠ B from by have := L_B.out; have := E0.out; omega) k_m
          replace f_r := ho.frz _ f_r
          replace k_r := ho.cell _ _ (show w.heap.size + 1 + 1 ≠ B from by have := L_B.out; have := E0.out; omega) k_r
          replace k_d := ho.cell _ _ (show Bq + 1 ≠ B from NC_dB.out) k_d
          replace f_F := ho.frz _ f_F
          replace k_F := ho.cell _ _ (show F ≠ B from N_BF.out.symm) k_F
          replace k_n0 := ho.cell _ _ (show C ≠ B from N_BC.out.symm) k_n0
          replace k_n1 := ho.cell _ _ (show C ≠ B from N_BC.out.symm) k_n1
          replace k_n2 := ho.cell _ _ (show C ≠ B from N_BC.out.symm) k_n2
          replace R_m := Lib.hid (ho.nw _ _ _ _ A_mB.out R_m.out)
          replace R_0 := Lib.hid (ho.nw _ _ _ _ A_0B.out R_0.out)
          replace R_1 := Lib.hid (ho.nw _ _ _ _ A_1B.out R_1.out)
          replace R_2 := Lib.hid (ho.nw _ _ _ _ A_2B.out R_2.out)
          replace R_3 := Lib.hid (ho.nw _ _ _ _ A_3B.out R_3.out)
          replace R_d := Lib.hid (ho.nw _ _ _ _ A_dB.out R_d.out)
          replace R_6 := Lib.hid (ho.nw _ _ _ _ A_6B.out R_6.out)
          replace R_7 := Lib.hid (ho.nw _ _ _ _ A_7B.out R_7.out)
          replace G := Lib.hid (ho.gr _ (by have := L_B.out; have := E0.out; omega) G.out)
          clear ho
          have hS : y130.cell? ⟨C, 0, none⟩ = some (.slice p2 n2 c2) ∧ y130.cell? ⟨C, 1, none⟩ = some (.slice p3 n3 c3) ∧ y130.cell? ⟨C, 2, none⟩ = some (.bool s1) ∧ y130.cell? ⟨Bq + 1, 0, none⟩ = some (.slice pr nr cr) ∧ y130.cell? ⟨F, 0, none⟩ = some (.slice p7 n7 c7) ∧ True := ⟨k_n0, k_n1, k_n2, k_d, k_F, trivial⟩
          refine hK.out _ _ (fun _ => hS) ?_
          clear hK K
          (try simp only [Act.put, List.getElem_toArray, List.getElem_cons_zero, List.getElem_cons_succ, List.setIfInBounds_toArray, List.set_cons_zero, List.set_cons_succ])
          refine Kr.readyL (rs := [8]) (by kernel_rfl) (by simp) ?_
          refine Kr.AllL.cons rfl (fun K hK => ?_) Kr.AllL.nil
          clear hS
          go_simp
          have c0 := S_C.c0; have c1 := S_C.c1; have c2 := S_C.c2; have f0 := S_C.f0; have f1 := S_C.f1; have f2 := S_C.f2
          go_simp
          clear c0 c1 c2 f0 f1 f2
          obtain ⟨y131, hy⟩ : ∃ y, ((y130.setCell ⟨C, 0, none⟩ (.slice pr nr cr)).setCell ⟨C, 1, none⟩ (.slice p7 n7 c7)).setCell ⟨C, 2, none⟩ (.bool (!s1)) = y := ⟨_, rfl⟩
          rw [hy]
          have ho : Off C y130 y131 := by rw [← hy]; exact (((Off.refl _ _).set _ _).set _ _).set _ _
          replace S_C : Stp y131 C (.slice pr nr cr) (.slice p7 n7 c7) (.bool (!s1)) := by rw [← hy]; exact S_C.put _ _ _
          clear hy
          clear k_n0
          clear k_n1
          clear k_n2
          replace S_B := S_B.off ho N_BC.out
          replace k_m := ho.cell _ _ (show w.heap.size + 1 ≠ C from by have := L_C.out; have := E0.out; omega) k_m
          replace f_r := ho.frz _ f_r
          replace k_r := ho.cell _ _ (show w.heap.size + 1 + 1 ≠ C from by have := L_C.out; have := E0.out; omega) k_r
          replace k_d := ho.cell _ _ (show Bq + 1 ≠ C from NC_dC.out) k_d
          replace f_F := ho.frz _ f_F
          replace k_F := ho.cell _ _ (show F ≠ C from N_CF.out.symm) k_F
          replace R_m := Lib.hid (ho.nw _ _ _ _ A_mC.out R_m.out)
          replace R_0 := Lib.hid (ho.nw _ _ _ _ A_0C.out R_0.out)
          replace R_1 := Lib.hid (ho.nw _ _ _ _ A_1C.out R_1.out)
          replace R_2 := Lib.hid (ho.nw _ _ _ _ A_2C.out R_2.out)
          replace R_3 := Lib.hid (ho.nw _ _ _ _ A_3C.out R_3.out)
          replace R_d := Lib.hid (ho.nw _ _ _ _ A_dC.out R_d.out)
          replace R_6 := Lib.hid (ho.nw _ _ _ _ A_6C.out R_6.out)
          replace R_7 := Lib.hid (ho.nw _ _ _ _ A_7C.out R_7.out)
          replace G := Lib.hid (ho.gr _ (by have := L_C.out; have := E0.out; omega) G.out)
          clear ho
          refine hK.out _ _ (Kr.noStill (by kernel_rfl)) ?_
          clear hK K
          (try simp only [Act.put, List.getElem_toArray, List.getElem_cons_zero, List.getElem_cons_succ, List.setIfInBounds_toArray, List.set_cons_zero, List.set_cons_succ])
          refine Kr.doneL (by kernel_rfl) ?_ _
          go_wp2
          go_roundw
          case rel => exact ⟨_, _, _, _, _, _, _, _, _, _, _, _, _, _, _, _, _, _, Lib.hid ⟨G.out, k_m, k_r, f_r, R_m.out, N_BC.out, L_B.out, L_C.out, A_mB.out, A_mC.out, S_B, S_C, R_2.out, R_3.out, R_d.out, R_7.out, A_2B.out, A_2C.out, A_3B.out, A_3C.out, A_dB.out, A_dC.out, A_7B.out, A_7C.out, A_3R.out, A_7R.out, HE.out.step HP.out⟩⟩
          case measure => rw [HMe.out, numAt_eq S_C.c0 R_d.out, val_digs]; exact Nat.mod_lt _ HP.out
        refine Kr.AllL.cons rfl (fun K hK => ?_) Kr.AllL.nil
        clear hS
        go_simp
        obtain ⟨y133, hy⟩ : ∃ y, d114.alloc (.cells #[.slice none 0 0] 24) = y := ⟨_, rfl⟩
        obtain ⟨F, hF⟩ : ∃ B, d114.heap.size = B := ⟨_, rfl⟩
        rw [hy, hF]
        have hg : Gr d114 y133 := by rw [← hy]; exact (Gr.refl _).alloc _
        have L_F : Hid (w.heap.size + 3 ≤ F ∧ y113.heap.size ≤ F) := Lib.hid ⟨by have := World.block_lt_of_cell? _ _ k_r; dsimp only at this; omega, hF ▸ G0.out.le⟩
        have N_BF : Hid (B ≠ F) := Lib.hid (Nat.ne_of_lt (show B < F from hF ▸ S_B.lt))
        have N_CF : Hid (C ≠ F) := Lib.hid (Nat.ne_of_lt (show C < F from hF ▸ S_C.lt))
        have A_mF := Lib.hid (av_new (b := F) R_m.out (Nat.le_of_eq hF))
        have A_0F := Lib.hid (av_new (b := F) R_0.out (Nat.le_of_eq hF))
        have A_1F := Lib.hid (av_new (b := F) R_1.out (Nat.le_of_eq hF))
        have A_2F := Lib.hid (av_new (b := F) R_2.out (Nat.le_of_eq hF))
        have A_3F := Lib.hid (av_new (b := F) R_3.out (Nat.le_of_eq hF))
        have A_qF := Lib.hid (av_new (b := F) R_q.out (Nat.le_of_eq hF))
        have A_dF := Lib.hid (av_new (b := F) R_d.out (Nat.le_of_eq hF))
        have NC_mF : Hid (w.heap.size + 1 ≠ F) := Lib.hid (Nat.ne_of_lt (hF ▸ World.block_lt_of_cell? _ _ k_m : w.heap.size + 1 < F))
        have NC_rF : Hid (w.heap.size + 1 + 1 ≠ F) := Lib.hid (Nat.ne_of_lt (hF ▸ World.block_lt_of_cell? _ _ k_r : w.heap.size + 1 + 1 < F))
        have NC_qF : Hid (Bq ≠ F) := Lib.hid (Nat.ne_of_lt (hF ▸ World.block_lt_of_cell? _ _ k_q : Bq < F))
        have NC_dF : Hid (Bq + 1 ≠ F) := Lib.hid (Nat.ne_of_lt (hF ▸ World.block_lt_of_cell? _ _ k_d : Bq + 1 < F))
        have NC_xF : Hid (B ≠ F) := Lib.hid (Nat.ne_of_lt (hF ▸ World.block_lt_of_cell? _ _ k_x : B < F))
        have NC_zF : Hid (C ≠ F) := Lib.hid (Nat.ne_of_lt (hF ▸ World.block_lt_of_cell? _ _ k_z : C < F))
        replace k_m := hg.cell k_m
        replace f_r := hg.frozen k_r f_r
        replace k_r := hg.cell k_r
        replace k_q := hg.cell k_q
        replace k_d := hg.cell k_d
        replace k_x := hg.cell k_x
        replace k_z := hg.cell k_z
        replace R_m := Lib.hid (R_m.out.grow hg)
        replace R_0 := Lib.hid (R_0.out.grow hg)
        replace R_1 := Lib.hid (R_1.out.grow hg)
        replace R_2 := Lib.hid (R_2.out.grow hg)
        replace R_3 := Lib.hid (R_3.out.grow hg)
        replace R_q := Lib.hid (R_q.out.grow hg)
        replace R_d := Lib.hid (R_d.out.grow hg)
        replace G := Lib.hid (G.out.trans hg)
        replace G0 := Lib.hid (G0.out.trans hg)
        replace S_B := S_B.grow hg
        replace S_C := S_C.grow hg
        clear hg
        have k_F : y133.cell? ⟨F, 0, none⟩ = some (.slice none 0 0) := by rw [← hy, ← hF]; simp [go_sem]
        have f_F : y133.frozen? ⟨F, 0, none⟩ = false := by rw [← hy, ← hF]; simp [go_sem]
        clear hy hF
        have hS : y133.cell? ⟨Bq, 0, none⟩ = some (.slice pq nq cq) ∧ y133.cell? ⟨B, 1, none⟩ = some (.slice p1 n1 c1) ∧ y133.cell? ⟨C, 1, none⟩ = some (.slice p3 n3 c3) ∧ True := ⟨k_q, k_x, k_z, trivial⟩
        refine hK.out _ _ (fun _ => hS) ?_
        clear hK K
        (try simp only [Act.put, List.getElem_toArray, List.getElem_cons_zero, List.getElem_cons_succ, List.setIfInBounds_toArray, List.set_cons_zero, List.set_cons_succ])
        refine Kr.readyL (rs := [5]) (by kernel_rfl) (by simp) ?_
        refine Kr.AllL.cons rfl (fun K hK => ?_) Kr.AllL.nil
        clear hS
        go_simp
        go_at_call 79
        refine (mtimes_v R_q.out R_3.out (lt64 (Nat.lt_of_le_of_lt (Nat.div_le_self r0 r1) HR0.out)) (lt64 (Nat.lt_of_le_of_lt HF.out.1 HY.out)) (lt64 (Nat.lt_of_le_of_lt HF.out.2.1 HY.out))).mono ?_
        rintro e y134 ⟨p6, n6, c6, rfl, hr, hg⟩
        have A_6B := Lib.hid (av_nr (b := B) hr S_B.lt)
        have A_6C := Lib.hid (av_nr (b := C) hr S_C.lt)
        have A_6R := Lib.hid (av_nr (b := w.heap.size + 1 + 1) hr (World.block_lt_of_cell? _ _ k_r))
        have A_6F := Lib.hid (av_nr (b := F) hr (World.block_lt_of_cell? _ _ k_F))
        have R_6 := Lib.hid hr.toNw
        clear hr
        replace k_m := hg.cell k_m
        replace f_r := hg.frozen k_r f_r
        replace k_r := hg.cell k_r
        replace k_q := hg.cell k_q
        replace k_d := hg.cell k_d
        replace k_x := hg.cell k_x
        replace k_z := hg.cell k_z
        replace f_F := hg.frozen k_F f_F
        replace k_F := hg.cell k_F
        replace R_m := Lib.hid (R_m.out.grow hg)
        replace R_0 := Lib.hid (R_0.out.grow hg)
        replace R_1 := Lib.hid (R_1.out.grow hg)
        replace R_2 := Lib.hid (R_2.out.grow hg)
        replace R_3 := Lib.hid (R_3.out.grow hg)
        replace R_q := Lib.hid (R_q.out.grow hg)
        replace R_d := Lib.hid (R_d.out.grow hg)
        replace G := Lib.hid (G.out.trans hg)
        replace G0 := Lib.hid (G0.out.trans hg)
        replace S_B := S_B.grow hg
        replace S_C := S_C.grow hg
        clear hg
        have hS : y134.cell? ⟨Bq, 0, none⟩ = some (.slice pq nq cq) ∧ y134.cell? ⟨B, 1, none⟩ = some (.slice p1 n1 c1) ∧ y134.cell? ⟨C, 1, none⟩ = some (.slice p3 n3 c3) ∧ True := ⟨k_q, k_x, k_z, trivial⟩
        refine hK.out _ _ (fun _ => hS) ?_
        clear hK K
        (try simp only [Act.put, List.getElem_toArray, List.getElem_cons_zero, List.getElem_cons_succ, List.setIfInBounds_toArray, List.set_cons_zero, List.set_cons_succ])
        refine Kr.readyL (rs := [6]) (by kernel_rfl) (by simp) ?_
        refine Kr.AllL.cons rfl (fun K hK => ?_) Kr.AllL.nil
        clear hS
        go_simp
        go_at_call 72
        refine (mplus_v R_1.out R_6.out (lt64 (Nat.lt_of_le_of_lt HE.out.le0 HY.out)) (lt64 (Nat.lt_of_le_of_lt HF.out.2.1 HY.out)) (lt64 (Nat.lt_of_le_of_lt HF.out.2.2 HY.out))).mono ?_
        rintro e y135 ⟨p7, n7, c7, rfl, hr, hg⟩
        have A_7B := Lib.hid (av_nr (b := B) hr S_B.lt)
        have A_7C := Lib.hid (av_nr (b := C) hr S_C.lt)
        have A_7R := Lib.hid (av_nr (b := w.heap.size + 1 + 1) hr (World.block_lt_of_cell? _ _ k_r))
        have A_7F := Lib.hid (av_nr (b := F) hr (World.block_lt_of_cell? _ _ k_F))
        have R_7 := Lib.hid hr.toNw
        clear hr
        replace k_m := hg.cell k_m
        replace f_r := hg.frozen k_r f_r
        replace k_r := hg.cell k_r
        replace k_q := hg.cell k_q
        replace k_d := hg.cell k_d
        replace k_x := hg.cell k_x
        replace k_z := hg.cell k_z
        replace f_F := hg.frozen k_F f_F
        replace k_F := hg.cell k_F
        replace R_m := Lib.hid (R_m.out.grow hg)
        replace R_0 := Lib.hid (R_0.out.grow hg)
        replace R_1 := Lib.hid (R_1.out.grow hg)
        replace R_2 := Lib.hid (R_2.out.grow hg)
        replace R_3 := Lib.hid (R_3.out.grow hg)
        replace R_q := Lib.hid (R_q.out.grow hg)
        replace R_d := Lib.hid (R_d.out.grow hg)
        replace R_6 := Lib.hid (R_6.out.grow hg)
        replace G := Lib.hid (G.out.trans hg)
        replace G0 := Lib.hid (G0.out.trans hg)
        replace S_B := S_B.grow hg
        replace S_C := S_C.grow hg
        clear hg
        have hS : y135.cell? ⟨Bq, 0, none⟩ = some (.slice pq nq cq) ∧ y135.cell? ⟨B, 1, none⟩ = some (.slice p1 n1 c1) ∧ y135.cell? ⟨C, 1, none⟩ = some (.slice p3 n3 c3) ∧ True := ⟨k_q, k_x, k_z, trivial⟩
        refine hK.out _ _ (fun _ => hS) ?_
        clear hK K
        (try simp only [Act.put, List.getElem_toArray, List.getElem_cons_zero, List.getElem_cons_succ, List.setIfInBounds_toArray, List.set_cons_zero, List.set_cons_succ])
        refine Kr.readyL (rs := [8]) (by kernel_rfl) (by simp) ?_
        refine Kr.AllL.cons rfl (fun K hK => ?_) Kr.AllL.nil
        clear hS
        go_simp
        obtain ⟨y137, hy⟩ : ∃ y, y135.setCell ⟨F, 0, none⟩ (.slice p7 n7 c7) = y := ⟨_, rfl⟩
        rw [hy]
        have ho : Off F y135 y137 := by rw [← hy]; exact (Off.refl _ _).set _ _
        have k2 : y137.cell? ⟨F, 0, none⟩ = some (.slice p7 n7 c7) := by rw [← hy]; exact setCell_at k_F
        have f2 := ho.frz _ f_F
        clear hy k_F f_F
        replace S_B := S_B.off ho N_BF.out
        replace S_C := S_C.off ho N_CF.out
        replace k_m := ho.cell _ _ (show w.heap.size + 1 ≠ F from NC_mF.out) k_m
        replace f_r := ho.frz _ f_r
        replace k_r := ho.cell _ _ (show w.heap.size + 1 + 1 ≠ F from NC_rF.out) k_r
        replace k_q := ho.cell _ _ (show Bq ≠ F from NC_qF.out) k_q
        replace k_d := ho.cell _ _ (show Bq + 1 ≠ F from NC_dF.out) k_d
        replace k_x := ho.cell _ _ (show B ≠ F from NC_xF.out) k_x
        replace k_z := ho.cell _ _ (show C ≠ F from NC_zF.out) k_z
        replace R_m := Lib.hid (ho.nw _ _ _ _ A_mF.out R_m.out)
        replace R_0 := Lib.hid (ho.nw _ _ _ _ A_0F.out R_0.out)
        replace R_1 := Lib.hid (ho.nw _ _ _ _ A_1F.out R_1.out)
        replace R_2 := Lib.hid (ho.nw _ _ _ _ A_2F.out R_2.out)
        replace R_3 := Lib.hid (ho.nw _ _ _ _ A_3F.out R_3.out)
        replace R_q := Lib.hid (ho.nw _ _ _ _ A_qF.out R_q.out)
        replace R_d := Lib.hid (ho.nw _ _ _ _ A_dF.out R_d.out)
        replace R_6 := Lib.hid (ho.nw _ _ _ _ A_6F.out R_6.out)
        replace R_7 := Lib.hid (ho.nw _ _ _ _ A_7F.out R_7.out)
        replace G := Lib.hid (ho.gr _ (by have := L_F.out; have := E0.out; omega) G.out)
        replace G0 := Lib.hid (ho.gr _ (by have := L_F.out; have := E0.out; omega) G0.out)
        clear ho
        have k_F := k2
        have f_F := f2
        clear k2 f2
        have hS : y137.cell? ⟨Bq, 0, none⟩ = some (.slice pq nq cq) ∧ y137.cell? ⟨B, 1, none⟩ = some (.slice p1 n1 c1) ∧ y137.cell? ⟨C, 1, none⟩ = some (.slice p3 n3 c3) ∧ True := ⟨k_q, k_x, k_z, trivial⟩
        refine hK.out _ _ (fun _ => hS) ?_
        clear hK K
        (try simp only [Act.put, List.getElem_toArray, List.getElem_cons_zero, List.getElem_cons_succ, List.setIfInBounds_toArray, List.set_cons_zero, List.set_cons_succ])
        clear hS
        refine Kr.doneL (by kernel_rfl) ?_ _
        clear k_x
        clear k_z
        clear k_q
        clear R_q
        go_upto_region 5 with fail
        have k_n0 := S_C.c0
        have k_n1 := S_C.c1
        have k_n2 := S_C.c2
        have NC_FB := N_BF.out.symm
        have NC_FC := N_CF.out.symm
        replace NC_FB := Lib.hid NC_FB
        replace NC_FC := Lib.hid NC_FC
        clear G0
        refine Kr.startL (fun W' => W'.cell? ⟨C, 0, none⟩ = some (.slice p2 n2 c2) ∧ W'.cell? ⟨C, 1, none⟩ = some (.slice p3 n3 c3) ∧ W'.cell? ⟨C, 2, none⟩ = some (.bool s1) ∧ W'.cell? ⟨Bq + 1, 0, none⟩ = some (.slice pr nr cr) ∧ W'.cell? ⟨F, 0, none⟩ = some (.slice p7 n7 c7) ∧ True) [8] (by kernel_rfl) ?_
        have gd : Gr y137 y137.drew := (Gr.refl _).drew
        generalize y137.drew = d138 at gd ⊢
        replace k_m := gd.cell k_m
        replace f_r := gd.frozen k_r f_r
        replace k_r := gd.cell k_r
        replace k_d := gd.cell k_d
        replace f_F := gd.frozen k_F f_F
        replace k_F := gd.cell k_F
        replace k_n0 := gd.cell k_n0
        replace k_n1 := gd.cell k_n1
        replace k_n2 := gd.cell k_n2
        replace R_m := Lib.hid (R_m.out.grow gd)
        replace R_0 := Lib.hid (R_0.out.grow gd)
        replace R_1 := Lib.hid (R_1.out.grow gd)
        replace R_2 := Lib.hid (R_2.out.grow gd)
        replace R_3 := Lib.hid (R_3.out.grow gd)
        replace R_d := Lib.hid (R_d.out.grow gd)
        replace R_6 := Lib.hid (R_6.out.grow gd)
        replace R_7 := Lib.hid (R_7.out.grow gd)
        replace G := Lib.hid (G.out.trans gd)
        replace S_B := S_B.grow gd
        replace S_C := S_C.grow gd
        clear gd
        have hS : d138.cell? ⟨C, 0, none⟩ = some (.slice p2 n2 c2) ∧ d138.cell? ⟨C, 1, none⟩ = some (.slice p3 n3 c3) ∧ d138.cell? ⟨C, 2, none⟩ = some (.bool s1) ∧ d138.cell? ⟨Bq + 1, 0, none⟩ = some (.slice pr nr cr) ∧ d138.cell? ⟨F, 0, none⟩ = some (.slice p7 n7 c7) ∧ True := ⟨k_n0, k_n1, k_n2, k_d, k_F, trivial⟩
        refine Kr.takeS (i := 0) (v := ?_) [7, 8] rfl (by kernel_rfl) (by kernel_rfl) (by kernel_rfl) rfl (by kernel_rfl) (by kernel_rfl) (by kernel_rfl) (fun _ _ _ h => h) (fun wx hSx => ?_) (by rfl) hS ?_
        rotate_left
        · (go_simp; first | done | rfl)
        (try simp only [Act.put, List.getElem_toArray, List.getElem_cons_zero, List.getElem_cons_succ, List.setIfInBounds_toArray, List.set_cons_zero, List.set_cons_succ])
        refine Kr.takeS (i := 1) (v := ?_) [6, 8] rfl (by kernel_rfl) (by kernel_rfl) (by kernel_rfl) rfl (by kernel_rfl) (by kernel_rfl) (by kernel_rfl) (fun _ _ _ h => h) (fun wx hSx => ?_) (by rfl) hS ?_
        rotate_left
        · (go_simp; first | done | rfl)
        (try simp only [Act.put, List.getElem_toArray, List.getElem_cons_zero, List.getElem_cons_succ, List.setIfInBounds_toArray, List.set_cons_zero, List.set_cons_succ])
        refine Kr.takeS (i := 2) (v := ?_) [6, 8] rfl (by kernel_rfl) (by kernel_rfl) (by kernel_rfl) rfl (by kernel_rfl) (by kernel_rfl) (by kernel_rfl) (fun _ _ _ h => h) (fun wx hSx => ?_) (by rfl) hS ?_
        rotate_left
        · (go_simp; first | done | rfl)
        (try simp only [Act.put, List.getElem_toArray, List.getElem_cons_zero, List.getElem_cons_succ, List.setIfInBounds_toArray, List.set_cons_zero, List.set_cons_succ])
        refine Kr.takeP (i := 3) (v := ?_) rfl (by kernel_rfl) (by kernel_rfl) (by kernel_rfl) rfl (fun _ _ _ h => h) (fun wx => ?_) (by rfl) (fun _ => hS) ?_
        rotate_left
        · (go_simp; first | done | rfl)
        (try simp only [Act.put, List.getElem_toArray, List.getElem_cons_zero, List.getElem_cons_succ, List.setIfInBounds_toArray, List.set_cons_zero, List.set_cons_succ])
        refine Kr.takeS (i := 4) (v := ?_) [5, 6, 8] rfl (by kernel_rfl) (by kernel_rfl) (by kernel_rfl) rfl (by kernel_rfl) (by kernel_rfl) (by kernel_rfl) (fun _ _ _ h => h) (fun wx hSx => ?_) (by rfl) hS ?_
        rotate_left
        · (go_simp; first | done | rfl)
        (try simp only [Act.put, List.getElem_toArray, List.getElem_cons_zero, List.getElem_cons_succ, List.setIfInBounds_toArray, List.set_cons_zero, List.set_cons_succ])
        refine Kr.takeP (i := 5) (v := ?_) rfl (by kernel_rfl) (by kernel_rfl) (by kernel_rfl) rfl (fun _ _ _ h => h) (fun wx => ?_) (by rfl) (fun _ => hS) ?_
        rotate_left
        · (go_simp; first | done | rfl)
        (try simp only [Act.put, List.getElem_toArray, List.getElem_cons_zero, List.getElem_cons_succ, List.setIfInBounds_toArray, List.set_cons_zero, List.set_cons_succ])
        refine Kr.takeP (i := 6) (v := ?_) rfl (by kernel_rfl) (by kernel_rfl) (by kernel_rfl) rfl (fun _ _ _ h => h) (fun wx => ?_) (by rfl) (fun _ => hS) ?_
        rotate_left
        · (go_simp; first | done | rfl)
        (try simp only [Act.put, List.getElem_toArray, List.getElem_cons_zero, List.getElem_cons_succ, List.setIfInBounds_toArray, List.set_cons_zero, List.set_cons_succ])
        refine Kr.readyL (rs := [7]) (by kernel_rfl) (by simp) ?_
        refine Kr.AllL.cons rfl (fun K hK => ?_) Kr.AllL.nil
        clear hS
        go_simp
        have c0 := S_B.c0; have c1 := S_B.c1; have c2 := S_B.c2; have f0 := S_B.f0; have f1 := S_B.f1; have f2 := S_B.f2
        go_simp
        clear c0 c1 c2 f0 f1 f2
        obtain ⟨y139, hy⟩ : ∃ y, ((d138.setCell ⟨B, 0, none⟩ (.slice p2 n2 c2)).setCell ⟨B, 1, none⟩ (.slice p3 n3 c3)).setCell ⟨B, 2, none⟩ (.bool s1) = y := ⟨_, rfl⟩
        rw [hy]
        have ho : Off B d138 y139 := by rw [← hy]; exact (((Off.refl _ _).set _ _).set _ _).set _ _
        replace S_B : Stp y139 B (.slice p2 n2 c2) (.slice p3 n3 c3) (.bool s1) := by rw [← hy]; exact S_B.put _ _ _
        clear hy
        replace S_C := S_C.off ho N_BC.out.symm
        replace k_m := ho.cell _ _ (show w.heap.size + 1 ≠ B from by have := L_B.out; have := E0.out; omega) k_m
        replace f_r := ho.frz _ f_r
        replace k_r := ho.cell _ _ (show w.heap.size + 1 + 1 ≠ B from by have := L_B.out; have := E0.out; omega) k_r
        replace k_d := ho.cell _ _ (show Bq + 1 ≠ B from NC_dB.out) k_d
        replace f_F := ho.frz _ f_F
        replace k_F := ho.cell _ _ (show F ≠ B from N_BF.out.symm) k_F
        replace k_n0 := ho.cell _ _ (show C ≠ B from N_BC.out.symm) k_n0
        replace k_n1 := ho.cell _ _ (show C ≠ B from N_BC.out.symm) k_n1
        replace k_n2 := ho.cell _ _ (show C ≠ B from N_BC.out.symm) k_n2
        replace R_m := Lib.hid (ho.nw _ _ _ _ A_mB.out R_m.out)
        replace R_0 := Lib.hid (ho.nw _ _ _ _ A_0B.out R_0.out)
        replace R_1 := Lib.hid (ho.nw _ _ _ _ A_1B.out R_1.out)
        replace R_2 := Lib.hid (ho.nw _ _ _ _ A_2B.out R_2.out)
        replace R_3 := Lib.hid (ho.nw _ _ _ _ A_3B.out R_3.out)
        replace R_d := Lib.hid (ho.nw _ _ _ _ A_dB.out R_d.out)
        replace R_6 := Lib.hid (ho.nw _ _ _ _ A_6B.out R_6.out)
        replace R_7 := Lib.hid (ho.nw _ _ _ _ A_7B.out R_7.out)
        replace G := Lib.hid (ho.gr _ (by have := L_B.out; have := E0.out; omega) G.out)
        clear ho
        have hS : y139.cell? ⟨C, 0, none⟩ = some (.slice p2 n2 c2) ∧ y139.cell? ⟨C, 1, none⟩ = some (.slice p3 n3 c3) ∧ y139.cell? ⟨C, 2, none⟩ = some (.bool s1) ∧ y139.cell? ⟨Bq + 1, 0, none⟩ = some (.slice pr nr cr) ∧ y139.cell? ⟨F, 0, none⟩ = some (.slice p7 n7 c7) ∧ True := ⟨k_n0, k_n1, k_n2, k_d, k_F, trivial⟩
        refine hK.out _ _ (fun _ => hS) ?_
        clear hK K
        (try simp only [Act.put, List.getElem_toArray, List.getElem_cons_zero, List.getElem_cons_succ, List.setIfInBounds_toArray, List.set_cons_zero, List.set_cons_succ])
        refine Kr.readyL (rs := [8]) (by kernel_rfl) (by simp) ?_
        refine Kr.AllL.cons rfl (fun K hK => ?_) Kr.AllL.nil
        clear hS
        go_simp
        have c0 := S_C.c0; have c1 := S_C.c1; have c2 := S_C.c2; have f0 := S_C.f0; have f1 := S_C.f1; have f2 := S_C.f2
        go_simp
        clear c0 c1 c2 f0 f1 f2
        obtain ⟨y140, hy⟩ : ∃ y, ((y139.setCell ⟨C, 0, none⟩ (.slice pr nr cr)).setCell ⟨C, 1, none⟩ (.slice p7 n7 c7)).setCell ⟨C, 2, none⟩ (.bool (!s1)) = y := ⟨_, rfl⟩
        rw [hy]
        have ho : Off C y139 y140 := by rw [← hy]; exact (((Off.refl _ _).set _ _).set _ _).set _ _
        replace S_C : Stp y140 C (.slice pr nr cr) (.slice p7 n7 c7) (.bool (!s1)) := by rw [← hy]; exact S_C.put _ _ _
        clear hy
        clear k_n0
        clear k_n1
        clear k_n2
        replace S_B := S_B.off ho N_BC.out
        replace k_m := ho.cell _ _ (show w.heap.size + 1 ≠ C from by have := L_C.out; have := E0.out; omega) k_m
        replace f_r := ho.frz _ f_r
        replace k_r := ho.cell _ _ (show w.heap.size + 1 + 1 ≠ C from by have := L_C.out; have := E0.out; omega) k_r
        replace k_d := ho.cell _ _ (show Bq + 1 ≠ C from NC_dC.out) k_d
        replace f_F := ho.frz _ f_F
        replace k_F := ho.cell _ _ (show F ≠ C from N_CF.out.symm) k_F
        replace R_m := Lib.hid (ho.nw _ _ _ _ A_mC.out R_m.out)
        replace R_0 := Lib.hid (ho.nw _ _ _ _ A_0C.out R_0.out)
        replace R_1 := Lib.hid (ho.nw _ _ _ _ A_1C.out R_1.out)
        replace R_2 := Lib.hid (ho.nw _ _ _ _ A_2C.out R_2.out)
        replace R_3 := Lib.hid (ho.nw _ _ _ _ A_3C.out R_3.out)
        replace R_d := Lib.hid (ho.nw _ _ _ _ A_dC.out R_d.out)
        replace R_6 := Lib.hid (ho.nw _ _ _ _ A_6C.out R_6.out)
        replace R_7 := Lib.hid (ho.nw _ _ _ _ A_7C.out R_7.out)
        replace G := Lib.hid (ho.gr _ (by have := L_C.out; have := E0.out; omega) G.out)
        clear ho
        refine hK.out _ _ (Kr.noStill (by kernel_rfl)) ?_
        clear hK K
        (try simp only [Act.put, List.getElem_toArray, List.getElem_cons_zero, List.getElem_cons_succ, List.setIfInBounds_toArray, List.set_cons_zero, List.set_cons_succ])
        refine Kr.doneL (by kernel_rfl) ?_ _
        go_wp2
        go_roundw
        case rel => exact ⟨_, _, _, _, _, _, _, _, _, _, _, _, _, _, _, _, _, _, Lib.hid ⟨G.out, k_m, k_r, f_r, R_m.out, N_BC.out, L_B.out, L_C.out, A_mB.out, A_mC.out, S_B, S_C, R_2.out, R_3.out, R_d.out, R_7.out, A_2B.out, A_2C.out, A_3B.out, A_3C.out, A_dB.out, A_dC.out, A_7B.out, A_7C.out, A_3R.out, A_7R.out, HE.out.step HP.out⟩⟩
        case measure => rw [HMe.out, numAt_eq S_C.c0 R_d.out, val_digs]; exact Nat.mod_lt _ HP.out
end Go.Proofs.Ytlciocebbckdcaa.Mo


/- The contracts of natmod's Inverse. -/
namespace Go.Proofs.Ytlciocebbckdcaa.Mo
open Go.RowKit Go.Shelf Go.Proofs.Ytlciocebbckdcaa.Nm Go.Proofs.Ytlciocebbckdcaa.Ne Go.Proofs.Ytlciocebbckdcaa.Nf Go.Proofs.Ytlciocebbckdcaa.Nk Go.Proofs.Ytlciocebbckdcaa.Nv Go.Proofs.Ytlciocebbckdcaa.Nr2 Go.Proofs.Ytlciocebbckdcaa.Mo Go.Proofs.Ytlciocebbckdcaa.Mr Go.Proofs.Ytlciocebbckdcaa.Kr

set_option linter.unusedSimpArgs false in
set_option maxRecDepth 100000 in
set_option maxHeartbeats 16000000 in
theorem mInverse_err1 {pa : Option Addr} {na ca : Nat} {pm : Option Addr} {nm cm : Nat} {w : World} (hC : Chk w (.agg #[.slice pa na ca]) (.agg #[.slice pm nm cm]) (.agg #[.slice none 0 0]) (.agg #[.slice pm nm cm]) 1) :
    Calls Try.prog 32 #[.agg #[.slice pa na ca], .agg #[.slice pm nm cm]] w (HasE 0 1 w) := by
  have HC := Lib.hid hC
  clear hC
  have H := Sta.start w
  go_enter Try.func32, Try.ntmps32
  go_upto_region 0 with fail
  refine Kr.seqStart ?_
  refine Kr.seqS (fun K hK => ?_)
  go_simp
  obtain ⟨y1, hy⟩ : ∃ y, w.alloc (.cells #[.slice pa na ca] 24) = y := ⟨_, rfl⟩
  obtain ⟨ba, hb⟩ : ∃ b, w.heap.size = b := ⟨_, rfl⟩
  rw [hy, hb]
  replace H := H.alloc hy hb rfl
  clear hy hb
  refine hK.out _ _ ?_; clear hK K
  (try simp only [Act.put, List.getElem_toArray, List.getElem_cons_zero, List.getElem_cons_succ, List.setIfInBounds_toArray, List.set_cons_zero, List.set_cons_succ])
  refine Kr.seqS (fun K hK => ?_)
  go_simp
  obtain ⟨y2, hy⟩ : ∃ y, y1.alloc (.cells #[.slice pm nm cm] 24) = y := ⟨_, rfl⟩
  obtain ⟨bm, hb⟩ : ∃ b, y1.heap.size = b := ⟨_, rfl⟩
  rw [hy, hb]
  replace H := H.alloc hy hb rfl
  clear hy hb
  refine hK.out _ _ ?_; clear hK K
  (try simp only [Act.put, List.getElem_toArray, List.getElem_cons_zero, List.getElem_cons_succ, List.setIfInBounds_toArray, List.set_cons_zero, List.set_cons_succ])
  refine Kr.seqS (fun K hK => ?_)
  go_simp
  obtain ⟨y3, hy⟩ : ∃ y, y2.alloc (.cells #[.slice none 0 0] 24) = y := ⟨_, rfl⟩
  obtain ⟨br, hb⟩ : ∃ b, y2.heap.size = b := ⟨_, rfl⟩
  rw [hy, hb]
  replace H := H.alloc hy hb rfl
  clear hy hb
  refine hK.out _ _ ?_; clear hK K
  (try simp only [Act.put, List.getElem_toArray, List.getElem_cons_zero, List.getElem_cons_succ, List.setIfInBounds_toArray, List.set_cons_zero, List.set_cons_succ])
  (refine Kr.seqP (v := ?_) (by rfl) ?_ ?_; rotate_left; (focus (go_simp; first | done | rfl)); (try simp only [Act.put, List.getElem_toArray, List.getElem_cons_zero, List.getElem_cons_succ, List.setIfInBounds_toArray, List.set_cons_zero, List.set_cons_succ]))
  refine Kr.seqDone ?_
  go_upto_region 1 with fail
  refine Kr.seqStart ?_
  have hk := H.c
  simp only [Kr.Cells] at hk
  iterate 4 (refine Kr.seqP (v := ?_) (by rfl) ?_ ?_; rotate_left; (focus (go_simp; first | done | rfl)); (try simp only [Act.put, List.getElem_toArray, List.getElem_cons_zero, List.getElem_cons_succ, List.setIfInBounds_toArray, List.set_cons_zero, List.set_cons_succ]))
  refine Kr.seqS (fun K hK => ?_)
  go_simp
  go_at_call 70
  refine (HC.out _ H.g).mono ?_
  rintro e y4 ⟨rfl, hg⟩
  clear hk
  replace H := H.grow hg
  clear hg
  refine hK.out _ _ ?_; clear hK K
  (try simp only [Act.put, List.getElem_toArray, List.getElem_cons_zero, List.getElem_cons_succ, List.setIfInBounds_toArray, List.set_cons_zero, List.set_cons_succ])
  (refine Kr.seqP (v := ?_) (by rfl) ?_ ?_; rotate_left; (focus (go_simp; first | done | rfl)); (try simp only [Act.put, List.getElem_toArray, List.getElem_cons_zero, List.getElem_cons_succ, List.setIfInBounds_toArray, List.set_cons_zero, List.set_cons_succ]))
  refine Kr.seqDone ?_
  go_upto_region 2 with fail
  refine Kr.seqStart ?_
  iterate 2 (refine Kr.seqP (v := ?_) (by rfl) ?_ ?_; rotate_left; (focus (go_simp; first | done | rfl)); (try simp only [Act.put, List.getElem_toArray, List.getElem_cons_zero, List.getElem_cons_succ, List.setIfInBounds_toArray, List.set_cons_zero, List.set_cons_succ]))
  refine Kr.seqDone ?_
  go_upto_region 3 with fail
  refine Kr.seqStart ?_
  iterate 2 (refine Kr.seqP (v := ?_) (by rfl) ?_ ?_; rotate_left; (focus (go_simp; first | done | rfl)); (try simp only [Act.put, List.getElem_toArray, List.getElem_cons_zero, List.getElem_cons_succ, List.setIfInBounds_toArray, List.set_cons_zero, List.set_cons_succ]))
  have hk := H.c
  simp only [Kr.Cells] at hk
  refine Kr.seqS (fun K hK => ?_)
  go_simp
  clear hk
  obtain ⟨y5, hy⟩ : ∃ y, y4.setCell ⟨br, 0, none⟩ (.slice none 0 0) = y := ⟨_, rfl⟩
  rw [hy]
  replace H := H.store 0 hy rfl rfl
  dsimp only [List.set] at H
  clear hy
  refine hK.out _ _ ?_; clear hK K
  (try simp only [Act.put, List.getElem_toArray, List.getElem_cons_zero, List.getElem_cons_succ, List.setIfInBounds_toArray, List.set_cons_zero, List.set_cons_succ])
  (refine Kr.seqP (v := ?_) (by rfl) ?_ ?_; rotate_left; (focus (go_simp; first | done | rfl)); (try simp only [Act.put, List.getElem_toArray, List.getElem_cons_zero, List.getElem_cons_succ, List.setIfInBounds_toArray, List.set_cons_zero, List.set_cons_succ]))
  refine Kr.seqDone ?_
  have hk := H.c
  simp only [Kr.Cells] at hk
  go_wp2
  refine bodyPost_ret (v := .tuple #[.agg #[.slice none 0 0], .int .i64 1]) (by simp [results, Try.results32, go_sem, hk]) rfl ⟨none, 0, 0, rfl, nw_none _, H.g⟩
set_option linter.unusedSimpArgs false in
set_option maxRecDepth 100000 in
set_option maxHeartbeats 16000000 in
theorem mInverse_err2 {pa : Option Addr} {na ca : Nat} {pm : Option Addr} {nm cm : Nat} {w : World} (hC : Chk w (.agg #[.slice pa na ca]) (.agg #[.slice pm nm cm]) (.agg #[.slice none 0 0]) (.agg #[.slice pm nm cm]) 2) :
    Calls Try.prog 32 #[.agg #[.slice pa na ca], .agg #[.slice pm nm cm]] w (HasE 0 2 w) := by
  have HC := Lib.hid hC
  clear hC
  have H := Sta.start w
  go_enter Try.func32, Try.ntmps32
  go_upto_region 0 with fail
  refine Kr.seqStart ?_
  refine Kr.seqS (fun K hK => ?_)
  go_simp
  obtain ⟨y1, hy⟩ : ∃ y, w.alloc (.cells #[.slice pa na ca] 24) = y := ⟨_, rfl⟩
  obtain ⟨ba, hb⟩ : ∃ b, w.heap.size = b := ⟨_, rfl⟩
  rw [hy, hb]
  replace H := H.alloc hy hb rfl
  clear hy hb
  refine hK.out _ _ ?_; clear hK K
  (try simp only [Act.put, List.getElem_toArray, List.getElem_cons_zero, List.getElem_cons_succ, List.setIfInBounds_toArray, List.set_cons_zero, List.set_cons_succ])
  refine Kr.seqS (fun K hK => ?_)
  go_simp
  obtain ⟨y2, hy⟩ : ∃ y, y1.alloc (.cells #[.slice pm nm cm] 24) = y := ⟨_, rfl⟩
  obtain ⟨bm, hb⟩ : ∃ b, y1.heap.size = b := ⟨_, rfl⟩
  rw [hy, hb]
  replace H := H.alloc hy hb rfl
  clear hy hb
  refine hK.out _ _ ?_; clear hK K
  (try simp only [Act.put, List.getElem_toArray, List.getElem_cons_zero, List.getElem_cons_succ, List.setIfInBounds_toArray, List.set_cons_zero, List.set_cons_succ])
  refine Kr.seqS (fun K hK => ?_)
  go_simp
  obtain ⟨y3, hy⟩ : ∃ y, y2.alloc (.cells #[.slice none 0 0] 24) = y := ⟨_, rfl⟩
  obtain ⟨br, hb⟩ : ∃ b, y2.heap.size = b := ⟨_, rfl⟩
  rw [hy, hb]
  replace H := H.alloc hy hb rfl
  clear hy hb
  refine hK.out _ _ ?_; clear hK K
  (try simp only [Act.put, List.getElem_toArray, List.getElem_cons_zero, List.getElem_cons_succ, List.setIfInBounds_toArray, List.set_cons_zero, List.set_cons_succ])
  (refine Kr.seqP (v := ?_) (by rfl) ?_ ?_; rotate_left; (focus (go_simp; first | done | rfl)); (try simp only [Act.put, List.getElem_toArray, List.getElem_cons_zero, List.getElem_cons_succ, List.setIfInBounds_toArray, List.set_cons_zero, List.set_cons_succ]))
  refine Kr.seqDone ?_
  go_upto_region 1 with fail
  refine Kr.seqStart ?_
  have hk := H.c
  simp only [Kr.Cells] at hk
  iterate 4 (refine Kr.seqP (v := ?_) (by rfl) ?_ ?_; rotate_left; (focus (go_simp; first | done | rfl)); (try simp only [Act.put, List.getElem_toArray, List.getElem_cons_zero, List.getElem_cons_succ, List.setIfInBounds_toArray, List.set_cons_zero, List.set_cons_succ]))
  refine Kr.seqS (fun K hK => ?_)
  go_simp
  go_at_call 70
  refine (HC.out _ H.g).mono ?_
  rintro e y4 ⟨rfl, hg⟩
  clear hk
  replace H := H.grow hg
  clear hg
  refine hK.out _ _ ?_; clear hK K
  (try simp only [Act.put, List.getElem_toArray, List.getElem_cons_zero, List.getElem_cons_succ, List.setIfInBounds_toArray, List.set_cons_zero, List.set_cons_succ])
  (refine Kr.seqP (v := ?_) (by rfl) ?_ ?_; rotate_left; (focus (go_simp; first | done | rfl)); (try simp only [Act.put, List.getElem_toArray, List.getElem_cons_zero, List.getElem_cons_succ, List.setIfInBounds_toArray, List.set_cons_zero, List.set_cons_succ]))
  refine Kr.seqDone ?_
  go_upto_region 2 with fail
  refine Kr.seqStart ?_
  iterate 2 (refine Kr.seqP (v := ?_) (by rfl) ?_ ?_; rotate_left; (focus (go_simp; first | done | rfl)); (try simp only [Act.put, List.getElem_toArray, List.getElem_cons_zero, List.getElem_cons_succ, List.setIfInBounds_toArray, List.set_cons_zero, List.set_cons_succ]))
  refine Kr.seqDone ?_
  go_upto_region 3 with fail
  refine Kr.seqStart ?_
  iterate 2 (refine Kr.seqP (v := ?_) (by rfl) ?_ ?_; rotate_left; (focus (go_simp; first | done | rfl)); (try simp only [Act.put, List.getElem_toArray, List.getElem_cons_zero, List.getElem_cons_succ, List.setIfInBounds_toArray, List.set_cons_zero, List.set_cons_succ]))
  have hk := H.c
  simp only [Kr.Cells] at hk
  refine Kr.seqS (fun K hK => ?_)
  go_simp
  clear hk
  obtain ⟨y5, hy⟩ : ∃ y, y4.setCell ⟨br, 0, none⟩ (.slice none 0 0) = y := ⟨_, rfl⟩
  rw [hy]
  replace H := H.store 0 hy rfl rfl
  dsimp only [List.set] at H
  clear hy
  refine hK.out _ _ ?_; clear hK K
  (try simp only [Act.put, List.getElem_toArray, List.getElem_cons_zero, List.getElem_cons_succ, List.setIfInBounds_toArray, List.set_cons_zero, List.set_cons_succ])
  (refine Kr.seqP (v := ?_) (by rfl) ?_ ?_; rotate_left; (focus (go_simp; first | done | rfl)); (try simp only [Act.put, List.getElem_toArray, List.getElem_cons_zero, List.getElem_cons_succ, List.setIfInBounds_toArray, List.set_cons_zero, List.set_cons_succ]))
  refine Kr.seqDone ?_
  have hk := H.c
  simp only [Kr.Cells] at hk
  go_wp2
  refine bodyPost_ret (v := .tuple #[.agg #[.slice none 0 0], .int .i64 2]) (by simp [results, Try.results32, go_sem, hk]) rfl ⟨none, 0, 0, rfl, nw_none _, H.g⟩
set_option linter.unusedSimpArgs false in
set_option maxRecDepth 100000 in
set_option maxHeartbeats 16000000 in
theorem mInverse_ok {pa : Option Addr} {na ca : Nat} {pm : Option Addr} {nm cm : Nat} {x m : Nat} {w : World} (ha : Nw w pa na ca (digs x)) (hm : Nw w pm nm cm (digs m)) (hx : x < m) (vm : m < pw 32) (hg1 : Nat.gcd x m = 1) (hC : Chk w (.agg #[.slice pa na ca]) (.agg #[.slice pm nm cm]) (.agg #[.slice none 0 0]) (.agg #[.slice pm nm cm]) 0) :
    Calls Try.prog 32 #[.agg #[.slice pa na ca], .agg #[.slice pm nm cm]] w (fun e w' => ∃ z, IsInv x m z ∧ HasE z 0 w e w') := by
  have HC := Lib.hid hC
  clear hC
  have HX := Lib.hid hx
  have VM := Lib.hid vm
  have HG1 := Lib.hid hg1
  clear hx vm hg1
  have H := Sta.start w
  replace H := H.num ha
  replace H := H.num hm
  go_enter Try.func32, Try.ntmps32
  go_upto_region 0 with fail
  refine Kr.seqStart ?_
  refine Kr.seqS (fun K hK => ?_)
  go_simp
  obtain ⟨y1, hy⟩ : ∃ y, w.alloc (.cells #[.slice pa na ca] 24) = y := ⟨_, rfl⟩
  obtain ⟨ba, hb⟩ : ∃ b, w.heap.size = b := ⟨_, rfl⟩
  rw [hy, hb]
  replace H := H.alloc hy hb rfl
  clear hy hb
  refine hK.out _ _ ?_; clear hK K
  (try simp only [Act.put, List.getElem_toArray, List.getElem_cons_zero, List.getElem_cons_succ, List.setIfInBounds_toArray, List.set_cons_zero, List.set_cons_succ])
  refine Kr.seqS (fun K hK => ?_)
  go_simp
  obtain ⟨y2, hy⟩ : ∃ y, y1.alloc (.cells #[.slice pm nm cm] 24) = y := ⟨_, rfl⟩
  obtain ⟨bm, hb⟩ : ∃ b, y1.heap.size = b := ⟨_, rfl⟩
  rw [hy, hb]
  replace H := H.alloc hy hb rfl
  clear hy hb
  refine hK.out _ _ ?_; clear hK K
  (try simp only [Act.put, List.getElem_toArray, List.getElem_cons_zero, List.getElem_cons_succ, List.setIfInBounds_toArray, List.set_cons_zero, List.set_cons_succ])
  refine Kr.seqS (fun K hK => ?_)
  go_simp
  obtain ⟨y3, hy⟩ : ∃ y, y2.alloc (.cells #[.slice none 0 0] 24) = y := ⟨_, rfl⟩
  obtain ⟨br, hb⟩ : ∃ b, y2.heap.size = b := ⟨_, rfl⟩
  rw [hy, hb]
  replace H := H.alloc hy hb rfl
  clear hy hb
  refine hK.out _ _ ?_; clear hK K
  (try simp only [Act.put, List.getElem_toArray, List.getElem_cons_zero, List.getElem_cons_succ, List.setIfInBounds_toArray, List.set_cons_zero, List.set_cons_succ])
  (refine Kr.seqP (v := ?_) (by rfl) ?_ ?_; rotate_left; (focus (go_simp; first | done | rfl)); (try simp only [Act.put, List.getElem_toArray, List.getElem_cons_zero, List.getElem_cons_succ, List.setIfInBounds_toArray, List.set_cons_zero, List.set_cons_succ]))
  refine Kr.seqDone ?_
  go_upto_region 1 with fail
  refine Kr.seqStart ?_
  have hk := H.c
  simp only [Kr.Cells] at hk
  iterate 4 (refine Kr.seqP (v := ?_) (by rfl) ?_ ?_; rotate_left; (focus (go_simp; first | done | rfl)); (try simp only [Act.put, List.getElem_toArray, List.getElem_cons_zero, List.getElem_cons_succ, List.setIfInBounds_toArray, List.set_cons_zero, List.set_cons_succ]))
  refine Kr.seqS (fun K hK => ?_)
  go_simp
  go_at_call 70
  refine (HC.out _ H.g).mono ?_
  rintro e y4 ⟨rfl, hg⟩
  clear hk
  replace H := H.grow hg
  clear hg
  refine hK.out _ _ ?_; clear hK K
  (try simp only [Act.put, List.getElem_toArray, List.getElem_cons_zero, List.getElem_cons_succ, List.setIfInBounds_toArray, List.set_cons_zero, List.set_cons_succ])
  (refine Kr.seqP (v := ?_) (by rfl) ?_ ?_; rotate_left; (focus (go_simp; first | done | rfl)); (try simp only [Act.put, List.getElem_toArray, List.getElem_cons_zero, List.getElem_cons_succ, List.setIfInBounds_toArray, List.set_cons_zero, List.set_cons_succ]))
  refine Kr.seqDone ?_
  go_upto_region 2 with fail
  refine Kr.seqStart ?_
  iterate 2 (refine Kr.seqP (v := ?_) (by rfl) ?_ ?_; rotate_left; (focus (go_simp; first | done | rfl)); (try simp only [Act.put, List.getElem_toArray, List.getElem_cons_zero, List.getElem_cons_succ, List.setIfInBounds_toArray, List.set_cons_zero, List.set_cons_succ]))
  refine Kr.seqDone ?_
  go_upto_region 4 with fail
  refine Kr.seqStart ?_
  have hk := H.c
  simp only [Kr.Cells] at hk
  iterate 2 (refine Kr.seqP (v := ?_) (by rfl) ?_ ?_; rotate_left; (focus (go_simp; first | done | rfl)); (try simp only [Act.put, List.getElem_toArray, List.getElem_cons_zero, List.getElem_cons_succ, List.setIfInBounds_toArray, List.set_cons_zero, List.set_cons_succ]))
  refine Kr.seqS (fun K hK => ?_)
  go_simp
  go_at_call 88
  refine (invert_v (H.nw 1 rfl) (H.nw 0 rfl) HX.out VM.out).mono ?_
  rintro e yi ⟨pi, ni, ci, z, rfl, h1, h2, hr, hg⟩
  rw [decide_eq_true HG1.out]
  have HI := Lib.hid (h1 HG1.out)
  clear hk
  replace H := H.grow hg
  replace H := H.num hr
  clear hr hg h1 h2
  refine hK.out _ _ ?_; clear hK K
  (try simp only [Act.put, List.getElem_toArray, List.getElem_cons_zero, List.getElem_cons_succ, List.setIfInBounds_toArray, List.set_cons_zero, List.set_cons_succ])
  iterate 3 (refine Kr.seqP (v := ?_) (by rfl) ?_ ?_; rotate_left; (focus (go_simp; first | done | rfl)); (try simp only [Act.put, List.getElem_toArray, List.getElem_cons_zero, List.getElem_cons_succ, List.setIfInBounds_toArray, List.set_cons_zero, List.set_cons_succ]))
  refine Kr.seqS (fun K hK => ?_)
  go_simp
  obtain ⟨y5, hy⟩ : ∃ y, yi.alloc (.cells #[.slice none 0 0] 24) = y := ⟨_, rfl⟩
  obtain ⟨bx, hb⟩ : ∃ b, yi.heap.size = b := ⟨_, rfl⟩
  rw [hy, hb]
  replace H := H.alloc hy hb rfl
  clear hy hb
  refine hK.out _ _ ?_; clear hK K
  (try simp only [Act.put, List.getElem_toArray, List.getElem_cons_zero, List.getElem_cons_succ, List.setIfInBounds_toArray, List.set_cons_zero, List.set_cons_succ])
  have hk := H.c
  simp only [Kr.Cells] at hk
  refine Kr.seqS (fun K hK => ?_)
  go_simp
  clear hk
  obtain ⟨y6, hy⟩ : ∃ y, y5.setCell ⟨bx, 0, none⟩ (.slice pi ni ci) = y := ⟨_, rfl⟩
  rw [hy]
  replace H := H.store 0 hy rfl rfl
  dsimp only [List.set] at H
  clear hy
  refine hK.out _ _ ?_; clear hK K
  (try simp only [Act.put, List.getElem_toArray, List.getElem_cons_zero, List.getElem_cons_succ, List.setIfInBounds_toArray, List.set_cons_zero, List.set_cons_succ])
  (refine Kr.seqP (v := ?_) (by rfl) ?_ ?_; rotate_left; (focus (go_simp; first | done | rfl)); (try simp only [Act.put, List.getElem_toArray, List.getElem_cons_zero, List.getElem_cons_succ, List.setIfInBounds_toArray, List.set_cons_zero, List.set_cons_succ]))
  refine Kr.seqDone ?_
  go_upto_region 5 with fail
  refine Kr.seqStart ?_
  iterate 2 (refine Kr.seqP (v := ?_) (by rfl) ?_ ?_; rotate_left; (focus (go_simp; first | done | rfl)); (try simp only [Act.put, List.getElem_toArray, List.getElem_cons_zero, List.getElem_cons_succ, List.setIfInBounds_toArray, List.set_cons_zero, List.set_cons_succ]))
  refine Kr.seqDone ?_
  go_upto_region 7 with fail
  refine Kr.seqStart ?_
  have hk := H.c
  simp only [Kr.Cells] at hk
  (refine Kr.seqP (v := ?_) (by rfl) ?_ ?_; rotate_left; (focus (go_simp; first | done | rfl)); (try simp only [Act.put, List.getElem_toArray, List.getElem_cons_zero, List.getElem_cons_succ, List.setIfInBounds_toArray, List.set_cons_zero, List.set_cons_succ]))
  refine Kr.seqS (fun K hK => ?_)
  go_simp
  clear hk
  obtain ⟨y7, hy⟩ : ∃ y, y6.setCell ⟨br, 0, none⟩ (.slice pi ni ci) = y := ⟨_, rfl⟩
  rw [hy]
  replace H := H.store 1 hy rfl rfl
  dsimp only [List.set] at H
  clear hy
  refine hK.out _ _ ?_; clear hK K
  (try simp only [Act.put, List.getElem_toArray, List.getElem_cons_zero, List.getElem_cons_succ, List.setIfInBounds_toArray, List.set_cons_zero, List.set_cons_succ])
  (refine Kr.seqP (v := ?_) (by rfl) ?_ ?_; rotate_left; (focus (go_simp; first | done | rfl)); (try simp only [Act.put, List.getElem_toArray, List.getElem_cons_zero, List.getElem_cons_succ, List.setIfInBounds_toArray, List.set_cons_zero, List.set_cons_succ]))
  refine Kr.seqDone ?_
  have hk := H.c
  simp only [Kr.Cells] at hk
  go_wp2
  refine bodyPost_ret (v := .tuple #[.agg #[.slice pi ni ci], .int .i64 0]) (by simp [results, Try.results32, go_sem, hk]) rfl ⟨z, HI.out, pi, ni, ci, rfl, H.nw 0 rfl, H.g⟩
set_option linter.unusedSimpArgs false in
set_option maxRecDepth 100000 in
set_option maxHeartbeats 16000000 in
theorem mInverse_no {pa : Option Addr} {na ca : Nat} {pm : Option Addr} {nm cm : Nat} {x m : Nat} {w : World} (ha : Nw w pa na ca (digs x)) (hm : Nw w pm nm cm (digs m)) (hx : x < m) (vm : m < pw 32) (hg1 : Nat.gcd x m ≠ 1) (hC : Chk w (.agg #[.slice pa na ca]) (.agg #[.slice pm nm cm]) (.agg #[.slice none 0 0]) (.agg #[.slice pm nm cm]) 0) :
    Calls Try.prog 32 #[.agg #[.slice pa na ca], .agg #[.slice pm nm cm]] w ((HasE 0 10 w)) := by
  have HC := Lib.hid hC
  clear hC
  have HX := Lib.hid hx
  have VM := Lib.hid vm
  have HG1 := Lib.hid hg1
  clear hx vm hg1
  have H := Sta.start w
  replace H := H.num ha
  replace H := H.num hm
  go_enter Try.func32, Try.ntmps32
  go_upto_region 0 with fail
  refine Kr.seqStart ?_
  refine Kr.seqS (fun K hK => ?_)
  go_simp
  obtain ⟨y1, hy⟩ : ∃ y, w.alloc (.cells #[.slice pa na ca] 24) = y := ⟨_, rfl⟩
  obtain ⟨ba, hb⟩ : ∃ b, w.heap.size = b := ⟨_, rfl⟩
  rw [hy, hb]
  replace H := H.alloc hy hb rfl
  clear hy hb
  refine hK.out _ _ ?_; clear hK K
  (try simp only [Act.put, List.getElem_toArray, List.getElem_cons_zero, List.getElem_cons_succ, List.setIfInBounds_toArray, List.set_cons_zero, List.set_cons_succ])
  refine Kr.seqS (fun K hK => ?_)
  go_simp
  obtain ⟨y2, hy⟩ : ∃ y, y1.alloc (.cells #[.slice pm nm cm] 24) = y := ⟨_, rfl⟩
  obtain ⟨bm, hb⟩ : ∃ b, y1.heap.size = b := ⟨_, rfl⟩
  rw [hy, hb]
  replace H := H.alloc hy hb rfl
  clear hy hb
  refine hK.out _ _ ?_; clear hK K
  (try simp only [Act.put, List.getElem_toArray, List.getElem_cons_zero, List.getElem_cons_succ, List.setIfInBounds_toArray, List.set_cons_zero, List.set_cons_succ])
  refine Kr.seqS (fun K hK => ?_)
  go_simp
  obtain ⟨y3, hy⟩ : ∃ y, y2.alloc (.cells #[.slice none 0 0] 24) = y := ⟨_, rfl⟩
  obtain ⟨br, hb⟩ : ∃ b, y2.heap.size = b := ⟨_, rfl⟩
  rw [hy, hb]
  replace H := H.alloc hy hb rfl
  clear hy hb
  refine hK.out _ _ ?_; clear hK K
  (try simp only [Act.put, List.getElem_toArray, List.getElem_cons_zero, List.getElem_cons_succ, List.setIfInBounds_toArray, List.set_cons_zero, List.set_cons_succ])
  (refine Kr.seqP (v := ?_) (by rfl) ?_ ?_; rotate_left; (focus (go_simp; first | done | rfl)); (try simp only [Act.put, List.getElem_toArray, List.getElem_cons_zero, List.getElem_cons_succ, List.setIfInBounds_toArray, List.set_cons_zero, List.set_cons_succ]))
  refine Kr.seqDone ?_
  go_upto_region 1 with fail
  refine Kr.seqStart ?_
  have hk := H.c
  simp only [Kr.Cells] at hk
  iterate 4 (refine Kr.seqP (v := ?_) (by rfl) ?_ ?_; rotate_left; (focus (go_simp; first | done | rfl)); (try simp only [Act.put, List.getElem_toArray, List.getElem_cons_zero, List.getElem_cons_succ, List.setIfInBounds_toArray, List.set_cons_zero, List.set_cons_succ]))
  refine Kr.seqS (fun K hK => ?_)
  go_simp
  go_at_call 70
  refine (HC.out _ H.g).mono ?_
  rintro e y4 ⟨rfl, hg⟩
  clear hk
  replace H := H.grow hg
  clear hg
  refine hK.out _ _ ?_; clear hK K
  (try simp only [Act.put, List.getElem_toArray, List.getElem_cons_zero, List.getElem_cons_succ, List.setIfInBounds_toArray, List.set_cons_zero, List.set_cons_succ])
  (refine Kr.seqP (v := ?_) (by rfl) ?_ ?_; rotate_left; (focus (go_simp; first | done | rfl)); (try simp only [Act.put, List.getElem_toArray, List.getElem_cons_zero, List.getElem_cons_succ, List.setIfInBounds_toArray, List.set_cons_zero, List.set_cons_succ]))
  refine Kr.seqDone ?_
  go_upto_region 2 with fail
  refine Kr.seqStart ?_
  iterate 2 (refine Kr.seqP (v := ?_) (by rfl) ?_ ?_; rotate_left; (focus (go_simp; first | done | rfl)); (try simp only [Act.put, List.getElem_toArray, List.getElem_cons_zero, List.getElem_cons_succ, List.setIfInBounds_toArray, List.set_cons_zero, List.set_cons_succ]))
  refine Kr.seqDone ?_
  go_upto_region 4 with fail
  refine Kr.seqStart ?_
  have hk := H.c
  simp only [Kr.Cells] at hk
  iterate 2 (refine Kr.seqP (v := ?_) (by rfl) ?_ ?_; rotate_left; (focus (go_simp; first | done | rfl)); (try simp only [Act.put, List.getElem_toArray, List.getElem_cons_zero, List.getElem_cons_succ, List.setIfInBounds_toArray, List.set_cons_zero, List.set_cons_succ]))
  refine Kr.seqS (fun K hK => ?_)
  go_simp
  go_at_call 88
  refine (invert_v (H.nw 1 rfl) (H.nw 0 rfl) HX.out VM.out).mono ?_
  rintro e yi ⟨pi, ni, ci, z, rfl, h1, h2, hr, hg⟩
  rw [decide_eq_false HG1.out]
  clear hk
  replace H := H.grow hg
  replace H := H.num hr
  clear hr hg h1 h2
  refine hK.out _ _ ?_; clear hK K
  (try simp only [Act.put, List.getElem_toArray, List.getElem_cons_zero, List.getElem_cons_succ, List.setIfInBounds_toArray, List.set_cons_zero, List.set_cons_succ])
  iterate 3 (refine Kr.seqP (v := ?_) (by rfl) ?_ ?_; rotate_left; (focus (go_simp; first | done | rfl)); (try simp only [Act.put, List.getElem_toArray, List.getElem_cons_zero, List.getElem_cons_succ, List.setIfInBounds_toArray, List.set_cons_zero, List.set_cons_succ]))
  refine Kr.seqS (fun K hK => ?_)
  go_simp
  obtain ⟨y5, hy⟩ : ∃ y, yi.alloc (.cells #[.slice none 0 0] 24) = y := ⟨_, rfl⟩
  obtain ⟨bx, hb⟩ : ∃ b, yi.heap.size = b := ⟨_, rfl⟩
  rw [hy, hb]
  replace H := H.alloc hy hb rfl
  clear hy hb
  refine hK.out _ _ ?_; clear hK K
  (try simp only [Act.put, List.getElem_toArray, List.getElem_cons_zero, List.getElem_cons_succ, List.setIfInBounds_toArray, List.set_cons_zero, List.set_cons_succ])
  have hk := H.c
  simp only [Kr.Cells] at hk
  refine Kr.seqS (fun K hK => ?_)
  go_simp
  clear hk
  obtain ⟨y6, hy⟩ : ∃ y, y5.setCell ⟨bx, 0, none⟩ (.slice pi ni ci) = y := ⟨_, rfl⟩
  rw [hy]
  replace H := H.store 0 hy rfl rfl
  dsimp only [List.set] at H
  clear hy
  refine hK.out _ _ ?_; clear hK K
  (try simp only [Act.put, List.getElem_toArray, List.getElem_cons_zero, List.getElem_cons_succ, List.setIfInBounds_toArray, List.set_cons_zero, List.set_cons_succ])
  (refine Kr.seqP (v := ?_) (by rfl) ?_ ?_; rotate_left; (focus (go_simp; first | done | rfl)); (try simp only [Act.put, List.getElem_toArray, List.getElem_cons_zero, List.getElem_cons_succ, List.setIfInBounds_toArray, List.set_cons_zero, List.set_cons_succ]))
  refine Kr.seqDone ?_
  go_upto_region 5 with fail
  refine Kr.seqStart ?_
  iterate 2 (refine Kr.seqP (v := ?_) (by rfl) ?_ ?_; rotate_left; (focus (go_simp; first | done | rfl)); (try simp only [Act.put, List.getElem_toArray, List.getElem_cons_zero, List.getElem_cons_succ, List.setIfInBounds_toArray, List.set_cons_zero, List.set_cons_succ]))
  refine Kr.seqDone ?_
  go_upto_region 6 with fail
  refine Kr.seqStart ?_
  (refine Kr.seqP (v := ?_) (by rfl) ?_ ?_; rotate_left; (focus (go_simp; first | done | rfl)); (try simp only [Act.put, List.getElem_toArray, List.getElem_cons_zero, List.getElem_cons_succ, List.setIfInBounds_toArray, List.set_cons_zero, List.set_cons_succ]))
  have hk := H.c
  simp only [Kr.Cells] at hk
  refine Kr.seqS (fun K hK => ?_)
  go_simp
  clear hk
  obtain ⟨y7, hy⟩ : ∃ y, y6.setCell ⟨br, 0, none⟩ (.slice none 0 0) = y := ⟨_, rfl⟩
  rw [hy]
  replace H := H.store 1 hy rfl rfl
  dsimp only [List.set] at H
  clear hy
  refine hK.out _ _ ?_; clear hK K
  (try simp only [Act.put, List.getElem_toArray, List.getElem_cons_zero, List.getElem_cons_succ, List.setIfInBounds_toArray, List.set_cons_zero, List.set_cons_succ])
  (refine Kr.seqP (v := ?_) (by rfl) ?_ ?_; rotate_left; (focus (go_simp; first | done | rfl)); (try simp only [Act.put, List.getElem_toArray, List.getElem_cons_zero, List.getElem_cons_succ, List.setIfInBounds_toArray, List.set_cons_zero, List.set_cons_succ]))
  refine Kr.seqDone ?_
  have hk := H.c
  simp only [Kr.Cells] at hk
  go_wp2
  refine bodyPost_ret (v := .tuple #[.agg #[.slice none 0 0], .int .i64 10]) (by simp [results, Try.results32, go_sem, hk]) rfl ⟨none, 0, 0, rfl, nw_none _, H.g⟩
end Go.Proofs.Ytlciocebbckdcaa.Mo


/- natmod's Add, Sub, Mul for residues, by value. -/
namespace Go.Proofs.Ytlciocebbckdcaa.Mo
open Go.RowKit Go.Shelf Go.Proofs.Ytlciocebbckdcaa.Nm Go.Proofs.Ytlciocebbckdcaa.Ne Go.Proofs.Ytlciocebbckdcaa.Nf Go.Proofs.Ytlciocebbckdcaa.Nk Go.Proofs.Ytlciocebbckdcaa.Nv Go.Proofs.Ytlciocebbckdcaa.Nr2 Go.Proofs.Ytlciocebbckdcaa.Mr Go.Proofs.Ytlciocebbckdcaa.Kr

theorem chk_ok {pa : Option Addr} {na ca : Nat} {pp : Option Addr} {np cp : Nat} {pb : Option Addr} {nb cb : Nat} {pq : Option Addr} {nq cq : Nat} {a p b q : Nat} {w : World} (ha : Nw w pa na ca (digs a)) (hp : Nw w pp np cp (digs p)) (hb : Nw w pb nb cb (digs b)) (hq : Nw w pq nq cq (digs q)) (h1 : a < p) (h2 : b < q) (vp : p < pw 32) (vq : q < pw 32) :
    Chk w (.agg #[.slice pa na ca]) (.agg #[.slice pp np cp]) (.agg #[.slice pb nb cb]) (.agg #[.slice pq nq cq]) 0 := fun W g => by
  have h := check_v (ha.grow g) (hp.grow g) (hb.grow g) (hq.grow g) (lt64 (Nat.lt_trans h1 vp)) (lt64 (Nat.lt_trans h2 vq)) (Nat.lt_of_le_of_lt (Nat.zero_le _) h1) vp (Nat.lt_of_le_of_lt (Nat.zero_le _) h2) vq
  rwa [if_pos ⟨h1, h2⟩] at h
theorem chk_range {pa : Option Addr} {na ca : Nat} {pp : Option Addr} {np cp : Nat} {pb : Option Addr} {nb cb : Nat} {pq : Option Addr} {nq cq : Nat} {a p b q : Nat} {w : World} (ha : Nw w pa na ca (digs a)) (hp : Nw w pp np cp (digs p)) (hb : Nw w pb nb cb (digs b)) (hq : Nw w pq nq cq (digs q)) (va : a < pw 64) (vb : b < pw 64) (h : ¬ (a < p ∧ b < q)) (p0 : 0 < p) (vp : p < pw 32) (q0 : 0 < q) (vq : q < pw 32) :
    Chk w (.agg #[.slice pa na ca]) (.agg #[.slice pp np cp]) (.agg #[.slice pb nb cb]) (.agg #[.slice pq nq cq]) 2 := fun W g => by
  have h := check_v (ha.grow g) (hp.grow g) (hb.grow g) (hq.grow g) va vb p0 vp q0 vq
  rwa [if_neg (by assumption)] at h
theorem chk_arg {pa : Option Addr} {na ca : Nat} {pp : Option Addr} {np cp : Nat} {pb : Option Addr} {nb cb : Nat} {pq : Option Addr} {nq cq : Nat} {la lp lb lq : List Nat} {w : World} (ha : Nw w pa na ca la) (hp : Nw w pp np cp lp) (hb : Nw w pb nb cb lb) (hq : Nw w pq nq cq lq) (hv : (decide (valid la) && (decide (valid lb) && (im lp && im lq))) = false) :
    Chk w (.agg #[.slice pa na ca]) (.agg #[.slice pp np cp]) (.agg #[.slice pb nb cb]) (.agg #[.slice pq nq cq]) 1 := fun _ g => check_arg (ha.grow g) (hp.grow g) (hb.grow g) (hq.grow g) hv
section
variable {pa : Option Addr} {na ca : Nat} {pb : Option Addr} {nb cb : Nat} {pm : Option Addr} {nm cm : Nat} {x y m : Nat} {w : World}
theorem mAdd_v (ha : Nw w pa na ca (digs x)) (hb : Nw w pb nb cb (digs y)) (hm : Nw w pm nm cm (digs m)) (hx : x < m) (hy : y < m) (vm : m < pw 32) :
    Calls Try.prog 20 #[.agg #[.slice pa na ca], .agg #[.slice pb nb cb], .agg #[.slice pm nm cm]] w (Gives ((x + y) % m) 0 w) := mAdd_ok ha hb hm hx hy vm (chk_ok ha hm hb hm hx hy vm vm)
theorem mSub_v (ha : Nw w pa na ca (digs x)) (hb : Nw w pb nb cb (digs y)) (hm : Nw w pm nm cm (digs m)) (hx : x < m) (hy : y < m) (vm : m < pw 32) :
    Calls Try.prog 21 #[.agg #[.slice pa na ca], .agg #[.slice pb nb cb], .agg #[.slice pm nm cm]] w (Gives ((x + m - y) % m) 0 w) := mSub_ok ha hb hm hx hy vm (chk_ok ha hm hb hm hx hy vm vm)
theorem mMul_v (ha : Nw w pa na ca (digs x)) (hb : Nw w pb nb cb (digs y)) (hm : Nw w pm nm cm (digs m)) (hx : x < m) (hy : y < m) (vm : m < pw 32) :
    Calls Try.prog 26 #[.agg #[.slice pa na ca], .agg #[.slice pb nb cb], .agg #[.slice pm nm cm]] w (Gives (x * y % m) 0 w) := mMul_ok ha hb hm hx hy vm (chk_ok ha hm hb hm hx hy vm vm)
end
end Go.Proofs.Ytlciocebbckdcaa.Mo


/- The contracts of natmod's Crt. -/
namespace Go.Proofs.Ytlciocebbckdcaa.Mo
open Go.RowKit Go.Shelf Go.Proofs.Ytlciocebbckdcaa.Nm Go.Proofs.Ytlciocebbckdcaa.Ne Go.Proofs.Ytlciocebbckdcaa.Nf Go.Proofs.Ytlciocebbckdcaa.Nk Go.Proofs.Ytlciocebbckdcaa.Nv Go.Proofs.Ytlciocebbckdcaa.Nr2 Go.Proofs.Ytlciocebbckdcaa.Mo Go.Proofs.Ytlciocebbckdcaa.Mr Go.Proofs.Ytlciocebbckdcaa.Kr
theorem crt_lt {a p q k : Nat} (ha : a < p) (hk : k < q) : a + p * k < p * q := by
  have : p * (k + 1) ≤ p * q := Nat.mul_le_mul_left p hk
  rw [Nat.mul_add] at this
  omega

set_option linter.unusedSimpArgs false in
set_option maxRecDepth 100000 in
set_option maxHeartbeats 16000000 in
theorem mCrt_err1 {pa : Option Addr} {na ca : Nat} {pp : Option Addr} {np cp : Nat} {pb : Option Addr} {nb cb : Nat} {pq : Option Addr} {nq cq : Nat} {w : World} (hC : Chk w (.agg #[.slice pa na ca]) (.agg #[.slice pp np cp]) (.agg #[.slice pb nb cb]) (.agg #[.slice pq nq cq]) 1) :
    Calls Try.prog 35 #[.agg #[.slice pa na ca], .agg #[.slice pp np cp], .agg #[.slice pb nb cb], .agg #[.slice pq nq cq]] w (HasE 0 1 w) := by
  have HC := Lib.hid hC
  clear hC
  have H := Sta.start w
  go_enter Try.func35, Try.ntmps35
  go_upto_region 0 with fail
  refine Kr.seqStart ?_
  refine Kr.seqS (fun K hK => ?_)
  go_simp
  obtain ⟨y1, hy⟩ : ∃ y, w.alloc (.cells #[.slice pa na ca] 24) = y := ⟨_, rfl⟩
  obtain ⟨ba, hb⟩ : ∃ b, w.heap.size = b := ⟨_, rfl⟩
  rw [hy, hb]
  replace H := H.alloc hy hb rfl
  clear hy hb
  refine hK.out _ _ ?_; clear hK K
  (try simp only [Act.put, List.getElem_toArray, List.getElem_cons_zero, List.getElem_cons_succ, List.setIfInBounds_toArray, List.set_cons_zero, List.set_cons_succ])
  refine Kr.seqS (fun K hK => ?_)
  go_simp
  obtain ⟨y2, hy⟩ : ∃ y, y1.alloc (.cells #[.slice pp np cp] 24) = y := ⟨_, rfl⟩
  obtain ⟨bp, hb⟩ : ∃ b, y1.heap.size = b := ⟨_, rfl⟩
  rw [hy, hb]
  replace H := H.alloc hy hb rfl
  clear hy hb
  refine hK.out _ _ ?_; clear hK K
  (try simp only [Act.put, List.getElem_toArray, List.getElem_cons_zero, List.getElem_cons_succ, List.setIfInBounds_toArray, List.set_cons_zero, List.set_cons_succ])
  refine Kr.seqS (fun K hK => ?_)
  go_simp
  obtain ⟨y3, hy⟩ : ∃ y, y2.alloc (.cells #[.slice pb nb cb] 24) = y := ⟨_, rfl⟩
  obtain ⟨bb, hb⟩ : ∃ b, y2.heap.size = b := ⟨_, rfl⟩
  rw [hy, hb]
  replace H := H.alloc hy hb rfl
  clear hy hb
  refine hK.out _ _ ?_; clear hK K
  (try simp only [Act.put, List.getElem_toArray, List.getElem_cons_zero, List.getElem_cons_succ, List.setIfInBounds_toArray, List.set_cons_zero, List.set_cons_succ])
  refine Kr.seqS (fun K hK => ?_)
  go_simp
  obtain ⟨y4, hy⟩ : ∃ y, y3.alloc (.cells #[.slice pq nq cq] 24) = y := ⟨_, rfl⟩
  obtain ⟨bq, hb⟩ : ∃ b, y3.heap.size = b := ⟨_, rfl⟩
  rw [hy, hb]
  replace H := H.alloc hy hb rfl
  clear hy hb
  refine hK.out _ _ ?_; clear hK K
  (try simp only [Act.put, List.getElem_toArray, List.getElem_cons_zero, List.getElem_cons_succ, List.setIfInBounds_toArray, List.set_cons_zero, List.set_cons_succ])
  refine Kr.seqS (fun K hK => ?_)
  go_simp
  obtain ⟨y5, hy⟩ : ∃ y, y4.alloc (.cells #[.slice none 0 0] 24) = y := ⟨_, rfl⟩
  obtain ⟨br, hb⟩ : ∃ b, y4.heap.size = b := ⟨_, rfl⟩
  rw [hy, hb]
  replace H := H.alloc hy hb rfl
  clear hy hb
  refine hK.out _ _ ?_; clear hK K
  (try simp only [Act.put, List.getElem_toArray, List.getElem_cons_zero, List.getElem_cons_succ, List.setIfInBounds_toArray, List.set_cons_zero, List.set_cons_succ])
  (refine Kr.seqP (v := ?_) (by rfl) ?_ ?_; rotate_left; (focus (go_simp; first | done | rfl)); (try simp only [Act.put, List.getElem_toArray, List.getElem_cons_zero, List.getElem_cons_succ, List.setIfInBounds_toArray, List.set_cons_zero, List.set_cons_succ]))
  refine Kr.seqDone ?_
  go_upto_region 1 with fail
  refine Kr.seqStart ?_
  have hk := H.c
  simp only [Kr.Cells] at hk
  iterate 4 (refine Kr.seqP (v := ?_) (by rfl) ?_ ?_; rotate_left; (focus (go_simp; first | done | rfl)); (try simp only [Act.put, List.getElem_toArray, List.getElem_cons_zero, List.getElem_cons_succ, List.setIfInBounds_toArray, List.set_cons_zero, List.set_cons_succ]))
  refine Kr.seqS (fun K hK => ?_)
  go_simp
  go_at_call 70
  refine (HC.out _ H.g).mono ?_
  rintro e y6 ⟨rfl, hg⟩
  clear hk
  replace H := H.grow hg
  clear hg
  refine hK.out _ _ ?_; clear hK K
  (try simp only [Act.put, List.getElem_toArray, List.getElem_cons_zero, List.getElem_cons_succ, List.setIfInBounds_toArray, List.set_cons_zero, List.set_cons_succ])
  (refine Kr.seqP (v := ?_) (by rfl) ?_ ?_; rotate_left; (focus (go_simp; first | done | rfl)); (try simp only [Act.put, List.getElem_toArray, List.getElem_cons_zero, List.getElem_cons_succ, List.setIfInBounds_toArray, List.set_cons_zero, List.set_cons_succ]))
  refine Kr.seqDone ?_
  go_upto_region 2 with fail
  refine Kr.seqStart ?_
  iterate 2 (refine Kr.seqP (v := ?_) (by rfl) ?_ ?_; rotate_left; (focus (go_simp; first | done | rfl)); (try simp only [Act.put, List.getElem_toArray, List.getElem_cons_zero, List.getElem_cons_succ, List.setIfInBounds_toArray, List.set_cons_zero, List.set_cons_succ]))
  refine Kr.seqDone ?_
  go_upto_region 3 with fail
  refine Kr.seqStart ?_
  iterate 2 (refine Kr.seqP (v := ?_) (by rfl) ?_ ?_; rotate_left; (focus (go_simp; first | done | rfl)); (try simp only [Act.put, List.getElem_toArray, List.getElem_cons_zero, List.getElem_cons_succ, List.setIfInBounds_toArray, List.set_cons_zero, List.set_cons_succ]))
  have hk := H.c
  simp only [Kr.Cells] at hk
  refine Kr.seqS (fun K hK => ?_)
  go_simp
  clear hk
  obtain ⟨y7, hy⟩ : ∃ y, y6.setCell ⟨br, 0, none⟩ (.slice none 0 0) = y := ⟨_, rfl⟩
  rw [hy]
  replace H := H.store 0 hy rfl rfl
  dsimp only [List.set] at H
  clear hy
  refine hK.out _ _ ?_; clear hK K
  (try simp only [Act.put, List.getElem_toArray, List.getElem_cons_zero, List.getElem_cons_succ, List.setIfInBounds_toArray, List.set_cons_zero, List.set_cons_succ])
  (refine Kr.seqP (v := ?_) (by rfl) ?_ ?_; rotate_left; (focus (go_simp; first | done | rfl)); (try simp only [Act.put, List.getElem_toArray, List.getElem_cons_zero, List.getElem_cons_succ, List.setIfInBounds_toArray, List.set_cons_zero, List.set_cons_succ]))
  refine Kr.seqDone ?_
  have hk := H.c
  simp only [Kr.Cells] at hk
  go_wp2
  refine bodyPost_ret (v := .tuple #[.agg #[.slice none 0 0], .int .i64 1]) (by simp [results, Try.results35, go_sem, hk]) rfl ⟨none, 0, 0, rfl, nw_none _, H.g⟩
set_option linter.unusedSimpArgs false in
set_option maxRecDepth 100000 in
set_option maxHeartbeats 16000000 in
theorem mCrt_err2 {pa : Option Addr} {na ca : Nat} {pp : Option Addr} {np cp : Nat} {pb : Option Addr} {nb cb : Nat} {pq : Option Addr} {nq cq : Nat} {w : World} (hC : Chk w (.agg #[.slice pa na ca]) (.agg #[.slice pp np cp]) (.agg #[.slice pb nb cb]) (.agg #[.slice pq nq cq]) 2) :
    Calls Try.prog 35 #[.agg #[.slice pa na ca], .agg #[.slice pp np cp], .agg #[.slice pb nb cb], .agg #[.slice pq nq cq]] w (HasE 0 2 w) := by
  have HC := Lib.hid hC
  clear hC
  have H := Sta.start w
  go_enter Try.func35, Try.ntmps35
  go_upto_region 0 with fail
  refine Kr.seqStart ?_
  refine Kr.seqS (fun K hK => ?_)
  go_simp
  obtain ⟨y1, hy⟩ : ∃ y, w.alloc (.cells #[.slice pa na ca] 24) = y := ⟨_, rfl⟩
  obtain ⟨ba, hb⟩ : ∃ b, w.heap.size = b := ⟨_, rfl⟩
  rw [hy, hb]
  replace H := H.alloc hy hb rfl
  clear hy hb
  refine hK.out _ _ ?_; clear hK K
  (try simp only [Act.put, List.getElem_toArray, List.getElem_cons_zero, List.getElem_cons_succ, List.setIfInBounds_toArray, List.set_cons_zero, List.set_cons_succ])
  refine Kr.seqS (fun K hK => ?_)
  go_simp
  obtain ⟨y2, hy⟩ : ∃ y, y1.alloc (.cells #[.slice pp np cp] 24) = y := ⟨_, rfl⟩
  obtain ⟨bp, hb⟩ : ∃ b, y1.heap.size = b := ⟨_, rfl⟩
  rw [hy, hb]
  replace H := H.alloc hy hb rfl
  clear hy hb
  refine hK.out _ _ ?_; clear hK K
  (try simp only [Act.put, List.getElem_toArray, List.getElem_cons_zero, List.getElem_cons_succ, List.setIfInBounds_toArray, List.set_cons_zero, List.set_cons_succ])
  refine Kr.seqS (fun K hK => ?_)
  go_simp
  obtain ⟨y3, hy⟩ : ∃ y, y2.alloc (.cells #[.slice pb nb cb] 24) = y := ⟨_, rfl⟩
  obtain ⟨bb, hb⟩ : ∃ b, y2.heap.size = b := ⟨_, rfl⟩
  rw [hy, hb]
  replace H := H.alloc hy hb rfl
  clear hy hb
  refine hK.out _ _ ?_; clear hK K
  (try simp only [Act.put, List.getElem_toArray, List.getElem_cons_zero, List.getElem_cons_succ, List.setIfInBounds_toArray, List.set_cons_zero, List.set_cons_succ])
  refine Kr.seqS (fun K hK => ?_)
  go_simp
  obtain ⟨y4, hy⟩ : ∃ y, y3.alloc (.cells #[.slice pq nq cq] 24) = y := ⟨_, rfl⟩
  obtain ⟨bq, hb⟩ : ∃ b, y3.heap.size = b := ⟨_, rfl⟩
  rw [hy, hb]
  replace H := H.alloc hy hb rfl
  clear hy hb
  refine hK.out _ _ ?_; clear hK K
  (try simp only [Act.put, List.getElem_toArray, List.getElem_cons_zero, List.getElem_cons_succ, List.setIfInBounds_toArray, List.set_cons_zero, List.set_cons_succ])
  refine Kr.seqS (fun K hK => ?_)
  go_simp
  obtain ⟨y5, hy⟩ : ∃ y, y4.alloc (.cells #[.slice none 0 0] 24) = y := ⟨_, rfl⟩
  obtain ⟨br, hb⟩ : ∃ b, y4.heap.size = b := ⟨_, rfl⟩
  rw [hy, hb]
  replace H := H.alloc hy hb rfl
  clear hy hb
  refine hK.out _ _ ?_; clear hK K
  (try simp only [Act.put, List.getElem_toArray, List.getElem_cons_zero, List.getElem_cons_succ, List.setIfInBounds_toArray, List.set_cons_zero, List.set_cons_succ])
  (refine Kr.seqP (v := ?_) (by rfl) ?_ ?_; rotate_left; (focus (go_simp; first | done | rfl)); (try simp only [Act.put, List.getElem_toArray, List.getElem_cons_zero, List.getElem_cons_succ, List.setIfInBounds_toArray, List.set_cons_zero, List.set_cons_succ]))
  refine Kr.seqDone ?_
  go_upto_region 1 with fail
  refine Kr.seqStart ?_
  have hk := H.c
  simp only [Kr.Cells] at hk
  iterate 4 (refine Kr.seqP (v := ?_) (by rfl) ?_ ?_; rotate_left; (focus (go_simp; first | done | rfl)); (try simp only [Act.put, List.getElem_toArray, List.getElem_cons_zero, List.getElem_cons_succ, List.setIfInBounds_toArray, List.set_cons_zero, List.set_cons_succ]))
  refine Kr.seqS (fun K hK => ?_)
  go_simp
  go_at_call 70
  refine (HC.out _ H.g).mono ?_
  rintro e y6 ⟨rfl, hg⟩
  clear hk
  replace H := H.grow hg
  clear hg
  refine hK.out _ _ ?_; clear hK K
  (try simp only [Act.put, List.getElem_toArray, List.getElem_cons_zero, List.getElem_cons_succ, List.setIfInBounds_toArray, List.set_cons_zero, List.set_cons_succ])
  (refine Kr.seqP (v := ?_) (by rfl) ?_ ?_; rotate_left; (focus (go_simp; first | done | rfl)); (try simp only [Act.put, List.getElem_toArray, List.getElem_cons_zero, List.getElem_cons_succ, List.setIfInBounds_toArray, List.set_cons_zero, List.set_cons_succ]))
  refine Kr.seqDone ?_
  go_upto_region 2 with fail
  refine Kr.seqStart ?_
  iterate 2 (refine Kr.seqP (v := ?_) (by rfl) ?_ ?_; rotate_left; (focus (go_simp; first | done | rfl)); (try simp only [Act.put, List.getElem_toArray, List.getElem_cons_zero, List.getElem_cons_succ, List.setIfInBounds_toArray, List.set_cons_zero, List.set_cons_succ]))
  refine Kr.seqDone ?_
  go_upto_region 3 with fail
  refine Kr.seqStart ?_
  iterate 2 (refine Kr.seqP (v := ?_) (by rfl) ?_ ?_; rotate_left; (focus (go_simp; first | done | rfl)); (try simp only [Act.put, List.getElem_toArray, List.getElem_cons_zero, List.getElem_cons_succ, List.setIfInBounds_toArray, List.set_cons_zero, List.set_cons_succ]))
  have hk := H.c
  simp only [Kr.Cells] at hk
  refine Kr.seqS (fun K hK => ?_)
  go_simp
  clear hk
  obtain ⟨y7, hy⟩ : ∃ y, y6.setCell ⟨br, 0, none⟩ (.slice none 0 0) = y := ⟨_, rfl⟩
  rw [hy]
  replace H := H.store 0 hy rfl rfl
  dsimp only [List.set] at H
  clear hy
  refine hK.out _ _ ?_; clear hK K
  (try simp only [Act.put, List.getElem_toArray, List.getElem_cons_zero, List.getElem_cons_succ, List.setIfInBounds_toArray, List.set_cons_zero, List.set_cons_succ])
  (refine Kr.seqP (v := ?_) (by rfl) ?_ ?_; rotate_left; (focus (go_simp; first | done | rfl)); (try simp only [Act.put, List.getElem_toArray, List.getElem_cons_zero, List.getElem_cons_succ, List.setIfInBounds_toArray, List.set_cons_zero, List.set_cons_succ]))
  refine Kr.seqDone ?_
  have hk := H.c
  simp only [Kr.Cells] at hk
  go_wp2
  refine bodyPost_ret (v := .tuple #[.agg #[.slice none 0 0], .int .i64 2]) (by simp [results, Try.results35, go_sem, hk]) rfl ⟨none, 0, 0, rfl, nw_none _, H.g⟩
set_option linter.unusedSimpArgs false in
set_option maxRecDepth 100000 in
set_option maxHeartbeats 16000000 in
theorem mCrt_no {pa : Option Addr} {na ca : Nat} {pp : Option Addr} {np cp : Nat} {pb : Option Addr} {nb cb : Nat} {pq : Option Addr} {nq cq : Nat} {a p b q : Nat} {w : World} (ha : Nw w pa na ca (digs a)) (hp : Nw w pp np cp (digs p)) (hb : Nw w pb nb cb (digs b)) (hq : Nw w pq nq cq (digs q)) (va : a < p) (vb : b < q) (vp : p < pw 32) (vq : q < pw 32) (hg1 : Nat.gcd (p % q) q ≠ 1) :
    Calls Try.prog 35 #[.agg #[.slice pa na ca], .agg #[.slice pp np cp], .agg #[.slice pb nb cb], .agg #[.slice pq nq cq]] w ((HasE 0 10 w)) := by
  have HC := Lib.hid (chk_ok ha hp hb hq va vb vp vq)
  have Hva := Lib.hid va
  have Hvb := Lib.hid vb
  have Hvp := Lib.hid vp
  have Hvq := Lib.hid vq
  have Hhg1 := Lib.hid hg1
  clear va vb vp vq hg1
  have Hq0 : Hid (0 < q) := Lib.hid (Nat.lt_of_le_of_lt (Nat.zero_le _) Hvb.out)
  have H := Sta.start w
  replace H := H.num ha
  replace H := H.num hp
  replace H := H.num hb
  replace H := H.num hq
  go_enter Try.func35, Try.ntmps35
  go_upto_region 0 with fail
  refine Kr.seqStart ?_
  refine Kr.seqS (fun K hK => ?_)
  go_simp
  obtain ⟨y1, hy⟩ : ∃ y, w.alloc (.cells #[.slice pa na ca] 24) = y := ⟨_, rfl⟩
  obtain ⟨ba, hb⟩ : ∃ b, w.heap.size = b := ⟨_, rfl⟩
  rw [hy, hb]
  replace H := H.alloc hy hb rfl
  clear hy hb
  refine hK.out _ _ ?_; clear hK K
  (try simp only [Act.put, List.getElem_toArray, List.getElem_cons_zero, List.getElem_cons_succ, List.setIfInBounds_toArray, List.set_cons_zero, List.set_cons_succ])
  refine Kr.seqS (fun K hK => ?_)
  go_simp
  obtain ⟨y2, hy⟩ : ∃ y, y1.alloc (.cells #[.slice pp np cp] 24) = y := ⟨_, rfl⟩
  obtain ⟨bp, hb⟩ : ∃ b, y1.heap.size = b := ⟨_, rfl⟩
  rw [hy, hb]
  replace H := H.alloc hy hb rfl
  clear hy hb
  refine hK.out _ _ ?_; clear hK K
  (try simp only [Act.put, List.getElem_toArray, List.getElem_cons_zero, List.getElem_cons_succ, List.setIfInBounds_toArray, List.set_cons_zero, List.set_cons_succ])
  refine Kr.seqS (fun K hK => ?_)
  go_simp
  obtain ⟨y3, hy⟩ : ∃ y, y2.alloc (.cells #[.slice pb nb cb] 24) = y := ⟨_, rfl⟩
  obtain ⟨bb, hb⟩ : ∃ b, y2.heap.size = b := ⟨_, rfl⟩
  rw [hy, hb]
  replace H := H.alloc hy hb rfl
  clear hy hb
  refine hK.out _ _ ?_; clear hK K
  (try simp only [Act.put, List.getElem_toArray, List.getElem_cons_zero, List.getElem_cons_succ, List.setIfInBounds_toArray, List.set_cons_zero, List.set_cons_succ])
  refine Kr.seqS (fun K hK => ?_)
  go_simp
  obtain ⟨y4, hy⟩ : ∃ y, y3.alloc (.cells #[.slice pq nq cq] 24) = y := ⟨_, rfl⟩
  obtain ⟨bq, hb⟩ : ∃ b, y3.heap.size = b := ⟨_, rfl⟩
  rw [hy, hb]
  replace H := H.alloc hy hb rfl
  clear hy hb
  refine hK.out _ _ ?_; clear hK K
  (try simp only [Act.put, List.getElem_toArray, List.getElem_cons_zero, List.getElem_cons_succ, List.setIfInBounds_toArray, List.set_cons_zero, List.set_cons_succ])
  refine Kr.seqS (fun K hK => ?_)
  go_simp
  obtain ⟨y5, hy⟩ : ∃ y, y4.alloc (.cells #[.slice none 0 0] 24) = y := ⟨_, rfl⟩
  obtain ⟨br, hb⟩ : ∃ b, y4.heap.size = b := ⟨_, rfl⟩
  rw [hy, hb]
  replace H := H.alloc hy hb rfl
  clear hy hb
  refine hK.out _ _ ?_; clear hK K
  (try simp only [Act.put, List.getElem_toArray, List.getElem_cons_zero, List.getElem_cons_succ, List.setIfInBounds_toArray, List.set_cons_zero, List.set_cons_succ])
  (refine Kr.seqP (v := ?_) (by rfl) ?_ ?_; rotate_left; (focus (go_simp; first | done | rfl)); (try simp only [Act.put, List.getElem_toArray, List.getElem_cons_zero, List.getElem_cons_succ, List.setIfInBounds_toArray, List.set_cons_zero, List.set_cons_succ]))
  refine Kr.seqDone ?_
  go_upto_region 1 with fail
  refine Kr.seqStart ?_
  have hk := H.c
  simp only [Kr.Cells] at hk
  iterate 4 (refine Kr.seqP (v := ?_) (by rfl) ?_ ?_; rotate_left; (focus (go_simp; first | done | rfl)); (try simp only [Act.put, List.getElem_toArray, List.getElem_cons_zero, List.getElem_cons_succ, List.setIfInBounds_toArray, List.set_cons_zero, List.set_cons_succ]))
  refine Kr.seqS (fun K hK => ?_)
  go_simp
  go_at_call 70
  refine (HC.out _ H.g).mono ?_
  rintro e y6 ⟨rfl, hg⟩
  clear hk
  replace H := H.grow hg
  clear hg
  refine hK.out _ _ ?_; clear hK K
  (try simp only [Act.put, List.getElem_toArray, List.getElem_cons_zero, List.getElem_cons_succ, List.setIfInBounds_toArray, List.set_cons_zero, List.set_cons_succ])
  (refine Kr.seqP (v := ?_) (by rfl) ?_ ?_; rotate_left; (focus (go_simp; first | done | rfl)); (try simp only [Act.put, List.getElem_toArray, List.getElem_cons_zero, List.getElem_cons_succ, List.setIfInBounds_toArray, List.set_cons_zero, List.set_cons_succ]))
  refine Kr.seqDone ?_
  go_upto_region 2 with fail
  refine Kr.seqStart ?_
  iterate 2 (refine Kr.seqP (v := ?_) (by rfl) ?_ ?_; rotate_left; (focus (go_simp; first | done | rfl)); (try simp only [Act.put, List.getElem_toArray, List.getElem_cons_zero, List.getElem_cons_succ, List.setIfInBounds_toArray, List.set_cons_zero, List.set_cons_succ]))
  refine Kr.seqDone ?_
  go_upto_region 4 with fail
  go_cut [11, 12] from 26 to 33 (fun s11 s12 W => ∃ (bi : Nat) (pi : Option Addr) (ni ci : Nat) (p14 : Option Addr) (n14 c14 : Nat) (z : Nat), s11 = .pointer (some ⟨bi, 0, none⟩) ∧ s12 = .bool false ∧ Hid (Sta w W [(bi, 0, .slice pi ni ci), (br, 0, .slice none 0 0), (bq, 0, .slice pq nq cq), (bb, 0, .slice pb nb cb), (bp, 0, .slice pp np cp), (ba, 0, .slice pa na ca)] [N pi ni ci (z), N p14 n14 c14 (p % q), N pq nq cq (q), N pb nb cb (b), N pp np cp (p), N pa na ca (a)]))
  case first =>
    refine Kr.startL (fun W' => Kr.Cells W' [(bp, 0, .slice pp np cp), (bq, 0, .slice pq nq cq)]) [] (by kernel_rfl) ?_
    have gd : Gr y6 y6.drew := (Gr.refl _).drew
    generalize y6.drew = d7 at gd ⊢
    replace H := H.grow gd
    clear gd
    (refine Kr.tS 0 [] (v := ?_) rfl (by kernel_rfl) (fun _ _ _ h => h) (by rfl) (H.sub [3, 1] rfl) (fun wx hSx => ?_) ?_; rotate_left; (focus (simp only [Kr.Cells] at hSx; go_simp; first | done | rfl)); (try simp only [Act.put, List.getElem_toArray, List.getElem_cons_zero, List.getElem_cons_succ, List.setIfInBounds_toArray, List.set_cons_zero, List.set_cons_succ]))
    (refine Kr.tS 1 [] (v := ?_) rfl (by kernel_rfl) (fun _ _ _ h => h) (by rfl) (H.sub [3, 1] rfl) (fun wx hSx => ?_) ?_; rotate_left; (focus (simp only [Kr.Cells] at hSx; go_simp; first | done | rfl)); (try simp only [Act.put, List.getElem_toArray, List.getElem_cons_zero, List.getElem_cons_succ, List.setIfInBounds_toArray, List.set_cons_zero, List.set_cons_succ]))
    (refine Kr.tS 3 [] (v := ?_) rfl (by kernel_rfl) (fun _ _ _ h => h) (by rfl) (H.sub [3, 1] rfl) (fun wx hSx => ?_) ?_; rotate_left; (focus (simp only [Kr.Cells] at hSx; go_simp; first | done | rfl)); (try simp only [Act.put, List.getElem_toArray, List.getElem_cons_zero, List.getElem_cons_succ, List.setIfInBounds_toArray, List.set_cons_zero, List.set_cons_succ]))
    refine Kr.readyL (rs := [2, 8]) (by kernel_rfl) (by simp) ?_
    refine Kr.AllL.cons rfl (fun K hK => ?_) ?_
    · go_simp
      go_at_call 71
      refine (mrest_v (H.nw 2 rfl) (H.nw 0 rfl) (lt64 Hvp.out) (lt64 Hvq.out) Hq0.out).mono ?_
      rintro e y8 ⟨p8, n8, c8, rfl, hr, hg⟩
      replace H := H.grow hg
      replace H := H.num hr.toNw
      clear hr hg
      refine hK.out _ _ (fun _ => (H.sub [3, 1] rfl)) ?_; clear hK K
      (try simp only [Act.put, List.getElem_toArray, List.getElem_cons_zero, List.getElem_cons_succ, List.setIfInBounds_toArray, List.set_cons_zero, List.set_cons_succ])
      refine Kr.readyL (rs := [4, 8]) (by kernel_rfl) (by simp) ?_
      refine Kr.AllL.cons rfl (fun K hK => ?_) ?_
      · go_simp
        go_at_call 88
        refine (invert_v (H.nw 0 rfl) (H.nw 1 rfl) (Nat.mod_lt _ Hq0.out) Hvq.out).mono ?_
        rintro e yi ⟨pi, ni, ci, z, rfl, h1, h2, hr, hg⟩
        rw [decide_eq_false Hhg1.out]
        replace H := H.grow hg
        replace H := H.num hr
        clear hr hg h1 h2
        refine hK.out _ _ (fun _ => (H.sub [3, 1] rfl)) ?_; clear hK K
        (try simp only [Act.put, List.getElem_toArray, List.getElem_cons_zero, List.getElem_cons_succ, List.setIfInBounds_toArray, List.set_cons_zero, List.set_cons_succ])
        (refine Kr.tP 5 (v := ?_) rfl (by kernel_rfl) (fun _ _ _ h => h) (by rfl) (fun _ => (H.sub [3, 1] rfl)) (fun wx => ?_) ?_; rotate_left; (focus (go_simp; first | done | rfl)); (try simp only [Act.put, List.getElem_toArray, List.getElem_cons_zero, List.getElem_cons_succ, List.setIfInBounds_toArray, List.set_cons_zero, List.set_cons_succ]))
        (refine Kr.tP 6 (v := ?_) rfl (by kernel_rfl) (fun _ _ _ h => h) (by rfl) (fun _ => (H.sub [3, 1] rfl)) (fun wx => ?_) ?_; rotate_left; (focus (go_simp; first | done | rfl)); (try simp only [Act.put, List.getElem_toArray, List.getElem_cons_zero, List.getElem_cons_succ, List.setIfInBounds_toArray, List.set_cons_zero, List.set_cons_succ]))
        (refine Kr.tP 7 (v := ?_) rfl (by kernel_rfl) (fun _ _ _ h => h) (by rfl) (fun _ => (H.sub [3, 1] rfl)) (fun wx => ?_) ?_; rotate_left; (focus (go_simp; first | done | rfl)); (try simp only [Act.put, List.getElem_toArray, List.getElem_cons_zero, List.getElem_cons_succ, List.setIfInBounds_toArray, List.set_cons_zero, List.set_cons_succ]))
        refine Kr.readyL (rs := [8]) (by kernel_rfl) (by simp) ?_
        refine Kr.AllL.cons rfl (fun K hK => ?_) Kr.AllL.nil
        go_simp
        obtain ⟨y9, hy⟩ : ∃ y, yi.alloc (.cells #[.slice none 0 0] 24) = y := ⟨_, rfl⟩
        obtain ⟨bi, hb⟩ : ∃ b, yi.heap.size = b := ⟨_, rfl⟩
        rw [hy, hb]
        replace H := H.alloc hy hb rfl
        clear hy hb
        refine hK.out _ _ (fun _ => (H.sub [4, 2] rfl)) ?_; clear hK K
        (try simp only [Act.put, List.getElem_toArray, List.getElem_cons_zero, List.getElem_cons_succ, List.setIfInBounds_toArray, List.set_cons_zero, List.set_cons_succ])
        refine Kr.readyL (rs := [9]) (by kernel_rfl) (by simp) ?_
        refine Kr.AllL.cons rfl (fun K hK => ?_) Kr.AllL.nil
        have hk := H.c
        simp only [Kr.Cells] at hk
        go_simp
        clear hk
        obtain ⟨y10, hy⟩ : ∃ y, y9.setCell ⟨bi, 0, none⟩ (.slice pi ni ci) = y := ⟨_, rfl⟩
        rw [hy]
        replace H := H.store 0 hy rfl rfl
        dsimp only [List.set] at H
        clear hy
        refine hK.out _ _ (fun _ => (H.sub [4, 2] rfl)) ?_; clear hK K
        (try simp only [Act.put, List.getElem_toArray, List.getElem_cons_zero, List.getElem_cons_succ, List.setIfInBounds_toArray, List.set_cons_zero, List.set_cons_succ])
        (refine Kr.tP 10 (v := ?_) rfl (by kernel_rfl) (fun _ _ _ h => h) (by rfl) (fun _ => (H.sub [4, 2] rfl)) (fun wx => ?_) ?_; rotate_left; (focus (go_simp; first | done | rfl)); (try simp only [Act.put, List.getElem_toArray, List.getElem_cons_zero, List.getElem_cons_succ, List.setIfInBounds_toArray, List.set_cons_zero, List.set_cons_succ]))
        refine Kr.doneL (by kernel_rfl) ?_ _
        go_wp2_with fail
        go_meet
        exact ⟨_, _, _, _, _, _, _, _, rfl, rfl, Lib.hid H⟩
      refine Kr.AllL.cons rfl (fun K hK => ?_) Kr.AllL.nil
      go_simp
      obtain ⟨y11, hy⟩ : ∃ y, y8.alloc (.cells #[.slice none 0 0] 24) = y := ⟨_, rfl⟩
      obtain ⟨bi, hb⟩ : ∃ b, y8.heap.size = b := ⟨_, rfl⟩
      rw [hy, hb]
      replace H := H.alloc hy hb rfl
      clear hy hb
      refine hK.out _ _ (fun _ => (H.sub [4, 2] rfl)) ?_; clear hK K
      (try simp only [Act.put, List.getElem_toArray, List.getElem_cons_zero, List.getElem_cons_succ, List.setIfInBounds_toArray, List.set_cons_zero, List.set_cons_succ])
      refine Kr.readyL (rs := [4]) (by kernel_rfl) (by simp) ?_
      refine Kr.AllL.cons rfl (fun K hK => ?_) Kr.AllL.nil
      go_simp
      go_at_call 88
      refine (invert_v (H.nw 0 rfl) (H.nw 1 rfl) (Nat.mod_lt _ Hq0.out) Hvq.out).mono ?_
      rintro e yi ⟨pi, ni, ci, z, rfl, h1, h2, hr, hg⟩
      rw [decide_eq_false Hhg1.out]
      replace H := H.grow hg
      replace H := H.num hr
      clear hr hg h1 h2
      refine hK.out _ _ (fun _ => (H.sub [4, 2] rfl)) ?_; clear hK K
      (try simp only [Act.put, List.getElem_toArray, List.getElem_cons_zero, List.getElem_cons_succ, List.setIfInBounds_toArray, List.set_cons_zero, List.set_cons_succ])
      (refine Kr.tP 5 (v := ?_) rfl (by kernel_rfl) (fun _ _ _ h => h) (by rfl) (fun _ => (H.sub [4, 2] rfl)) (fun wx => ?_) ?_; rotate_left; (focus (go_simp; first | done | rfl)); (try simp only [Act.put, List.getElem_toArray, List.getElem_cons_zero, List.getElem_cons_succ, List.setIfInBounds_toArray, List.set_cons_zero, List.set_cons_succ]))
      (refine Kr.tP 6 (v := ?_) rfl (by kernel_rfl) (fun _ _ _ h => h) (by rfl) (fun _ => (H.sub [4, 2] rfl)) (fun wx => ?_) ?_; rotate_left; (focus (go_simp; first | done | rfl)); (try simp only [Act.put, List.getElem_toArray, List.getElem_cons_zero, List.getElem_cons_succ, List.setIfInBounds_toArray, List.set_cons_zero, List.set_cons_succ]))
      (refine Kr.tP 7 (v := ?_) rfl (by kernel_rfl) (fun _ _ _ h => h) (by rfl) (fun _ => (H.sub [4, 2] rfl)) (fun wx => ?_) ?_; rotate_left; (focus (go_simp; first | done | rfl)); (try simp only [Act.put, List.getElem_toArray, List.getElem_cons_zero, List.getElem_cons_succ, List.setIfInBounds_toArray, List.set_cons_zero, List.set_cons_succ]))
      refine Kr.readyL (rs := [9]) (by kernel_rfl) (by simp) ?_
      refine Kr.AllL.cons rfl (fun K hK => ?_) Kr.AllL.nil
      have hk := H.c
      simp only [Kr.Cells] at hk
      go_simp
      clear hk
      obtain ⟨y12, hy⟩ : ∃ y, yi.setCell ⟨bi, 0, none⟩ (.slice pi ni ci) = y := ⟨_, rfl⟩
      rw [hy]
      replace H := H.store 0 hy rfl rfl
      dsimp only [List.set] at H
      clear hy
      refine hK.out _ _ (fun _ => (H.sub [4, 2] rfl)) ?_; clear hK K
      (try simp only [Act.put, List.getElem_toArray, List.getElem_cons_zero, List.getElem_cons_succ, List.setIfInBounds_toArray, List.set_cons_zero, List.set_cons_succ])
      (refine Kr.tP 10 (v := ?_) rfl (by kernel_rfl) (fun _ _ _ h => h) (by rfl) (fun _ => (H.sub [4, 2] rfl)) (fun wx => ?_) ?_; rotate_left; (focus (go_simp; first | done | rfl)); (try simp only [Act.put, List.getElem_toArray, List.getElem_cons_zero, List.getElem_cons_succ, List.setIfInBounds_toArray, List.set_cons_zero, List.set_cons_succ]))
      refine Kr.doneL (by kernel_rfl) ?_ _
      go_wp2_with fail
      go_meet
      exact ⟨_, _, _, _, _, _, _, _, rfl, rfl, Lib.hid H⟩
    refine Kr.AllL.cons rfl (fun K hK => ?_) Kr.AllL.nil
    go_simp
    obtain ⟨y13, hy⟩ : ∃ y, d7.alloc (.cells #[.slice none 0 0] 24) = y := ⟨_, rfl⟩
    obtain ⟨bi, hb⟩ : ∃ b, d7.heap.size = b := ⟨_, rfl⟩
    rw [hy, hb]
    replace H := H.alloc hy hb rfl
    clear hy hb
    refine hK.out _ _ (fun _ => (H.sub [4, 2] rfl)) ?_; clear hK K
    (try simp only [Act.put, List.getElem_toArray, List.getElem_cons_zero, List.getElem_cons_succ, List.setIfInBounds_toArray, List.set_cons_zero, List.set_cons_succ])
    refine Kr.readyL (rs := [2]) (by kernel_rfl) (by simp) ?_
    refine Kr.AllL.cons rfl (fun K hK => ?_) Kr.AllL.nil
    go_simp
    go_at_call 71
    refine (mrest_v (H.nw 2 rfl) (H.nw 0 rfl) (lt64 Hvp.out) (lt64 Hvq.out) Hq0.out).mono ?_
    rintro e y14 ⟨p14, n14, c14, rfl, hr, hg⟩
    replace H := H.grow hg
    replace H := H.num hr.toNw
    clear hr hg
    refine hK.out _ _ (fun _ => (H.sub [4, 2] rfl)) ?_; clear hK K
    (try simp only [Act.put, List.getElem_toArray, List.getElem_cons_zero, List.getElem_cons_succ, List.setIfInBounds_toArray, List.set_cons_zero, List.set_cons_succ])
    refine Kr.readyL (rs := [4]) (by kernel_rfl) (by simp) ?_
    refine Kr.AllL.cons rfl (fun K hK => ?_) Kr.AllL.nil
    go_simp
    go_at_call 88
    refine (invert_v (H.nw 0 rfl) (H.nw 1 rfl) (Nat.mod_lt _ Hq0.out) Hvq.out).mono ?_
    rintro e yi ⟨pi, ni, ci, z, rfl, h1, h2, hr, hg⟩
    rw [decide_eq_false Hhg1.out]
    replace H := H.grow hg
    replace H := H.num hr
    clear hr hg h1 h2
    refine hK.out _ _ (fun _ => (H.sub [4, 2] rfl)) ?_; clear hK K
    (try simp only [Act.put, List.getElem_toArray, List.getElem_cons_zero, List.getElem_cons_succ, List.setIfInBounds_toArray, List.set_cons_zero, List.set_cons_succ])
    (refine Kr.tP 5 (v := ?_) rfl (by kernel_rfl) (fun _ _ _ h => h) (by rfl) (fun _ => (H.sub [4, 2] rfl)) (fun wx => ?_) ?_; rotate_left; (focus (go_simp; first | done | rfl)); (try simp only [Act.put, List.getElem_toArray, List.getElem_cons_zero, List.getElem_cons_succ, List.setIfInBounds_toArray, List.set_cons_zero, List.set_cons_succ]))
    (refine Kr.tP 6 (v := ?_) rfl (by kernel_rfl) (fun _ _ _ h => h) (by rfl) (fun _ => (H.sub [4, 2] rfl)) (fun wx => ?_) ?_; rotate_left; (focus (go_simp; first | done | rfl)); (try simp only [Act.put, List.getElem_toArray, List.getElem_cons_zero, List.getElem_cons_succ, List.setIfInBounds_toArray, List.set_cons_zero, List.set_cons_succ]))
    (refine Kr.tP 7 (v := ?_) rfl (by kernel_rfl) (fun _ _ _ h => h) (by rfl) (fun _ => (H.sub [4, 2] rfl)) (fun wx => ?_) ?_; rotate_left; (focus (go_simp; first | done | rfl)); (try simp only [Act.put, List.getElem_toArray, List.getElem_cons_zero, List.getElem_cons_succ, List.setIfInBounds_toArray, List.set_cons_zero, List.set_cons_succ]))
    refine Kr.readyL (rs := [9]) (by kernel_rfl) (by simp) ?_
    refine Kr.AllL.cons rfl (fun K hK => ?_) Kr.AllL.nil
    have hk := H.c
    simp only [Kr.Cells] at hk
    go_simp
    clear hk
    obtain ⟨y15, hy⟩ : ∃ y, yi.setCell ⟨bi, 0, none⟩ (.slice pi ni ci) = y := ⟨_, rfl⟩
    rw [hy]
    replace H := H.store 0 hy rfl rfl
    dsimp only [List.set] at H
    clear hy
    refine hK.out _ _ (fun _ => (H.sub [4, 2] rfl)) ?_; clear hK K
    (try simp only [Act.put, List.getElem_toArray, List.getElem_cons_zero, List.getElem_cons_succ, List.setIfInBounds_toArray, List.set_cons_zero, List.set_cons_succ])
    (refine Kr.tP 10 (v := ?_) rfl (by kernel_rfl) (fun _ _ _ h => h) (by rfl) (fun _ => (H.sub [4, 2] rfl)) (fun wx => ?_) ?_; rotate_left; (focus (go_simp; first | done | rfl)); (try simp only [Act.put, List.getElem_toArray, List.getElem_cons_zero, List.getElem_cons_succ, List.setIfInBounds_toArray, List.set_cons_zero, List.set_cons_succ]))
    refine Kr.doneL (by kernel_rfl) ?_ _
    go_wp2_with fail
    go_meet
    exact ⟨_, _, _, _, _, _, _, _, rfl, rfl, Lib.hid H⟩
  case rest =>
    clear H
    obtain ⟨bi, pi, ni, ci, p14, n14, c14, z, rfl, rfl, HH⟩ := hcut
    have H := HH.out
    clear HH
    go_upto_region 5 with fail
    refine Kr.seqStart ?_
    iterate 3 (refine Kr.seqP (v := ?_) (by rfl) ?_ ?_; rotate_left; (focus (go_simp; first | done | rfl)); (try simp only [Act.put, List.getElem_toArray, List.getElem_cons_zero, List.getElem_cons_succ, List.setIfInBounds_toArray, List.set_cons_zero, List.set_cons_succ]))
    refine Kr.seqDone ?_
    go_upto_region 6 with fail
    refine Kr.seqStart ?_
    (refine Kr.seqP (v := ?_) (by rfl) ?_ ?_; rotate_left; (focus (go_simp; first | done | rfl)); (try simp only [Act.put, List.getElem_toArray, List.getElem_cons_zero, List.getElem_cons_succ, List.setIfInBounds_toArray, List.set_cons_zero, List.set_cons_succ]))
    have hk := H.c
    simp only [Kr.Cells] at hk
    refine Kr.seqS (fun K hK => ?_)
    go_simp
    clear hk
    obtain ⟨y16, hy⟩ : ∃ y, wc.setCell ⟨br, 0, none⟩ (.slice none 0 0) = y := ⟨_, rfl⟩
    rw [hy]
    replace H := H.store 1 hy rfl rfl
    dsimp only [List.set] at H
    clear hy
    refine hK.out _ _ ?_; clear hK K
    (try simp only [Act.put, List.getElem_toArray, List.getElem_cons_zero, List.getElem_cons_succ, List.setIfInBounds_toArray, List.set_cons_zero, List.set_cons_succ])
    (refine Kr.seqP (v := ?_) (by rfl) ?_ ?_; rotate_left; (focus (go_simp; first | done | rfl)); (try simp only [Act.put, List.getElem_toArray, List.getElem_cons_zero, List.getElem_cons_succ, List.setIfInBounds_toArray, List.set_cons_zero, List.set_cons_succ]))
    refine Kr.seqDone ?_
    have hk := H.c
    simp only [Kr.Cells] at hk
    go_wp2
    refine bodyPost_ret (v := .tuple #[.agg #[.slice none 0 0], .int .i64 10]) (by simp [results, Try.results35, go_sem, hk]) rfl ⟨none, 0, 0, rfl, nw_none _, H.g⟩
set_option linter.unusedSimpArgs false in
set_option maxRecDepth 100000 in
set_option maxHeartbeats 16000000 in
theorem mCrt_big {pa : Option Addr} {na ca : Nat} {pp : Option Addr} {np cp : Nat} {pb : Option Addr} {nb cb : Nat} {pq : Option Addr} {nq cq : Nat} {a p b q : Nat} {w : World} (ha : Nw w pa na ca (digs a)) (hp : Nw w pp np cp (digs p)) (hb : Nw w pb nb cb (digs b)) (hq : Nw w pq nq cq (digs q)) (va : a < p) (vb : b < q) (vp : p < pw 32) (vq : q < pw 32) (hg1 : Nat.gcd (p % q) q = 1) (hpq : pw 32 ≤ p * q) :
    Calls Try.prog 35 #[.agg #[.slice pa na ca], .agg #[.slice pp np cp], .agg #[.slice pb nb cb], .agg #[.slice pq nq cq]] w ((HasE 0 9 w)) := by
  have HC := Lib.hid (chk_ok ha hp hb hq va vb vp vq)
  have Hva := Lib.hid va
  have Hvb := Lib.hid vb
  have Hvp := Lib.hid vp
  have Hvq := Lib.hid vq
  have Hhg1 := Lib.hid hg1
  have Hhpq := Lib.hid hpq
  clear va vb vp vq hg1 hpq
  have Hq0 : Hid (0 < q) := Lib.hid (Nat.lt_of_le_of_lt (Nat.zero_le _) Hvb.out)
  have HPQ : Hid (p * q < pw 64) := Lib.hid (by have := Nat.mul_lt_mul'' Hvp.out Hvq.out; rwa [← pw_add] at this)
  have HIM : Hid (im (digs (p * q)) = false) := Lib.hid (decide_eq_false fun h => by have h1 := h.2.2; rw [val_digs] at h1; have := Hhpq.out; omega)
  have H := Sta.start w
  replace H := H.num ha
  replace H := H.num hp
  replace H := H.num hb
  replace H := H.num hq
  go_enter Try.func35, Try.ntmps35
  go_upto_region 0 with fail
  refine Kr.seqStart ?_
  refine Kr.seqS (fun K hK => ?_)
  go_simp
  obtain ⟨y1, hy⟩ : ∃ y, w.alloc (.cells #[.slice pa na ca] 24) = y := ⟨_, rfl⟩
  obtain ⟨ba, hb⟩ : ∃ b, w.heap.size = b := ⟨_, rfl⟩
  rw [hy, hb]
  replace H := H.alloc hy hb rfl
  clear hy hb
  refine hK.out _ _ ?_; clear hK K
  (try simp only [Act.put, List.getElem_toArray, List.getElem_cons_zero, List.getElem_cons_succ, List.setIfInBounds_toArray, List.set_cons_zero, List.set_cons_succ])
  refine Kr.seqS (fun K hK => ?_)
  go_simp
  obtain ⟨y2, hy⟩ : ∃ y, y1.alloc (.cells #[.slice pp np cp] 24) = y := ⟨_, rfl⟩
  obtain ⟨bp, hb⟩ : ∃ b, y1.heap.size = b := ⟨_, rfl⟩
  rw [hy, hb]
  replace H := H.alloc hy hb rfl
  clear hy hb
  refine hK.out _ _ ?_; clear hK K
  (try simp only [Act.put, List.getElem_toArray, List.getElem_cons_zero, List.getElem_cons_succ, List.setIfInBounds_toArray, List.set_cons_zero, List.set_cons_succ])
  refine Kr.seqS (fun K hK => ?_)
  go_simp
  obtain ⟨y3, hy⟩ : ∃ y, y2.alloc (.cells #[.slice pb nb cb] 24) = y := ⟨_, rfl⟩
  obtain ⟨bb, hb⟩ : ∃ b, y2.heap.size = b := ⟨_, rfl⟩
  rw [hy, hb]
  replace H := H.alloc hy hb rfl
  clear hy hb
  refine hK.out _ _ ?_; clear hK K
  (try simp only [Act.put, List.getElem_toArray, List.getElem_cons_zero, List.getElem_cons_succ, List.setIfInBounds_toArray, List.set_cons_zero, List.set_cons_succ])
  refine Kr.seqS (fun K hK => ?_)
  go_simp
  obtain ⟨y4, hy⟩ : ∃ y, y3.alloc (.cells #[.slice pq nq cq] 24) = y := ⟨_, rfl⟩
  obtain ⟨bq, hb⟩ : ∃ b, y3.heap.size = b := ⟨_, rfl⟩
  rw [hy, hb]
  replace H := H.alloc hy hb rfl
  clear hy hb
  refine hK.out _ _ ?_; clear hK K
  (try simp only [Act.put, List.getElem_toArray, List.getElem_cons_zero, List.getElem_cons_succ, List.setIfInBounds_toArray, List.set_cons_zero, List.set_cons_succ])
  refine Kr.seqS (fun K hK => ?_)
  go_simp
  obtain ⟨y5, hy⟩ : ∃ y, y4.alloc (.cells #[.slice none 0 0] 24) = y := ⟨_, rfl⟩
  obtain ⟨br, hb⟩ : ∃ b, y4.heap.size = b := ⟨_, rfl⟩
  rw [hy, hb]
  replace H := H.alloc hy hb rfl
  clear hy hb
  refine hK.out _ _ ?_; clear hK K
  (try simp only [Act.put, List.getElem_toArray, List.getElem_cons_zero, List.getElem_cons_succ, List.setIfInBounds_toArray, List.set_cons_zero, List.set_cons_succ])
  (refine Kr.seqP (v := ?_) (by rfl) ?_ ?_; rotate_left; (focus (go_simp; first | done | rfl)); (try simp only [Act.put, List.getElem_toArray, List.getElem_cons_zero, List.getElem_cons_succ, List.setIfInBounds_toArray, List.set_cons_zero, List.set_cons_succ]))
  refine Kr.seqDone ?_
  go_upto_region 1 with fail
  refine Kr.seqStart ?_
  have hk := H.c
  simp only [Kr.Cells] at hk
  iterate 4 (refine Kr.seqP (v := ?_) (by rfl) ?_ ?_; rotate_left; (focus (go_simp; first | done | rfl)); (try simp only [Act.put, List.getElem_toArray, List.getElem_cons_zero, List.getElem_cons_succ, List.setIfInBounds_toArray, List.set_cons_zero, List.set_cons_succ]))
  refine Kr.seqS (fun K hK => ?_)
  go_simp
  go_at_call 70
  refine (HC.out _ H.g).mono ?_
  rintro e y6 ⟨rfl, hg⟩
  clear hk
  replace H := H.grow hg
  clear hg
  refine hK.out _ _ ?_; clear hK K
  (try simp only [Act.put, List.getElem_toArray, List.getElem_cons_zero, List.getElem_cons_succ, List.setIfInBounds_toArray, List.set_cons_zero, List.set_cons_succ])
  (refine Kr.seqP (v := ?_) (by rfl) ?_ ?_; rotate_left; (focus (go_simp; first | done | rfl)); (try simp only [Act.put, List.getElem_toArray, List.getElem_cons_zero, List.getElem_cons_succ, List.setIfInBounds_toArray, List.set_cons_zero, List.set_cons_succ]))
  refine Kr.seqDone ?_
  go_upto_region 2 with fail
  refine Kr.seqStart ?_
  iterate 2 (refine Kr.seqP (v := ?_) (by rfl) ?_ ?_; rotate_left; (focus (go_simp; first | done | rfl)); (try simp only [Act.put, List.getElem_toArray, List.getElem_cons_zero, List.getElem_cons_succ, List.setIfInBounds_toArray, List.set_cons_zero, List.set_cons_succ]))
  refine Kr.seqDone ?_
  go_upto_region 4 with fail
  go_cut [11, 12] from 26 to 33 (fun s11 s12 W => ∃ (bi : Nat) (pi : Option Addr) (ni ci : Nat) (p14 : Option Addr) (n14 c14 : Nat) (z : Nat), s11 = .pointer (some ⟨bi, 0, none⟩) ∧ s12 = .bool true ∧ Hid (IsInv (p % q) q z) ∧ Hid (Sta w W [(bi, 0, .slice pi ni ci), (br, 0, .slice none 0 0), (bq, 0, .slice pq nq cq), (bb, 0, .slice pb nb cb), (bp, 0, .slice pp np cp), (ba, 0, .slice pa na ca)] [N pi ni ci (z), N p14 n14 c14 (p % q), N pq nq cq (q), N pb nb cb (b), N pp np cp (p), N pa na ca (a)]))
  case first =>
    refine Kr.startL (fun W' => Kr.Cells W' [(bp, 0, .slice pp np cp), (bq, 0, .slice pq nq cq)]) [] (by kernel_rfl) ?_
    have gd : Gr y6 y6.drew := (Gr.refl _).drew
    generalize y6.drew = d7 at gd ⊢
    replace H := H.grow gd
    clear gd
    (refine Kr.tS 0 [] (v := ?_) rfl (by kernel_rfl) (fun _ _ _ h => h) (by rfl) (H.sub [3, 1] rfl) (fun wx hSx => ?_) ?_; rotate_left; (focus (simp only [Kr.Cells] at hSx; go_simp; first | done | rfl)); (try simp only [Act.put, List.getElem_toArray, List.getElem_cons_zero, List.getElem_cons_succ, List.setIfInBounds_toArray, List.set_cons_zero, List.set_cons_succ]))
    (refine Kr.tS 1 [] (v := ?_) rfl (by kernel_rfl) (fun _ _ _ h => h) (by rfl) (H.sub [3, 1] rfl) (fun wx hSx => ?_) ?_; rotate_left; (focus (simp only [Kr.Cells] at hSx; go_simp; first | done | rfl)); (try simp only [Act.put, List.getElem_toArray, List.getElem_cons_zero, List.getElem_cons_succ, List.setIfInBounds_toArray, List.set_cons_zero, List.set_cons_succ]))
    (refine Kr.tS 3 [] (v := ?_) rfl (by kernel_rfl) (fun _ _ _ h => h) (by rfl) (H.sub [3, 1] rfl) (fun wx hSx => ?_) ?_; rotate_left; (focus (simp only [Kr.Cells] at hSx; go_simp; first | done | rfl)); (try simp only [Act.put, List.getElem_toArray, List.getElem_cons_zero, List.getElem_cons_succ, List.setIfInBounds_toArray, List.set_cons_zero, List.set_cons_succ]))
    refine Kr.readyL (rs := [2, 8]) (by kernel_rfl) (by simp) ?_
    refine Kr.AllL.cons rfl (fun K hK => ?_) ?_
    · go_simp
      go_at_call 71
      refine (mrest_v (H.nw 2 rfl) (H.nw 0 rfl) (lt64 Hvp.out) (lt64 Hvq.out) Hq0.out).mono ?_
      rintro e y8 ⟨p8, n8, c8, rfl, hr, hg⟩
      replace H := H.grow hg
      replace H := H.num hr.toNw
      clear hr hg
      refine hK.out _ _ (fun _ => (H.sub [3, 1] rfl)) ?_; clear hK K
      (try simp only [Act.put, List.getElem_toArray, List.getElem_cons_zero, List.getElem_cons_succ, List.setIfInBounds_toArray, List.set_cons_zero, List.set_cons_succ])
      refine Kr.readyL (rs := [4, 8]) (by kernel_rfl) (by simp) ?_
      refine Kr.AllL.cons rfl (fun K hK => ?_) ?_
      · go_simp
        go_at_call 88
        refine (invert_v (H.nw 0 rfl) (H.nw 1 rfl) (Nat.mod_lt _ Hq0.out) Hvq.out).mono ?_
        rintro e yi ⟨pi, ni, ci, z, rfl, h1, h2, hr, hg⟩
        rw [decide_eq_true Hhg1.out]
        have HI := Lib.hid (h1 Hhg1.out)
        replace H := H.grow hg
        replace H := H.num hr
        clear hr hg h1 h2
        refine hK.out _ _ (fun _ => (H.sub [3, 1] rfl)) ?_; clear hK K
        (try simp only [Act.put, List.getElem_toArray, List.getElem_cons_zero, List.getElem_cons_succ, List.setIfInBounds_toArray, List.set_cons_zero, List.set_cons_succ])
        (refine Kr.tP 5 (v := ?_) rfl (by kernel_rfl) (fun _ _ _ h => h) (by rfl) (fun _ => (H.sub [3, 1] rfl)) (fun wx => ?_) ?_; rotate_left; (focus (go_simp; first | done | rfl)); (try simp only [Act.put, List.getElem_toArray, List.getElem_cons_zero, List.getElem_cons_succ, List.setIfInBounds_toArray, List.set_cons_zero, List.set_cons_succ]))
        (refine Kr.tP 6 (v := ?_) rfl (by kernel_rfl) (fun _ _ _ h => h) (by rfl) (fun _ => (H.sub [3, 1] rfl)) (fun wx => ?_) ?_; rotate_left; (focus (go_simp; first | done | rfl)); (try simp only [Act.put, List.getElem_toArray, List.getElem_cons_zero, List.getElem_cons_succ, List.setIfInBounds_toArray, List.set_cons_zero, List.set_cons_succ]))
        (refine Kr.tP 7 (v := ?_) rfl (by kernel_rfl) (fun _ _ _ h => h) (by rfl) (fun _ => (H.sub [3, 1] rfl)) (fun wx => ?_) ?_; rotate_left; (focus (go_simp; first | done | rfl)); (try simp only [Act.put, List.getElem_toArray, List.getElem_cons_zero, List.getElem_cons_succ, List.setIfInBounds_toArray, List.set_cons_zero, List.set_cons_succ]))
        refine Kr.readyL (rs := [8]) (by kernel_rfl) (by simp) ?_
        refine Kr.AllL.cons rfl (fun K hK => ?_) Kr.AllL.nil
        go_simp
        obtain ⟨y9, hy⟩ : ∃ y, yi.alloc (.cells #[.slice none 0 0] 24) = y := ⟨_, rfl⟩
        obtain ⟨bi, hb⟩ : ∃ b, yi.heap.size = b := ⟨_, rfl⟩
        rw [hy, hb]
        replace H := H.alloc hy hb rfl
        clear hy hb
        refine hK.out _ _ (fun _ => (H.sub [4, 2] rfl)) ?_; clear hK K
        (try simp only [Act.put, List.getElem_toArray, List.getElem_cons_zero, List.getElem_cons_succ, List.setIfInBounds_toArray, List.set_cons_zero, List.set_cons_succ])
        refine Kr.readyL (rs := [9]) (by kernel_rfl) (by simp) ?_
        refine Kr.AllL.cons rfl (fun K hK => ?_) Kr.AllL.nil
        have hk := H.c
        simp only [Kr.Cells] at hk
        go_simp
        clear hk
        obtain ⟨y10, hy⟩ : ∃ y, y9.setCell ⟨bi, 0, none⟩ (.slice pi ni ci) = y := ⟨_, rfl⟩
        rw [hy]
        replace H := H.store 0 hy rfl rfl
        dsimp only [List.set] at H
        clear hy
        refine hK.out _ _ (fun _ => (H.sub [4, 2] rfl)) ?_; clear hK K
        (try simp only [Act.put, List.getElem_toArray, List.getElem_cons_zero, List.getElem_cons_succ, List.setIfInBounds_toArray, List.set_cons_zero, List.set_cons_succ])
        (refine Kr.tP 10 (v := ?_) rfl (by kernel_rfl) (fun _ _ _ h => h) (by rfl) (fun _ => (H.sub [4, 2] rfl)) (fun wx => ?_) ?_; rotate_left; (focus (go_simp; first | done | rfl)); (try simp only [Act.put, List.getElem_toArray, List.getElem_cons_zero, List.getElem_cons_succ, List.setIfInBounds_toArray, List.set_cons_zero, List.set_cons_succ]))
        refine Kr.doneL (by kernel_rfl) ?_ _
        go_wp2_with fail
        go_meet
        exact ⟨_, _, _, _, _, _, _, _, rfl, rfl, HI, Lib.hid H⟩
      refine Kr.AllL.cons rfl (fun K hK => ?_) Kr.AllL.nil
      go_simp
      obtain ⟨y11, hy⟩ : ∃ y, y8.alloc (.cells #[.slice none 0 0] 24) = y := ⟨_, rfl⟩
      obtain ⟨bi, hb⟩ : ∃ b, y8.heap.size = b := ⟨_, rfl⟩
      rw [hy, hb]
      replace H := H.alloc hy hb rfl
      clear hy hb
      refine hK.out _ _ (fun _ => (H.sub [4, 2] rfl)) ?_; clear hK K
      (try simp only [Act.put, List.getElem_toArray, List.getElem_cons_zero, List.getElem_cons_succ, List.setIfInBounds_toArray, List.set_cons_zero, List.set_cons_succ])
      refine Kr.readyL (rs := [4]) (by kernel_rfl) (by simp) ?_
      refine Kr.AllL.cons rfl (fun K hK => ?_) Kr.AllL.nil
      go_simp
      go_at_call 88
      refine (invert_v (H.nw 0 rfl) (H.nw 1 rfl) (Nat.mod_lt _ Hq0.out) Hvq.out).mono ?_
      rintro e yi ⟨pi, ni, ci, z, rfl, h1, h2, hr, hg⟩
      rw [decide_eq_true Hhg1.out]
      have HI := Lib.hid (h1 Hhg1.out)
      replace H := H.grow hg
      replace H := H.num hr
      clear hr hg h1 h2
      refine hK.out _ _ (fun _ => (H.sub [4, 2] rfl)) ?_; clear hK K
      (try simp only [Act.put, List.getElem_toArray, List.getElem_cons_zero, List.getElem_cons_succ, List.setIfInBounds_toArray, List.set_cons_zero, List.set_cons_succ])
      (refine Kr.tP 5 (v := ?_) rfl (by kernel_rfl) (fun _ _ _ h => h) (by rfl) (fun _ => (H.sub [4, 2] rfl)) (fun wx => ?_) ?_; rotate_left; (focus (go_simp; first | done | rfl)); (try simp only [Act.put, List.getElem_toArray, List.getElem_cons_zero, List.getElem_cons_succ, List.setIfInBounds_toArray, List.set_cons_zero, List.set_cons_succ]))
      (refine Kr.tP 6 (v := ?_) rfl (by kernel_rfl) (fun _ _ _ h => h) (by rfl) (fun _ => (H.sub [4, 2] rfl)) (fun wx => ?_) ?_; rotate_left; (focus (go_simp; first | done | rfl)); (try simp only [Act.put, List.getElem_toArray, List.getElem_cons_zero, List.getElem_cons_succ, List.setIfInBounds_toArray, List.set_cons_zero, List.set_cons_succ]))
      (refine Kr.tP 7 (v := ?_) rfl (by kernel_rfl) (fun _ _ _ h => h) (by rfl) (fun _ => (H.sub [4, 2] rfl)) (fun wx => ?_) ?_; rotate_left; (focus (go_simp; first | done | rfl)); (try simp only [Act.put, List.getElem_toArray, List.getElem_cons_zero, List.getElem_cons_succ, List.setIfInBounds_toArray, List.set_cons_zero, List.set_cons_succ]))
      refine Kr.readyL (rs := [9]) (by kernel_rfl) (by simp) ?_
      refine Kr.AllL.cons rfl (fun K hK => ?_) Kr.AllL.nil
      have hk := H.c
      simp only [Kr.Cells] at hk
      go_simp
      clear hk
      obtain ⟨y12, hy⟩ : ∃ y, yi.setCell ⟨bi, 0, none⟩ (.slice pi ni ci) = y := ⟨_, rfl⟩
      rw [hy]
      replace H := H.store 0 hy rfl rfl
      dsimp only [List.set] at H
      clear hy
      refine hK.out _ _ (fun _ => (H.sub [4, 2] rfl)) ?_; clear hK K
      (try simp only [Act.put, List.getElem_toArray, List.getElem_cons_zero, List.getElem_cons_succ, List.setIfInBounds_toArray, List.set_cons_zero, List.set_cons_succ])
      (refine Kr.tP 10 (v := ?_) rfl (by kernel_rfl) (fun _ _ _ h => h) (by rfl) (fun _ => (H.sub [4, 2] rfl)) (fun wx => ?_) ?_; rotate_left; (focus (go_simp; first | done | rfl)); (try simp only [Act.put, List.getElem_toArray, List.getElem_cons_zero, List.getElem_cons_succ, List.setIfInBounds_toArray, List.set_cons_zero, List.set_cons_succ]))
      refine Kr.doneL (by kernel_rfl) ?_ _
      go_wp2_with fail
      go_meet
      exact ⟨_, _, _, _, _, _, _, _, rfl, rfl, HI, Lib.hid H⟩
    refine Kr.AllL.cons rfl (fun K hK => ?_) Kr.AllL.nil
    go_simp
    obtain ⟨y13, hy⟩ : ∃ y, d7.alloc (.cells #[.slice none 0 0] 24) = y := ⟨_, rfl⟩
    obtain ⟨bi, hb⟩ : ∃ b, d7.heap.size = b := ⟨_, rfl⟩
    rw [hy, hb]
    replace H := H.alloc hy hb rfl
    clear hy hb
    refine hK.out _ _ (fun _ => (H.sub [4, 2] rfl)) ?_; clear hK K
    (try simp only [Act.put, List.getElem_toArray, List.getElem_cons_zero, List.getElem_cons_succ, List.setIfInBounds_toArray, List.set_cons_zero, List.set_cons_succ])
    refine Kr.readyL (rs := [2]) (by kernel_rfl) (by simp) ?_
    refine Kr.AllL.cons rfl (fun K hK => ?_) Kr.AllL.nil
    go_simp
    go_at_call 71
    refine (mrest_v (H.nw 2 rfl) (H.nw 0 rfl) (lt64 Hvp.out) (lt64 Hvq.out) Hq0.out).mono ?_
    rintro e y14 ⟨p14, n14, c14, rfl, hr, hg⟩
    replace H := H.grow hg
    replace H := H.num hr.toNw
    clear hr hg
    refine hK.out _ _ (fun _ => (H.sub [4, 2] rfl)) ?_; clear hK K
    (try simp only [Act.put, List.getElem_toArray, List.getElem_cons_zero, List.getElem_cons_succ, List.setIfInBounds_toArray, List.set_cons_zero, List.set_cons_succ])
    refine Kr.readyL (rs := [4]) (by kernel_rfl) (by simp) ?_
    refine Kr.AllL.cons rfl (fun K hK => ?_) Kr.AllL.nil
    go_simp
    go_at_call 88
    refine (invert_v (H.nw 0 rfl) (H.nw 1 rfl) (Nat.mod_lt _ Hq0.out) Hvq.out).mono ?_
    rintro e yi ⟨pi, ni, ci, z, rfl, h1, h2, hr, hg⟩
    rw [decide_eq_true Hhg1.out]
    have HI := Lib.hid (h1 Hhg1.out)
    replace H := H.grow hg
    replace H := H.num hr
    clear hr hg h1 h2
    refine hK.out _ _ (fun _ => (H.sub [4, 2] rfl)) ?_; clear hK K
    (try simp only [Act.put, List.getElem_toArray, List.getElem_cons_zero, List.getElem_cons_succ, List.setIfInBounds_toArray, List.set_cons_zero, List.set_cons_succ])
    (refine Kr.tP 5 (v := ?_) rfl (by kernel_rfl) (fun _ _ _ h => h) (by rfl) (fun _ => (H.sub [4, 2] rfl)) (fun wx => ?_) ?_; rotate_left; (focus (go_simp; first | done | rfl)); (try simp only [Act.put, List.getElem_toArray, List.getElem_cons_zero, List.getElem_cons_succ, List.setIfInBounds_toArray, List.set_cons_zero, List.set_cons_succ]))
    (refine Kr.tP 6 (v := ?_) rfl (by kernel_rfl) (fun _ _ _ h => h) (by rfl) (fun _ => (H.sub [4, 2] rfl)) (fun wx => ?_) ?_; rotate_left; (focus (go_simp; first | done | rfl)); (try simp only [Act.put, List.getElem_toArray, List.getElem_cons_zero, List.getElem_cons_succ, List.setIfInBounds_toArray, List.set_cons_zero, List.set_cons_succ]))
    (refine Kr.tP 7 (v := ?_) rfl (by kernel_rfl) (fun _ _ _ h => h) (by rfl) (fun _ => (H.sub [4, 2] rfl)) (fun wx => ?_) ?_; rotate_left; (focus (go_simp; first | done | rfl)); (try simp only [Act.put, List.getElem_toArray, List.getElem_cons_zero, List.getElem_cons_succ, List.setIfInBounds_toArray, List.set_cons_zero, List.set_cons_succ]))
    refine Kr.readyL (rs := [9]) (by kernel_rfl) (by simp) ?_
    refine Kr.AllL.cons rfl (fun K hK => ?_) Kr.AllL.nil
    have hk := H.c
    simp only [Kr.Cells] at hk
    go_simp
    clear hk
    obtain ⟨y15, hy⟩ : ∃ y, yi.setCell ⟨bi, 0, none⟩ (.slice pi ni ci) = y := ⟨_, rfl⟩
    rw [hy]
    replace H := H.store 0 hy rfl rfl
    dsimp only [List.set] at H
    clear hy
    refine hK.out _ _ (fun _ => (H.sub [4, 2] rfl)) ?_; clear hK K
    (try simp only [Act.put, List.getElem_toArray, List.getElem_cons_zero, List.getElem_cons_succ, List.setIfInBounds_toArray, List.set_cons_zero, List.set_cons_succ])
    (refine Kr.tP 10 (v := ?_) rfl (by kernel_rfl) (fun _ _ _ h => h) (by rfl) (fun _ => (H.sub [4, 2] rfl)) (fun wx => ?_) ?_; rotate_left; (focus (go_simp; first | done | rfl)); (try simp only [Act.put, List.getElem_toArray, List.getElem_cons_zero, List.getElem_cons_succ, List.setIfInBounds_toArray, List.set_cons_zero, List.set_cons_succ]))
    refine Kr.doneL (by kernel_rfl) ?_ _
    go_wp2_with fail
    go_meet
    exact ⟨_, _, _, _, _, _, _, _, rfl, rfl, HI, Lib.hid H⟩
  case rest =>
    clear H
    obtain ⟨bi, pi, ni, ci, p14, n14, c14, z, rfl, rfl, HI, HH⟩ := hcut
    have H := HH.out
    clear HH
    go_upto_region 5 with fail
    refine Kr.seqStart ?_
    iterate 3 (refine Kr.seqP (v := ?_) (by rfl) ?_ ?_; rotate_left; (focus (go_simp; first | done | rfl)); (try simp only [Act.put, List.getElem_toArray, List.getElem_cons_zero, List.getElem_cons_succ, List.setIfInBounds_toArray, List.set_cons_zero, List.set_cons_succ]))
    refine Kr.seqDone ?_
    go_upto_region 7 with fail
    refine Kr.seqStart ?_
    have hk := H.c
    simp only [Kr.Cells] at hk
    iterate 2 (refine Kr.seqP (v := ?_) (by rfl) ?_ ?_; rotate_left; (focus (go_simp; first | done | rfl)); (try simp only [Act.put, List.getElem_toArray, List.getElem_cons_zero, List.getElem_cons_succ, List.setIfInBounds_toArray, List.set_cons_zero, List.set_cons_succ]))
    refine Kr.seqS (fun K hK => ?_)
    go_simp
    go_at_call 79
    refine (mtimes_v (H.nw 4 rfl) (H.nw 2 rfl) (lt64 Hvp.out) (lt64 Hvq.out) HPQ.out).mono ?_
    rintro e y16 ⟨p16, n16, c16, rfl, hr, hg⟩
    clear hk
    replace H := H.grow hg
    replace H := H.num hr.toNw
    clear hr hg
    refine hK.out _ _ ?_; clear hK K
    (try simp only [Act.put, List.getElem_toArray, List.getElem_cons_zero, List.getElem_cons_succ, List.setIfInBounds_toArray, List.set_cons_zero, List.set_cons_succ])
    refine Kr.seqS (fun K hK => ?_)
    go_simp
    go_at_call 90
    refine (isModulus_any (H.nw 0 rfl)).mono ?_
    rintro e y17 ⟨rfl, hg⟩
    rw [HIM.out]
    replace H := H.grow hg
    clear hg
    refine hK.out _ _ ?_; clear hK K
    (try simp only [Act.put, List.getElem_toArray, List.getElem_cons_zero, List.getElem_cons_succ, List.setIfInBounds_toArray, List.set_cons_zero, List.set_cons_succ])
    iterate 2 (refine Kr.seqP (v := ?_) (by rfl) ?_ ?_; rotate_left; (focus (go_simp; first | done | rfl)); (try simp only [Act.put, List.getElem_toArray, List.getElem_cons_zero, List.getElem_cons_succ, List.setIfInBounds_toArray, List.set_cons_zero, List.set_cons_succ]))
    refine Kr.seqDone ?_
    go_upto_region 8 with fail
    refine Kr.seqStart ?_
    (refine Kr.seqP (v := ?_) (by rfl) ?_ ?_; rotate_left; (focus (go_simp; first | done | rfl)); (try simp only [Act.put, List.getElem_toArray, List.getElem_cons_zero, List.getElem_cons_succ, List.setIfInBounds_toArray, List.set_cons_zero, List.set_cons_succ]))
    have hk := H.c
    simp only [Kr.Cells] at hk
    refine Kr.seqS (fun K hK => ?_)
    go_simp
    clear hk
    obtain ⟨y18, hy⟩ : ∃ y, y17.setCell ⟨br, 0, none⟩ (.slice none 0 0) = y := ⟨_, rfl⟩
    rw [hy]
    replace H := H.store 1 hy rfl rfl
    dsimp only [List.set] at H
    clear hy
    refine hK.out _ _ ?_; clear hK K
    (try simp only [Act.put, List.getElem_toArray, List.getElem_cons_zero, List.getElem_cons_succ, List.setIfInBounds_toArray, List.set_cons_zero, List.set_cons_succ])
    (refine Kr.seqP (v := ?_) (by rfl) ?_ ?_; rotate_left; (focus (go_simp; first | done | rfl)); (try simp only [Act.put, List.getElem_toArray, List.getElem_cons_zero, List.getElem_cons_succ, List.setIfInBounds_toArray, List.set_cons_zero, List.set_cons_succ]))
    refine Kr.seqDone ?_
    have hk := H.c
    simp only [Kr.Cells] at hk
    go_wp2
    refine bodyPost_ret (v := .tuple #[.agg #[.slice none 0 0], .int .i64 9]) (by simp [results, Try.results35, go_sem, hk]) rfl ⟨none, 0, 0, rfl, nw_none _, H.g⟩
set_option linter.unusedSimpArgs false in
set_option maxRecDepth 100000 in
set_option maxHeartbeats 16000000 in
theorem mCrt_ok {pa : Option Addr} {na ca : Nat} {pp : Option Addr} {np cp : Nat} {pb : Option Addr} {nb cb : Nat} {pq : Option Addr} {nq cq : Nat} {a p b q : Nat} {w : World} (ha : Nw w pa na ca (digs a)) (hp : Nw w pp np cp (digs p)) (hb : Nw w pb nb cb (digs b)) (hq : Nw w pq nq cq (digs q)) (va : a < p) (vb : b < q) (vp : p < pw 32) (vq : q < pw 32) (hg1 : Nat.gcd (p % q) q = 1) (hpq : p * q < pw 32) :
    Calls Try.prog 35 #[.agg #[.slice pa na ca], .agg #[.slice pp np cp], .agg #[.slice pb nb cb], .agg #[.slice pq nq cq]] w (fun e w' => ∃ z, IsInv (p % q) q z ∧ HasE (a + p * ((b + q - a % q) % q * z % q)) 0 w e w') := by
  have HC := Lib.hid (chk_ok ha hp hb hq va vb vp vq)
  have Hva := Lib.hid va
  have Hvb := Lib.hid vb
  have Hvp := Lib.hid vp
  have Hvq := Lib.hid vq
  have Hhg1 := Lib.hid hg1
  have Hhpq := Lib.hid hpq
  clear va vb vp vq hg1 hpq
  have Hq0 : Hid (0 < q) := Lib.hid (Nat.lt_of_le_of_lt (Nat.zero_le _) Hvb.out)
  have HPQ : Hid (p * q < pw 64) := Lib.hid (by have := Nat.mul_lt_mul'' Hvp.out Hvq.out; rwa [← pw_add] at this)
  have HIM : Hid (im (digs (p * q)) = true) := Lib.hid (im_digs (Nat.mul_pos (Nat.lt_of_le_of_lt (Nat.zero_le _) Hva.out) Hq0.out) Hhpq.out)
  have H := Sta.start w
  replace H := H.num ha
  replace H := H.num hp
  replace H := H.num hb
  replace H := H.num hq
  go_enter Try.func35, Try.ntmps35
  go_upto_region 0 with fail
  refine Kr.seqStart ?_
  refine Kr.seqS (fun K hK => ?_)
  go_simp
  obtain ⟨y1, hy⟩ : ∃ y, w.alloc (.cells #[.slice pa na ca] 24) = y := ⟨_, rfl⟩
  obtain ⟨ba, hb⟩ : ∃ b, w.heap.size = b := ⟨_, rfl⟩
  rw [hy, hb]
  replace H := H.alloc hy hb rfl
  clear hy hb
  refine hK.out _ _ ?_; clear hK K
  (try simp only [Act.put, List.getElem_toArray, List.getElem_cons_zero, List.getElem_cons_succ, List.setIfInBounds_toArray, List.set_cons_zero, List.set_cons_succ])
  refine Kr.seqS (fun K hK => ?_)
  go_simp
  obtain ⟨y2, hy⟩ : ∃ y, y1.alloc (.cells #[.slice pp np cp] 24) = y := ⟨_, rfl⟩
  obtain ⟨bp, hb⟩ : ∃ b, y1.heap.size = b := ⟨_, rfl⟩
  rw [hy, hb]
  replace H := H.alloc hy hb rfl
  clear hy hb
  refine hK.out _ _ ?_; clear hK K
  (try simp only [Act.put, List.getElem_toArray, List.getElem_cons_zero, List.getElem_cons_succ, List.setIfInBounds_toArray, List.set_cons_zero, List.set_cons_succ])
  refine Kr.seqS (fun K hK => ?_)
  go_simp
  obtain ⟨y3, hy⟩ : ∃ y, y2.alloc (.cells #[.slice pb nb cb] 24) = y := ⟨_, rfl⟩
  obtain ⟨bb, hb⟩ : ∃ b, y2.heap.size = b := ⟨_, rfl⟩
  rw [hy, hb]
  replace H := H.alloc hy hb rfl
  clear hy hb
  refine hK.out _ _ ?_; clear hK K
  (try simp only [Act.put, List.getElem_toArray, List.getElem_cons_zero, List.getElem_cons_succ, List.setIfInBounds_toArray, List.set_cons_zero, List.set_cons_succ])
  refine Kr.seqS (fun K hK => ?_)
  go_simp
  obtain ⟨y4, hy⟩ : ∃ y, y3.alloc (.cells #[.slice pq nq cq] 24) = y := ⟨_, rfl⟩
  obtain ⟨bq, hb⟩ : ∃ b, y3.heap.size = b := ⟨_, rfl⟩
  rw [hy, hb]
  replace H := H.alloc hy hb rfl
  clear hy hb
  refine hK.out _ _ ?_; clear hK K
  (try simp only [Act.put, List.getElem_toArray, List.getElem_cons_zero, List.getElem_cons_succ, List.setIfInBounds_toArray, List.set_cons_zero, List.set_cons_succ])
  refine Kr.seqS (fun K hK => ?_)
  go_simp
  obtain ⟨y5, hy⟩ : ∃ y, y4.alloc (.cells #[.slice none 0 0] 24) = y := ⟨_, rfl⟩
  obtain ⟨br, hb⟩ : ∃ b, y4.heap.size = b := ⟨_, rfl⟩
  rw [hy, hb]
  replace H := H.alloc hy hb rfl
  clear hy hb
  refine hK.out _ _ ?_; clear hK K
  (try simp only [Act.put, List.getElem_toArray, List.getElem_cons_zero, List.getElem_cons_succ, List.setIfInBounds_toArray, List.set_cons_zero, List.set_cons_succ])
  (refine Kr.seqP (v := ?_) (by rfl) ?_ ?_; rotate_left; (focus (go_simp; first | done | rfl)); (try simp only [Act.put, List.getElem_toArray, List.getElem_cons_zero, List.getElem_cons_succ, List.setIfInBounds_toArray, List.set_cons_zero, List.set_cons_succ]))
  refine Kr.seqDone ?_
  go_upto_region 1 with fail
  refine Kr.seqStart ?_
  have hk := H.c
  simp only [Kr.Cells] at hk
  iterate 4 (refine Kr.seqP (v := ?_) (by rfl) ?_ ?_; rotate_left; (focus (go_simp; first | done | rfl)); (try simp only [Act.put, List.getElem_toArray, List.getElem_cons_zero, List.getElem_cons_succ, List.setIfInBounds_toArray, List.set_cons_zero, List.set_cons_succ]))
  refine Kr.seqS (fun K hK => ?_)
  go_simp
  go_at_call 70
  refine (HC.out _ H.g).mono ?_
  rintro e y6 ⟨rfl, hg⟩
  clear hk
  replace H := H.grow hg
  clear hg
  refine hK.out _ _ ?_; clear hK K
  (try simp only [Act.put, List.getElem_toArray, List.getElem_cons_zero, List.getElem_cons_succ, List.setIfInBounds_toArray, List.set_cons_zero, List.set_cons_succ])
  (refine Kr.seqP (v := ?_) (by rfl) ?_ ?_; rotate_left; (focus (go_simp; first | done | rfl)); (try simp only [Act.put, List.getElem_toArray, List.getElem_cons_zero, List.getElem_cons_succ, List.setIfInBounds_toArray, List.set_cons_zero, List.set_cons_succ]))
  refine Kr.seqDone ?_
  go_upto_region 2 with fail
  refine Kr.seqStart ?_
  iterate 2 (refine Kr.seqP (v := ?_) (by rfl) ?_ ?_; rotate_left; (focus (go_simp; first | done | rfl)); (try simp only [Act.put, List.getElem_toArray, List.getElem_cons_zero, List.getElem_cons_succ, List.setIfInBounds_toArray, List.set_cons_zero, List.set_cons_succ]))
  refine Kr.seqDone ?_
  go_upto_region 4 with fail
  go_cut [11, 12] from 26 to 33 (fun s11 s12 W => ∃ (bi : Nat) (pi : Option Addr) (ni ci : Nat) (p14 : Option Addr) (n14 c14 : Nat) (z : Nat), s11 = .pointer (some ⟨bi, 0, none⟩) ∧ s12 = .bool true ∧ Hid (IsInv (p % q) q z) ∧ Hid (Sta w W [(bi, 0, .slice pi ni ci), (br, 0, .slice none 0 0), (bq, 0, .slice pq nq cq), (bb, 0, .slice pb nb cb), (bp, 0, .slice pp np cp), (ba, 0, .slice pa na ca)] [N pi ni ci (z), N p14 n14 c14 (p % q), N pq nq cq (q), N pb nb cb (b), N pp np cp (p), N pa na ca (a)]))
  case first =>
    refine Kr.startL (fun W' => Kr.Cells W' [(bp, 0, .slice pp np cp), (bq, 0, .slice pq nq cq)]) [] (by kernel_rfl) ?_
    have gd : Gr y6 y6.drew := (Gr.refl _).drew
    generalize y6.drew = d7 at gd ⊢
    replace H := H.grow gd
    clear gd
    (refine Kr.tS 0 [] (v := ?_) rfl (by kernel_rfl) (fun _ _ _ h => h) (by rfl) (H.sub [3, 1] rfl) (fun wx hSx => ?_) ?_; rotate_left; (focus (simp only [Kr.Cells] at hSx; go_simp; first | done | rfl)); (try simp only [Act.put, List.getElem_toArray, List.getElem_cons_zero, List.getElem_cons_succ, List.setIfInBounds_toArray, List.set_cons_zero, List.set_cons_succ]))
    (refine Kr.tS 1 [] (v := ?_) rfl (by kernel_rfl) (fun _ _ _ h => h) (by rfl) (H.sub [3, 1] rfl) (fun wx hSx => ?_) ?_; rotate_left; (focus (simp only [Kr.Cells] at hSx; go_simp; first | done | rfl)); (try simp only [Act.put, List.getElem_toArray, List.getElem_cons_zero, List.getElem_cons_succ, List.setIfInBounds_toArray, List.set_cons_zero, List.set_cons_succ]))
    (refine Kr.tS 3 [] (v := ?_) rfl (by kernel_rfl) (fun _ _ _ h => h) (by rfl) (H.sub [3, 1] rfl) (fun wx hSx => ?_) ?_; rotate_left; (focus (simp only [Kr.Cells] at hSx; go_simp; first | done | rfl)); (try simp only [Act.put, List.getElem_toArray, List.getElem_cons_zero, List.getElem_cons_succ, List.setIfInBounds_toArray, List.set_cons_zero, List.set_cons_succ]))
    refine Kr.readyL (rs := [2, 8]) (by kernel_rfl) (by simp) ?_
    refine Kr.AllL.cons rfl (fun K hK => ?_) ?_
    · go_simp
      go_at_call 71
      refine (mrest_v (H.nw 2 rfl) (H.nw 0 rfl) (lt64 Hvp.out) (lt64 Hvq.out) Hq0.out).mono ?_
      rintro e y8 ⟨p8, n8, c8, rfl, hr, hg⟩
      replace H := H.grow hg
      replace H := H.num hr.toNw
      clear hr hg
      refine hK.out _ _ (fun _ => (H.sub [3, 1] rfl)) ?_; clear hK K
      (try simp only [Act.put, List.getElem_toArray, List.getElem_cons_zero, List.getElem_cons_succ, List.setIfInBounds_toArray, List.set_cons_zero, List.set_cons_succ])
      refine Kr.readyL (rs := [4, 8]) (by kernel_rfl) (by simp) ?_
      refine Kr.AllL.cons rfl (fun K hK => ?_) ?_
      · go_simp
        go_at_call 88
        refine (invert_v (H.nw 0 rfl) (H.nw 1 rfl) (Nat.mod_lt _ Hq0.out) Hvq.out).mono ?_
        rintro e yi ⟨pi, ni, ci, z, rfl, h1, h2, hr, hg⟩
        rw [decide_eq_true Hhg1.out]
        have HI := Lib.hid (h1 Hhg1.out)
        replace H := H.grow hg
        replace H := H.num hr
        clear hr hg h1 h2
        refine hK.out _ _ (fun _ => (H.sub [3, 1] rfl)) ?_; clear hK K
        (try simp only [Act.put, List.getElem_toArray, List.getElem_cons_zero, List.getElem_cons_succ, List.setIfInBounds_toArray, List.set_cons_zero, List.set_cons_succ])
        (refine Kr.tP 5 (v := ?_) rfl (by kernel_rfl) (fun _ _ _ h => h) (by rfl) (fun _ => (H.sub [3, 1] rfl)) (fun wx => ?_) ?_; rotate_left; (focus (go_simp; first | done | rfl)); (try simp only [Act.put, List.getElem_toArray, List.getElem_cons_zero, List.getElem_cons_succ, List.setIfInBounds_toArray, List.set_cons_zero, List.set_cons_succ]))
        (refine Kr.tP 6 (v := ?_) rfl (by kernel_rfl) (fun _ _ _ h => h) (by rfl) (fun _ => (H.sub [3, 1] rfl)) (fun wx => ?_) ?_; rotate_left; (focus (go_simp; first | done | rfl)); (try simp only [Act.put, List.getElem_toArray, List.getElem_cons_zero, List.getElem_cons_succ, List.setIfInBounds_toArray, List.set_cons_zero, List.set_cons_succ]))
        (refine Kr.tP 7 (v := ?_) rfl (by kernel_rfl) (fun _ _ _ h => h) (by rfl) (fun _ => (H.sub [3, 1] rfl)) (fun wx => ?_) ?_; rotate_left; (focus (go_simp; first | done | rfl)); (try simp only [Act.put, List.getElem_toArray, List.getElem_cons_zero, List.getElem_cons_succ, List.setIfInBounds_toArray, List.set_cons_zero, List.set_cons_succ]))
        refine Kr.readyL (rs := [8]) (by kernel_rfl) (by simp) ?_
        refine Kr.AllL.cons rfl (fun K hK => ?_) Kr.AllL.nil
        go_simp
        obtain ⟨y9, hy⟩ : ∃ y, yi.alloc (.cells #[.slice none 0 0] 24) = y := ⟨_, rfl⟩
        obtain ⟨bi, hb⟩ : ∃ b, yi.heap.size = b := ⟨_, rfl⟩
        rw [hy, hb]
        replace H := H.alloc hy hb rfl
        clear hy hb
        refine hK.out _ _ (fun _ => (H.sub [4, 2] rfl)) ?_; clear hK K
        (try simp only [Act.put, List.getElem_toArray, List.getElem_cons_zero, List.getElem_cons_succ, List.setIfInBounds_toArray, List.set_cons_zero, List.set_cons_succ])
        refine Kr.readyL (rs := [9]) (by kernel_rfl) (by simp) ?_
        refine Kr.AllL.cons rfl (fun K hK => ?_) Kr.AllL.nil
        have hk := H.c
        simp only [Kr.Cells] at hk
        go_simp
        clear hk
        obtain ⟨y10, hy⟩ : ∃ y, y9.setCell ⟨bi, 0, none⟩ (.slice pi ni ci) = y := ⟨_, rfl⟩
        rw [hy]
        replace H := H.store 0 hy rfl rfl
        dsimp only [List.set] at H
        clear hy
        refine hK.out _ _ (fun _ => (H.sub [4, 2] rfl)) ?_; clear hK K
        (try simp only [Act.put, List.getElem_toArray, List.getElem_cons_zero, List.getElem_cons_succ, List.setIfInBounds_toArray, List.set_cons_zero, List.set_cons_succ])
        (refine Kr.tP 10 (v := ?_) rfl (by kernel_rfl) (fun _ _ _ h => h) (by rfl) (fun _ => (H.sub [4, 2] rfl)) (fun wx => ?_) ?_; rotate_left; (focus (go_simp; first | done | rfl)); (try simp only [Act.put, List.getElem_toArray, List.getElem_cons_zero, List.getElem_cons_succ, List.setIfInBounds_toArray, List.set_cons_zero, List.set_cons_succ]))
        refine Kr.doneL (by kernel_rfl) ?_ _
        go_wp2_with fail
        go_meet
        exact ⟨_, _, _, _, _, _, _, _, rfl, rfl, HI, Lib.hid H⟩
      refine Kr.AllL.cons rfl (fun K hK => ?_) Kr.AllL.nil
      go_simp
      obtain ⟨y11, hy⟩ : ∃ y, y8.alloc (.cells #[.slice none 0 0] 24) = y := ⟨_, rfl⟩
      obtain ⟨bi, hb⟩ : ∃ b, y8.heap.size = b := ⟨_, rfl⟩
      rw [hy, hb]
      replace H := H.alloc hy hb rfl
      clear hy hb
      refine hK.out _ _ (fun _ => (H.sub [4, 2] rfl)) ?_; clear hK K
      (try simp only [Act.put, List.getElem_toArray, List.getElem_cons_zero, List.getElem_cons_succ, List.setIfInBounds_toArray, List.set_cons_zero, List.set_cons_succ])
      refine Kr.readyL (rs := [4]) (by kernel_rfl) (by simp) ?_
      refine Kr.AllL.cons rfl (fun K hK => ?_) Kr.AllL.nil
      go_simp
      go_at_call 88
      refine (invert_v (H.nw 0 rfl) (H.nw 1 rfl) (Nat.mod_lt _ Hq0.out) Hvq.out).mono ?_
      rintro e yi ⟨pi, ni, ci, z, rfl, h1, h2, hr, hg⟩
      rw [decide_eq_true Hhg1.out]
      have HI := Lib.hid (h1 Hhg1.out)
      replace H := H.grow hg
      replace H := H.num hr
      clear hr hg h1 h2
      refine hK.out _ _ (fun _ => (H.sub [4, 2] rfl)) ?_; clear hK K
      (try simp only [Act.put, List.getElem_toArray, List.getElem_cons_zero, List.getElem_cons_succ, List.setIfInBounds_toArray, List.set_cons_zero, List.set_cons_succ])
      (refine Kr.tP 5 (v := ?_) rfl (by kernel_rfl) (fun _ _ _ h => h) (by rfl) (fun _ => (H.sub [4, 2] rfl)) (fun wx => ?_) ?_; rotate_left; (focus (go_simp; first | done | rfl)); (try simp only [Act.put, List.getElem_toArray, List.getElem_cons_zero, List.getElem_cons_succ, List.setIfInBounds_toArray, List.set_cons_zero, List.set_cons_succ]))
      (refine Kr.tP 6 (v := ?_) rfl (by kernel_rfl) (fun _ _ _ h => h) (by rfl) (fun _ => (H.sub [4, 2] rfl)) (fun wx => ?_) ?_; rotate_left; (focus (go_simp; first | done | rfl)); (try simp only [Act.put, List.getElem_toArray, List.getElem_cons_zero, List.getElem_cons_succ, List.setIfInBounds_toArray, List.set_cons_zero, List.set_cons_succ]))
      (refine Kr.tP 7 (v := ?_) rfl (by kernel_rfl) (fun _ _ _ h => h) (by rfl) (fun _ => (H.sub [4, 2] rfl)) (fun wx => ?_) ?_; rotate_left; (focus (go_simp; first | done | rfl)); (try simp only [Act.put, List.getElem_toArray, List.getElem_cons_zero, List.getElem_cons_succ, List.setIfInBounds_toArray, List.set_cons_zero, List.set_cons_succ]))
      refine Kr.readyL (rs := [9]) (by kernel_rfl) (by simp) ?_
      refine Kr.AllL.cons rfl (fun K hK => ?_) Kr.AllL.nil
      have hk := H.c
      simp only [Kr.Cells] at hk
      go_simp
      clear hk
      obtain ⟨y12, hy⟩ : ∃ y, yi.setCell ⟨bi, 0, none⟩ (.slice pi ni ci) = y := ⟨_, rfl⟩
      rw [hy]
      replace H := H.store 0 hy rfl rfl
      dsimp only [List.set] at H
      clear hy
      refine hK.out _ _ (fun _ => (H.sub [4, 2] rfl)) ?_; clear hK K
      (try simp only [Act.put, List.getElem_toArray, List.getElem_cons_zero, List.getElem_cons_succ, List.setIfInBounds_toArray, List.set_cons_zero, List.set_cons_succ])
      (refine Kr.tP 10 (v := ?_) rfl (by kernel_rfl) (fun _ _ _ h => h) (by rfl) (fun _ => (H.sub [4, 2] rfl)) (fun wx => ?_) ?_; rotate_left; (focus (go_simp; first | done | rfl)); (try simp only [Act.put, List.getElem_toArray, List.getElem_cons_zero, List.getElem_cons_succ, List.setIfInBounds_toArray, List.set_cons_zero, List.set_cons_succ]))
      refine Kr.doneL (by kernel_rfl) ?_ _
      go_wp2_with fail
      go_meet
      exact ⟨_, _, _, _, _, _, _, _, rfl, rfl, HI, Lib.hid H⟩
    refine Kr.AllL.cons rfl (fun K hK => ?_) Kr.AllL.nil
    go_simp
    obtain ⟨y13, hy⟩ : ∃ y, d7.alloc (.cells #[.slice none 0 0] 24) = y := ⟨_, rfl⟩
    obtain ⟨bi, hb⟩ : ∃ b, d7.heap.size = b := ⟨_, rfl⟩
    rw [hy, hb]
    replace H := H.alloc hy hb rfl
    clear hy hb
    refine hK.out _ _ (fun _ => (H.sub [4, 2] rfl)) ?_; clear hK K
    (try simp only [Act.put, List.getElem_toArray, List.getElem_cons_zero, List.getElem_cons_succ, List.setIfInBounds_toArray, List.set_cons_zero, List.set_cons_succ])
    refine Kr.readyL (rs := [2]) (by kernel_rfl) (by simp) ?_
    refine Kr.AllL.cons rfl (fun K hK => ?_) Kr.AllL.nil
    go_simp
    go_at_call 71
    refine (mrest_v (H.nw 2 rfl) (H.nw 0 rfl) (lt64 Hvp.out) (lt64 Hvq.out) Hq0.out).mono ?_
    rintro e y14 ⟨p14, n14, c14, rfl, hr, hg⟩
    replace H := H.grow hg
    replace H := H.num hr.toNw
    clear hr hg
    refine hK.out _ _ (fun _ => (H.sub [4, 2] rfl)) ?_; clear hK K
    (try simp only [Act.put, List.getElem_toArray, List.getElem_cons_zero, List.getElem_cons_succ, List.setIfInBounds_toArray, List.set_cons_zero, List.set_cons_succ])
    refine Kr.readyL (rs := [4]) (by kernel_rfl) (by simp) ?_
    refine Kr.AllL.cons rfl (fun K hK => ?_) Kr.AllL.nil
    go_simp
    go_at_call 88
    refine (invert_v (H.nw 0 rfl) (H.nw 1 rfl) (Nat.mod_lt _ Hq0.out) Hvq.out).mono ?_
    rintro e yi ⟨pi, ni, ci, z, rfl, h1, h2, hr, hg⟩
    rw [decide_eq_true Hhg1.out]
    have HI := Lib.hid (h1 Hhg1.out)
    replace H := H.grow hg
    replace H := H.num hr
    clear hr hg h1 h2
    refine hK.out _ _ (fun _ => (H.sub [4, 2] rfl)) ?_; clear hK K
    (try simp only [Act.put, List.getElem_toArray, List.getElem_cons_zero, List.getElem_cons_succ, List.setIfInBounds_toArray, List.set_cons_zero, List.set_cons_succ])
    (refine Kr.tP 5 (v := ?_) rfl (by kernel_rfl) (fun _ _ _ h => h) (by rfl) (fun _ => (H.sub [4, 2] rfl)) (fun wx => ?_) ?_; rotate_left; (focus (go_simp; first | done | rfl)); (try simp only [Act.put, List.getElem_toArray, List.getElem_cons_zero, List.getElem_cons_succ, List.setIfInBounds_toArray, List.set_cons_zero, List.set_cons_succ]))
    (refine Kr.tP 6 (v := ?_) rfl (by kernel_rfl) (fun _ _ _ h => h) (by rfl) (fun _ => (H.sub [4, 2] rfl)) (fun wx => ?_) ?_; rotate_left; (focus (go_simp; first | done | rfl)); (try simp only [Act.put, List.getElem_toArray, List.getElem_cons_zero, List.getElem_cons_succ, List.setIfInBounds_toArray, List.set_cons_zero, List.set_cons_succ]))
    (refine Kr.tP 7 (v := ?_) rfl (by kernel_rfl) (fun _ _ _ h => h) (by rfl) (fun _ => (H.sub [4, 2] rfl)) (fun wx => ?_) ?_; rotate_left; (focus (go_simp; first | done | rfl)); (try simp only [Act.put, List.getElem_toArray, List.getElem_cons_zero, List.getElem_cons_succ, List.setIfInBounds_toArray, List.set_cons_zero, List.set_cons_succ]))
    refine Kr.readyL (rs := [9]) (by kernel_rfl) (by simp) ?_
    refine Kr.AllL.cons rfl (fun K hK => ?_) Kr.AllL.nil
    have hk := H.c
    simp only [Kr.Cells] at hk
    go_simp
    clear hk
    obtain ⟨y15, hy⟩ : ∃ y, yi.setCell ⟨bi, 0, none⟩ (.slice pi ni ci) = y := ⟨_, rfl⟩
    rw [hy]
    replace H := H.store 0 hy rfl rfl
    dsimp only [List.set] at H
    clear hy
    refine hK.out _ _ (fun _ => (H.sub [4, 2] rfl)) ?_; clear hK K
    (try simp only [Act.put, List.getElem_toArray, List.getElem_cons_zero, List.getElem_cons_succ, List.setIfInBounds_toArray, List.set_cons_zero, List.set_cons_succ])
    (refine Kr.tP 10 (v := ?_) rfl (by kernel_rfl) (fun _ _ _ h => h) (by rfl) (fun _ => (H.sub [4, 2] rfl)) (fun wx => ?_) ?_; rotate_left; (focus (go_simp; first | done | rfl)); (try simp only [Act.put, List.getElem_toArray, List.getElem_cons_zero, List.getElem_cons_succ, List.setIfInBounds_toArray, List.set_cons_zero, List.set_cons_succ]))
    refine Kr.doneL (by kernel_rfl) ?_ _
    go_wp2_with fail
    go_meet
    exact ⟨_, _, _, _, _, _, _, _, rfl, rfl, HI, Lib.hid H⟩
  case rest =>
    clear H
    obtain ⟨bi, pi, ni, ci, p14, n14, c14, z, rfl, rfl, HI, HH⟩ := hcut
    have H := HH.out
    clear HH
    go_upto_region 5 with fail
    refine Kr.seqStart ?_
    iterate 3 (refine Kr.seqP (v := ?_) (by rfl) ?_ ?_; rotate_left; (focus (go_simp; first | done | rfl)); (try simp only [Act.put, List.getElem_toArray, List.getElem_cons_zero, List.getElem_cons_succ, List.setIfInBounds_toArray, List.set_cons_zero, List.set_cons_succ]))
    refine Kr.seqDone ?_
    go_upto_region 7 with fail
    refine Kr.seqStart ?_
    have hk := H.c
    simp only [Kr.Cells] at hk
    iterate 2 (refine Kr.seqP (v := ?_) (by rfl) ?_ ?_; rotate_left; (focus (go_simp; first | done | rfl)); (try simp only [Act.put, List.getElem_toArray, List.getElem_cons_zero, List.getElem_cons_succ, List.setIfInBounds_toArray, List.set_cons_zero, List.set_cons_succ]))
    refine Kr.seqS (fun K hK => ?_)
    go_simp
    go_at_call 79
    refine (mtimes_v (H.nw 4 rfl) (H.nw 2 rfl) (lt64 Hvp.out) (lt64 Hvq.out) HPQ.out).mono ?_
    rintro e y16 ⟨p16, n16, c16, rfl, hr, hg⟩
    clear hk
    replace H := H.grow hg
    replace H := H.num hr.toNw
    clear hr hg
    refine hK.out _ _ ?_; clear hK K
    (try simp only [Act.put, List.getElem_toArray, List.getElem_cons_zero, List.getElem_cons_succ, List.setIfInBounds_toArray, List.set_cons_zero, List.set_cons_succ])
    refine Kr.seqS (fun K hK => ?_)
    go_simp
    go_at_call 90
    refine (isModulus_any (H.nw 0 rfl)).mono ?_
    rintro e y17 ⟨rfl, hg⟩
    rw [HIM.out]
    replace H := H.grow hg
    clear hg
    refine hK.out _ _ ?_; clear hK K
    (try simp only [Act.put, List.getElem_toArray, List.getElem_cons_zero, List.getElem_cons_succ, List.setIfInBounds_toArray, List.set_cons_zero, List.set_cons_succ])
    iterate 2 (refine Kr.seqP (v := ?_) (by rfl) ?_ ?_; rotate_left; (focus (go_simp; first | done | rfl)); (try simp only [Act.put, List.getElem_toArray, List.getElem_cons_zero, List.getElem_cons_succ, List.setIfInBounds_toArray, List.set_cons_zero, List.set_cons_succ]))
    refine Kr.seqDone ?_
    go_upto_region 9 with fail
    go_cut [13, 14] from 45 to 53 (fun s13 s14 W => ∃ (bg : Nat) (p28 : Option Addr) (n28 c28 : Nat) (p27 : Option Addr) (n27 c27 : Nat), s13 = .pointer (some ⟨bg, 0, none⟩) ∧ s14 = .int .i64 0 ∧ Hid (Sta w W [(bg, 0, .slice p28 n28 c28), (bi, 0, .slice pi ni ci), (br, 0, .slice none 0 0), (bq, 0, .slice pq nq cq), (bb, 0, .slice pb nb cb), (bp, 0, .slice pp np cp), (ba, 0, .slice pa na ca)] [N p28 n28 c28 ((b + q - a % q) % q), N p27 n27 c27 (a % q), N p16 n16 c16 (p * q), N pi ni ci (z), N p14 n14 c14 (p % q), N pq nq cq (q), N pb nb cb (b), N pp np cp (p), N pa na ca (a)]))
    case first =>
      refine Kr.startL (fun W' => Kr.Cells W' [(bb, 0, .slice pb nb cb), (ba, 0, .slice pa na ca), (bq, 0, .slice pq nq cq)]) [] (by kernel_rfl) ?_
      have gd : Gr y17 y17.drew := (Gr.refl _).drew
      generalize y17.drew = d18 at gd ⊢
      replace H := H.grow gd
      clear gd
      (refine Kr.tS 0 [] (v := ?_) rfl (by kernel_rfl) (fun _ _ _ h => h) (by rfl) (H.sub [3, 5, 2] rfl) (fun wx hSx => ?_) ?_; rotate_left; (focus (simp only [Kr.Cells] at hSx; go_simp; first | done | rfl)); (try simp only [Act.put, List.getElem_toArray, List.getElem_cons_zero, List.getElem_cons_succ, List.setIfInBounds_toArray, List.set_cons_zero, List.set_cons_succ]))
      (refine Kr.tS 1 [] (v := ?_) rfl (by kernel_rfl) (fun _ _ _ h => h) (by rfl) (H.sub [3, 5, 2] rfl) (fun wx hSx => ?_) ?_; rotate_left; (focus (simp only [Kr.Cells] at hSx; go_simp; first | done | rfl)); (try simp only [Act.put, List.getElem_toArray, List.getElem_cons_zero, List.getElem_cons_succ, List.setIfInBounds_toArray, List.set_cons_zero, List.set_cons_succ]))
      (refine Kr.tS 2 [] (v := ?_) rfl (by kernel_rfl) (fun _ _ _ h => h) (by rfl) (H.sub [3, 5, 2] rfl) (fun wx hSx => ?_) ?_; rotate_left; (focus (simp only [Kr.Cells] at hSx; go_simp; first | done | rfl)); (try simp only [Act.put, List.getElem_toArray, List.getElem_cons_zero, List.getElem_cons_succ, List.setIfInBounds_toArray, List.set_cons_zero, List.set_cons_succ]))
      (refine Kr.tS 4 [] (v := ?_) rfl (by kernel_rfl) (fun _ _ _ h => h) (by rfl) (H.sub [3, 5, 2] rfl) (fun wx hSx => ?_) ?_; rotate_left; (focus (simp only [Kr.Cells] at hSx; go_simp; first | done | rfl)); (try simp only [Act.put, List.getElem_toArray, List.getElem_cons_zero, List.getElem_cons_succ, List.setIfInBounds_toArray, List.set_cons_zero, List.set_cons_succ]))
      refine Kr.readyL (rs := [3, 9]) (by kernel_rfl) (by simp) ?_
      refine Kr.AllL.cons rfl (fun K hK => ?_) ?_
      · go_simp
        go_at_call 71
        refine (mrest_v (H.nw 6 rfl) (H.nw 3 rfl) (lt64 (Nat.lt_trans Hva.out Hvp.out)) (lt64 Hvq.out) Hq0.out).mono ?_
        rintro e y19 ⟨p19, n19, c19, rfl, hr, hg⟩
        replace H := H.grow hg
        replace H := H.num hr.toNw
        clear hr hg
        refine hK.out _ _ (fun _ => (H.sub [3, 5, 2] rfl)) ?_; clear hK K
        (try simp only [Act.put, List.getElem_toArray, List.getElem_cons_zero, List.getElem_cons_succ, List.setIfInBounds_toArray, List.set_cons_zero, List.set_cons_succ])
        refine Kr.readyL (rs := [5, 9]) (by kernel_rfl) (by simp) ?_
        refine Kr.AllL.cons rfl (fun K hK => ?_) ?_
        · go_simp
          go_at_call 21
          refine (mSub_v (H.nw 5 rfl) (H.nw 0 rfl) (H.nw 4 rfl) Hvb.out (Nat.mod_lt _ Hq0.out) Hvq.out).mono ?_
          rintro e y20 ⟨p20, n20, c20, rfl, hr, hg⟩
          replace H := H.grow hg
          replace H := H.num hr.toNw
          clear hr hg
          refine hK.out _ _ (fun _ => (H.sub [3, 5, 2] rfl)) ?_; clear hK K
          (try simp only [Act.put, List.getElem_toArray, List.getElem_cons_zero, List.getElem_cons_succ, List.setIfInBounds_toArray, List.set_cons_zero, List.set_cons_succ])
          (refine Kr.tP 6 (v := ?_) rfl (by kernel_rfl) (fun _ _ _ h => h) (by rfl) (fun _ => (H.sub [3, 5, 2] rfl)) (fun wx => ?_) ?_; rotate_left; (focus (go_simp; first | done | rfl)); (try simp only [Act.put, List.getElem_toArray, List.getElem_cons_zero, List.getElem_cons_succ, List.setIfInBounds_toArray, List.set_cons_zero, List.set_cons_succ]))
          (refine Kr.tP 7 (v := ?_) rfl (by kernel_rfl) (fun _ _ _ h => h) (by rfl) (fun _ => (H.sub [3, 5, 2] rfl)) (fun wx => ?_) ?_; rotate_left; (focus (go_simp; first | done | rfl)); (try simp only [Act.put, List.getElem_toArray, List.getElem_cons_zero, List.getElem_cons_succ, List.setIfInBounds_toArray, List.set_cons_zero, List.set_cons_succ]))
          (refine Kr.tP 8 (v := ?_) rfl (by kernel_rfl) (fun _ _ _ h => h) (by rfl) (fun _ => (H.sub [3, 5, 2] rfl)) (fun wx => ?_) ?_; rotate_left; (focus (go_simp; first | done | rfl)); (try simp only [Act.put, List.getElem_toArray, List.getElem_cons_zero, List.getElem_cons_succ, List.setIfInBounds_toArray, List.set_cons_zero, List.set_cons_succ]))
          refine Kr.readyL (rs := [9]) (by kernel_rfl) (by simp) ?_
          refine Kr.AllL.cons rfl (fun K hK => ?_) Kr.AllL.nil
          go_simp
          obtain ⟨y21, hy⟩ : ∃ y, y20.alloc (.cells #[.slice none 0 0] 24) = y := ⟨_, rfl⟩
          obtain ⟨bg, hb⟩ : ∃ b, y20.heap.size = b := ⟨_, rfl⟩
          rw [hy, hb]
          replace H := H.alloc hy hb rfl
          clear hy hb
          refine hK.out _ _ (fun _ => (H.sub [4, 6, 3] rfl)) ?_; clear hK K
          (try simp only [Act.put, List.getElem_toArray, List.getElem_cons_zero, List.getElem_cons_succ, List.setIfInBounds_toArray, List.set_cons_zero, List.set_cons_succ])
          refine Kr.readyL (rs := [10]) (by kernel_rfl) (by simp) ?_
          refine Kr.AllL.cons rfl (fun K hK => ?_) Kr.AllL.nil
          have hk := H.c
          simp only [Kr.Cells] at hk
          go_simp
          clear hk
          obtain ⟨y22, hy⟩ : ∃ y, y21.setCell ⟨bg, 0, none⟩ (.slice p20 n20 c20) = y := ⟨_, rfl⟩
          rw [hy]
          replace H := H.store 0 hy rfl rfl
          dsimp only [List.set] at H
          clear hy
          refine hK.out _ _ (fun _ => (H.sub [4, 6, 3] rfl)) ?_; clear hK K
          (try simp only [Act.put, List.getElem_toArray, List.getElem_cons_zero, List.getElem_cons_succ, List.setIfInBounds_toArray, List.set_cons_zero, List.set_cons_succ])
          (refine Kr.tP 11 (v := ?_) rfl (by kernel_rfl) (fun _ _ _ h => h) (by rfl) (fun _ => (H.sub [4, 6, 3] rfl)) (fun wx => ?_) ?_; rotate_left; (focus (go_simp; first | done | rfl)); (try simp only [Act.put, List.getElem_toArray, List.getElem_cons_zero, List.getElem_cons_succ, List.setIfInBounds_toArray, List.set_cons_zero, List.set_cons_succ]))
          refine Kr.doneL (by kernel_rfl) ?_ _
          go_wp2_with fail
          go_meet
          exact ⟨_, _, _, _, _, _, _, rfl, rfl, Lib.hid H⟩
        refine Kr.AllL.cons rfl (fun K hK => ?_) Kr.AllL.nil
        go_simp
        obtain ⟨y23, hy⟩ : ∃ y, y19.alloc (.cells #[.slice none 0 0] 24) = y := ⟨_, rfl⟩
        obtain ⟨bg, hb⟩ : ∃ b, y19.heap.size = b := ⟨_, rfl⟩
        rw [hy, hb]
        replace H := H.alloc hy hb rfl
        clear hy hb
        refine hK.out _ _ (fun _ => (H.sub [4, 6, 3] rfl)) ?_; clear hK K
        (try simp only [Act.put, List.getElem_toArray, List.getElem_cons_zero, List.getElem_cons_succ, List.setIfInBounds_toArray, List.set_cons_zero, List.set_cons_succ])
        refine Kr.readyL (rs := [5]) (by kernel_rfl) (by simp) ?_
        refine Kr.AllL.cons rfl (fun K hK => ?_) Kr.AllL.nil
        go_simp
        go_at_call 21
        refine (mSub_v (H.nw 5 rfl) (H.nw 0 rfl) (H.nw 4 rfl) Hvb.out (Nat.mod_lt _ Hq0.out) Hvq.out).mono ?_
        rintro e y24 ⟨p24, n24, c24, rfl, hr, hg⟩
        replace H := H.grow hg
        replace H := H.num hr.toNw
        clear hr hg
        refine hK.out _ _ (fun _ => (H.sub [4, 6, 3] rfl)) ?_; clear hK K
        (try simp only [Act.put, List.getElem_toArray, List.getElem_cons_zero, List.getElem_cons_succ, List.setIfInBounds_toArray, List.set_cons_zero, List.set_cons_succ])
        (refine Kr.tP 6 (v := ?_) rfl (by kernel_rfl) (fun _ _ _ h => h) (by rfl) (fun _ => (H.sub [4, 6, 3] rfl)) (fun wx => ?_) ?_; rotate_left; (focus (go_simp; first | done | rfl)); (try simp only [Act.put, List.getElem_toArray, List.getElem_cons_zero, List.getElem_cons_succ, List.setIfInBounds_toArray, List.set_cons_zero, List.set_cons_succ]))
        (refine Kr.tP 7 (v := ?_) rfl (by kernel_rfl) (fun _ _ _ h => h) (by rfl) (fun _ => (H.sub [4, 6, 3] rfl)) (fun wx => ?_) ?_; rotate_left; (focus (go_simp; first | done | rfl)); (try simp only [Act.put, List.getElem_toArray, List.getElem_cons_zero, List.getElem_cons_succ, List.setIfInBounds_toArray, List.set_cons_zero, List.set_cons_succ]))
        (refine Kr.tP 8 (v := ?_) rfl (by kernel_rfl) (fun _ _ _ h => h) (by rfl) (fun _ => (H.sub [4, 6, 3] rfl)) (fun wx => ?_) ?_; rotate_left; (focus (go_simp; first | done | rfl)); (try simp only [Act.put, List.getElem_toArray, List.getElem_cons_zero, List.getElem_cons_succ, List.setIfInBounds_toArray, List.set_cons_zero, List.set_cons_succ]))
        refine Kr.readyL (rs := [10]) (by kernel_rfl) (by simp) ?_
        refine Kr.AllL.cons rfl (fun K hK => ?_) Kr.AllL.nil
        have hk := H.c
        simp only [Kr.Cells] at hk
        go_simp
        clear hk
        obtain ⟨y25, hy⟩ : ∃ y, y24.setCell ⟨bg, 0, none⟩ (.slice p24 n24 c24) = y := ⟨_, rfl⟩
        rw [hy]
        replace H := H.store 0 hy rfl rfl
        dsimp only [List.set] at H
        clear hy
        refine hK.out _ _ (fun _ => (H.sub [4, 6, 3] rfl)) ?_; clear hK K
        (try simp only [Act.put, List.getElem_toArray, List.getElem_cons_zero, List.getElem_cons_succ, List.setIfInBounds_toArray, List.set_cons_zero, List.set_cons_succ])
        (refine Kr.tP 11 (v := ?_) rfl (by kernel_rfl) (fun _ _ _ h => h) (by rfl) (fun _ => (H.sub [4, 6, 3] rfl)) (fun wx => ?_) ?_; rotate_left; (focus (go_simp; first | done | rfl)); (try simp only [Act.put, List.getElem_toArray, List.getElem_cons_zero, List.getElem_cons_succ, List.setIfInBounds_toArray, List.set_cons_zero, List.set_cons_succ]))
        refine Kr.doneL (by kernel_rfl) ?_ _
        go_wp2_with fail
        go_meet
        exact ⟨_, _, _, _, _, _, _, rfl, rfl, Lib.hid H⟩
      refine Kr.AllL.cons rfl (fun K hK => ?_) Kr.AllL.nil
      go_simp
      obtain ⟨y26, hy⟩ : ∃ y, d18.alloc (.cells #[.slice none 0 0] 24) = y := ⟨_, rfl⟩
      obtain ⟨bg, hb⟩ : ∃ b, d18.heap.size = b := ⟨_, rfl⟩
      rw [hy, hb]
      replace H := H.alloc hy hb rfl
      clear hy hb
      refine hK.out _ _ (fun _ => (H.sub [4, 6, 3] rfl)) ?_; clear hK K
      (try simp only [Act.put, List.getElem_toArray, List.getElem_cons_zero, List.getElem_cons_succ, List.setIfInBounds_toArray, List.set_cons_zero, List.set_cons_succ])
      refine Kr.readyL (rs := [3]) (by kernel_rfl) (by simp) ?_
      refine Kr.AllL.cons rfl (fun K hK => ?_) Kr.AllL.nil
      go_simp
      go_at_call 71
      refine (mrest_v (H.nw 6 rfl) (H.nw 3 rfl) (lt64 (Nat.lt_trans Hva.out Hvp.out)) (lt64 Hvq.out) Hq0.out).mono ?_
      rintro e y27 ⟨p27, n27, c27, rfl, hr, hg⟩
      replace H := H.grow hg
      replace H := H.num hr.toNw
      clear hr hg
      refine hK.out _ _ (fun _ => (H.sub [4, 6, 3] rfl)) ?_; clear hK K
      (try simp only [Act.put, List.getElem_toArray, List.getElem_cons_zero, List.getElem_cons_succ, List.setIfInBounds_toArray, List.set_cons_zero, List.set_cons_succ])
      refine Kr.readyL (rs := [5]) (by kernel_rfl) (by simp) ?_
      refine Kr.AllL.cons rfl (fun K hK => ?_) Kr.AllL.nil
      go_simp
      go_at_call 21
      refine (mSub_v (H.nw 5 rfl) (H.nw 0 rfl) (H.nw 4 rfl) Hvb.out (Nat.mod_lt _ Hq0.out) Hvq.out).mono ?_
      rintro e y28 ⟨p28, n28, c28, rfl, hr, hg⟩
      replace H := H.grow hg
      replace H := H.num hr.toNw
      clear hr hg
      refine hK.out _ _ (fun _ => (H.sub [4, 6, 3] rfl)) ?_; clear hK K
      (try simp only [Act.put, List.getElem_toArray, List.getElem_cons_zero, List.getElem_cons_succ, List.setIfInBounds_toArray, List.set_cons_zero, List.set_cons_succ])
      (refine Kr.tP 6 (v := ?_) rfl (by kernel_rfl) (fun _ _ _ h => h) (by rfl) (fun _ => (H.sub [4, 6, 3] rfl)) (fun wx => ?_) ?_; rotate_left; (focus (go_simp; first | done | rfl)); (try simp only [Act.put, List.getElem_toArray, List.getElem_cons_zero, List.getElem_cons_succ, List.setIfInBounds_toArray, List.set_cons_zero, List.set_cons_succ]))
      (refine Kr.tP 7 (v := ?_) rfl (by kernel_rfl) (fun _ _ _ h => h) (by rfl) (fun _ => (H.sub [4, 6, 3] rfl)) (fun wx => ?_) ?_; rotate_left; (focus (go_simp; first | done | rfl)); (try simp only [Act.put, List.getElem_toArray, List.getElem_cons_zero, List.getElem_cons_succ, List.setIfInBounds_toArray, List.set_cons_zero, List.set_cons_succ]))
      (refine Kr.tP 8 (v := ?_) rfl (by kernel_rfl) (fun _ _ _ h => h) (by rfl) (fun _ => (H.sub [4, 6, 3] rfl)) (fun wx => ?_) ?_; rotate_left; (focus (go_simp; first | done | rfl)); (try simp only [Act.put, List.getElem_toArray, List.getElem_cons_zero, List.getElem_cons_succ, List.setIfInBounds_toArray, List.set_cons_zero, List.set_cons_succ]))
      refine Kr.readyL (rs := [10]) (by kernel_rfl) (by simp) ?_
      refine Kr.AllL.cons rfl (fun K hK => ?_) Kr.AllL.nil
      have hk := H.c
      simp only [Kr.Cells] at hk
      go_simp
      clear hk
      obtain ⟨y29, hy⟩ : ∃ y, y28.setCell ⟨bg, 0, none⟩ (.slice p28 n28 c28) = y := ⟨_, rfl⟩
      rw [hy]
      replace H := H.store 0 hy rfl rfl
      dsimp only [List.set] at H
      clear hy
      refine hK.out _ _ (fun _ => (H.sub [4, 6, 3] rfl)) ?_; clear hK K
      (try simp only [Act.put, List.getElem_toArray, List.getElem_cons_zero, List.getElem_cons_succ, List.setIfInBounds_toArray, List.set_cons_zero, List.set_cons_succ])
      (refine Kr.tP 11 (v := ?_) rfl (by kernel_rfl) (fun _ _ _ h => h) (by rfl) (fun _ => (H.sub [4, 6, 3] rfl)) (fun wx => ?_) ?_; rotate_left; (focus (go_simp; first | done | rfl)); (try simp only [Act.put, List.getElem_toArray, List.getElem_cons_zero, List.getElem_cons_succ, List.setIfInBounds_toArray, List.set_cons_zero, List.set_cons_succ]))
      refine Kr.doneL (by kernel_rfl) ?_ _
      go_wp2_with fail
      go_meet
      exact ⟨_, _, _, _, _, _, _, rfl, rfl, Lib.hid H⟩
    case rest =>
      clear H
      obtain ⟨bg, p28, n28, c28, p27, n27, c27, rfl, rfl, HH⟩ := hcut
      have H := HH.out
      clear HH
      go_upto_region 10 with fail
      refine Kr.seqStart ?_
      have hk := H.c
      simp only [Kr.Cells] at hk
      iterate 3 (refine Kr.seqP (v := ?_) (by rfl) ?_ ?_; rotate_left; (focus (go_simp; first | done | rfl)); (try simp only [Act.put, List.getElem_toArray, List.getElem_cons_zero, List.getElem_cons_succ, List.setIfInBounds_toArray, List.set_cons_zero, List.set_cons_succ]))
      refine Kr.seqS (fun K hK => ?_)
      go_simp
      go_at_call 26
      refine (mMul_v (H.nw 0 rfl) (H.nw 3 rfl) (H.nw 5 rfl) (Nat.mod_lt _ Hq0.out) HI.out.1 Hvq.out).mono ?_
      rintro e y30 ⟨p30, n30, c30, rfl, hr, hg⟩
      clear hk
      replace H := H.grow hg
      replace H := H.num hr.toNw
      clear hr hg
      refine hK.out _ _ ?_; clear hK K
      (try simp only [Act.put, List.getElem_toArray, List.getElem_cons_zero, List.getElem_cons_succ, List.setIfInBounds_toArray, List.set_cons_zero, List.set_cons_succ])
      iterate 3 (refine Kr.seqP (v := ?_) (by rfl) ?_ ?_; rotate_left; (focus (go_simp; first | done | rfl)); (try simp only [Act.put, List.getElem_toArray, List.getElem_cons_zero, List.getElem_cons_succ, List.setIfInBounds_toArray, List.set_cons_zero, List.set_cons_succ]))
      refine Kr.seqS (fun K hK => ?_)
      go_simp
      obtain ⟨y31, hy⟩ : ∃ y, y30.alloc (.cells #[.slice none 0 0] 24) = y := ⟨_, rfl⟩
      obtain ⟨bs, hb⟩ : ∃ b, y30.heap.size = b := ⟨_, rfl⟩
      rw [hy, hb]
      replace H := H.alloc hy hb rfl
      clear hy hb
      refine hK.out _ _ ?_; clear hK K
      (try simp only [Act.put, List.getElem_toArray, List.getElem_cons_zero, List.getElem_cons_succ, List.setIfInBounds_toArray, List.set_cons_zero, List.set_cons_succ])
      have hk := H.c
      simp only [Kr.Cells] at hk
      refine Kr.seqS (fun K hK => ?_)
      go_simp
      clear hk
      obtain ⟨y32, hy⟩ : ∃ y, y31.setCell ⟨bs, 0, none⟩ (.slice p30 n30 c30) = y := ⟨_, rfl⟩
      rw [hy]
      replace H := H.store 0 hy rfl rfl
      dsimp only [List.set] at H
      clear hy
      refine hK.out _ _ ?_; clear hK K
      (try simp only [Act.put, List.getElem_toArray, List.getElem_cons_zero, List.getElem_cons_succ, List.setIfInBounds_toArray, List.set_cons_zero, List.set_cons_succ])
      (refine Kr.seqP (v := ?_) (by rfl) ?_ ?_; rotate_left; (focus (go_simp; first | done | rfl)); (try simp only [Act.put, List.getElem_toArray, List.getElem_cons_zero, List.getElem_cons_succ, List.setIfInBounds_toArray, List.set_cons_zero, List.set_cons_succ]))
      refine Kr.seqDone ?_
      go_upto_region 11 with fail
      refine Kr.startL (fun W' => Kr.Cells W' [(ba, 0, .slice pa na ca), (bp, 0, .slice pp np cp), (bs, 0, .slice p30 n30 c30)]) [] (by kernel_rfl) ?_
      have gd : Gr y32 y32.drew := (Gr.refl _).drew
      generalize y32.drew = d33 at gd ⊢
      replace H := H.grow gd
      clear gd
      (refine Kr.tS 0 [] (v := ?_) rfl (by kernel_rfl) (fun _ _ _ h => h) (by rfl) (H.sub [7, 6, 0] rfl) (fun wx hSx => ?_) ?_; rotate_left; (focus (simp only [Kr.Cells] at hSx; go_simp; first | done | rfl)); (try simp only [Act.put, List.getElem_toArray, List.getElem_cons_zero, List.getElem_cons_succ, List.setIfInBounds_toArray, List.set_cons_zero, List.set_cons_succ]))
      (refine Kr.tS 1 [] (v := ?_) rfl (by kernel_rfl) (fun _ _ _ h => h) (by rfl) (H.sub [7, 6, 0] rfl) (fun wx hSx => ?_) ?_; rotate_left; (focus (simp only [Kr.Cells] at hSx; go_simp; first | done | rfl)); (try simp only [Act.put, List.getElem_toArray, List.getElem_cons_zero, List.getElem_cons_succ, List.setIfInBounds_toArray, List.set_cons_zero, List.set_cons_succ]))
      (refine Kr.tS 2 [] (v := ?_) rfl (by kernel_rfl) (fun _ _ _ h => h) (by rfl) (H.sub [7, 6, 0] rfl) (fun wx hSx => ?_) ?_; rotate_left; (focus (simp only [Kr.Cells] at hSx; go_simp; first | done | rfl)); (try simp only [Act.put, List.getElem_toArray, List.getElem_cons_zero, List.getElem_cons_succ, List.setIfInBounds_toArray, List.set_cons_zero, List.set_cons_succ]))
      refine Kr.readyL (rs := [3]) (by kernel_rfl) (by simp) ?_
      refine Kr.AllL.cons rfl (fun K hK => ?_) Kr.AllL.nil
      go_simp
      go_at_call 79
      refine (mtimes_v (H.nw 8 rfl) (H.nw 0 rfl) (lt64 Hvp.out) (lt64 (Nat.lt_trans (Nat.mod_lt _ Hq0.out) Hvq.out)) (Nat.lt_of_le_of_lt (Nat.mul_le_mul_left p (Nat.le_of_lt (Nat.mod_lt _ Hq0.out))) HPQ.out)).mono ?_
      rintro e y34 ⟨p34, n34, c34, rfl, hr, hg⟩
      replace H := H.grow hg
      replace H := H.num hr.toNw
      clear hr hg
      refine hK.out _ _ (fun _ => (H.sub [7, 6, 0] rfl)) ?_; clear hK K
      (try simp only [Act.put, List.getElem_toArray, List.getElem_cons_zero, List.getElem_cons_succ, List.setIfInBounds_toArray, List.set_cons_zero, List.set_cons_succ])
      refine Kr.readyL (rs := [4]) (by kernel_rfl) (by simp) ?_
      refine Kr.AllL.cons rfl (fun K hK => ?_) Kr.AllL.nil
      go_simp
      go_at_call 72
      refine (mplus_v (H.nw 10 rfl) (H.nw 0 rfl) (lt64 (Nat.lt_trans Hva.out Hvp.out)) (Nat.lt_of_le_of_lt (Nat.mul_le_mul_left p (Nat.le_of_lt (Nat.mod_lt _ Hq0.out))) HPQ.out) (Nat.lt_trans (crt_lt Hva.out (Nat.mod_lt _ Hq0.out)) HPQ.out)).mono ?_
      rintro e y35 ⟨p35, n35, c35, rfl, hr, hg⟩
      replace H := H.grow hg
      replace H := H.num hr.toNw
      clear hr hg
      refine hK.out _ _ (fun _ => (H.sub [7, 6, 0] rfl)) ?_; clear hK K
      (try simp only [Act.put, List.getElem_toArray, List.getElem_cons_zero, List.getElem_cons_succ, List.setIfInBounds_toArray, List.set_cons_zero, List.set_cons_succ])
      refine Kr.readyL (rs := [5]) (by kernel_rfl) (by simp) ?_
      refine Kr.AllL.cons rfl (fun K hK => ?_) Kr.AllL.nil
      have hk := H.c
      simp only [Kr.Cells] at hk
      go_simp
      clear hk
      obtain ⟨y36, hy⟩ : ∃ y, y35.setCell ⟨br, 0, none⟩ (.slice p35 n35 c35) = y := ⟨_, rfl⟩
      rw [hy]
      replace H := H.store 3 hy rfl rfl
      dsimp only [List.set] at H
      clear hy
      refine hK.out _ _ (fun _ => (H.sub [7, 6, 0] rfl)) ?_; clear hK K
      (try simp only [Act.put, List.getElem_toArray, List.getElem_cons_zero, List.getElem_cons_succ, List.setIfInBounds_toArray, List.set_cons_zero, List.set_cons_succ])
      (refine Kr.tP 6 (v := ?_) rfl (by kernel_rfl) (fun _ _ _ h => h) (by rfl) (fun _ => (H.sub [7, 6, 0] rfl)) (fun wx => ?_) ?_; rotate_left; (focus (go_simp; first | done | rfl)); (try simp only [Act.put, List.getElem_toArray, List.getElem_cons_zero, List.getElem_cons_succ, List.setIfInBounds_toArray, List.set_cons_zero, List.set_cons_succ]))
      refine Kr.doneL (by kernel_rfl) ?_ _
      have hk := H.c
      simp only [Kr.Cells] at hk
      go_wp2
      refine bodyPost_ret (v := .tuple #[.agg #[.slice p35 n35 c35], .int .i64 0]) (by simp [results, Try.results35, go_sem, hk]) rfl ⟨z, HI.out, p35, n35, c35, rfl, (H.nw 0 rfl), H.g⟩
end Go.Proofs.Ytlciocebbckdcaa.Mo
