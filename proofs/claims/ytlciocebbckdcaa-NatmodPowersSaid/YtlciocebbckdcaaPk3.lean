/- A part of the proofs, joined of smaller texts: Mg, Mra, Mrb, Mf, Mh, Ms, Nrof, Mbt, Mbs, Mt, Nequal, Nrcmp, Nrbld, Kst, Mi, Mj. -/
import Derived.Test.YtlciocebbckdcaaPk2
import Derived.Deep.Cut
import Derived.BigQuiet
import Derived.Deep.RegionHeld3
import Derived.Deep.Onto

/- The contract of natmod's invert. -/
namespace Go.Proofs.Ytlciocebbckdcaa.Mo
open Go.RowKit Go.Shelf Go.Proofs.Ytlciocebbckdcaa.Nm Go.Proofs.Ytlciocebbckdcaa.Ne Go.Proofs.Ytlciocebbckdcaa.Nf Go.Proofs.Ytlciocebbckdcaa.Nk Go.Proofs.Ytlciocebbckdcaa.Nv Go.Proofs.Ytlciocebbckdcaa.Nr2 Go.Proofs.Ytlciocebbckdcaa.Kr

/-- What holds between two rounds of invert. -/
structure InvSt (w W : World) (x y B C : Nat) (q : Option Addr) (m d : Nat) (p0 : Option Addr) (n0 c0 : Nat) (p1 : Option Addr) (n1 c1 : Nat) (p2 : Option Addr) (n2 c2 : Nat) (p3 : Option Addr) (n3 c3 : Nat) (r0 x0 r1 x1 : Nat) (s0 s1 : Bool) : Prop where
  g : Gr w W
  km : W.cell? ⟨w.heap.size + 1, 0, none⟩ = some (.slice q m d)
  kr : W.cell? ⟨w.heap.size + 1 + 1, 0, none⟩ = some (.slice none 0 0)
  fr : W.frozen? ⟨w.heap.size + 1 + 1, 0, none⟩ = false
  nm : Nw W q m d (digs y)
  bc : B ≠ C
  lB : w.heap.size + 3 ≤ B
  lC : w.heap.size + 3 ≤ C
  mB : Av B q (digs y)
  mC : Av C q (digs y)
  sB : Stp W B (.slice p0 n0 c0) (.slice p1 n1 c1) (.bool s0)
  sC : Stp W C (.slice p2 n2 c2) (.slice p3 n3 c3) (.bool s1)
  w0 : Nw W p0 n0 c0 (digs r0)
  w1 : Nw W p1 n1 c1 (digs x0)
  w2 : Nw W p2 n2 c2 (digs r1)
  w3 : Nw W p3 n3 c3 (digs x1)
  a0B : Av B p0 (digs r0)
  a0C : Av C p0 (digs r0)
  a1B : Av B p1 (digs x0)
  a1C : Av C p1 (digs x0)
  a2B : Av B p2 (digs r1)
  a2C : Av C p2 (digs r1)
  a3B : Av B p3 (digs x1)
  a3C : Av C p3 (digs x1)
  a1R : Av (w.heap.size + 1 + 1) p1 (digs x0)
  a3R : Av (w.heap.size + 1 + 1) p3 (digs x1)
  inv : EInv x y r0 x0 s0 r1 x1 s1

set_option linter.unusedSimpArgs false in
set_option maxRecDepth 100000 in
set_option maxHeartbeats 16000000 in
theorem invert_v {p q : Option Addr} {n m c d x y : Nat} {w : World} (hl : Nw w p n c (digs x)) (hk : Nw w q m d (digs y)) (hx : x < y) (hy : y < pw 32) :
    Calls Try.prog 88 #[.agg #[.slice p n c], .agg #[.slice q m d]] w fun e w' => ∃ (p5 : Option Addr) (n5 c5 z : Nat), e = .returned (.tuple #[.agg #[.slice p5 n5 c5], .bool (decide (Nat.gcd x y = 1))]) ∧ (Nat.gcd x y = 1 → IsInv x y z) ∧ (Nat.gcd x y ≠ 1 → z = 0) ∧ Nw w' p5 n5 c5 (digs z) ∧ Gr w w' := by
  have R_a := Lib.hid hl
  have R_m := Lib.hid hk
  have HX := Lib.hid hx
  have HY := Lib.hid hy
  have G := Lib.hid ((((Gr.refl w).alloc (.cells #[.slice p n c] 24)).alloc (.cells #[.slice q m d] 24)).alloc (.cells #[.slice none 0 0] 24))
  clear hl hk hx hy
  obtain ⟨W0, hW0⟩ : ∃ W0, W0 = ((w.alloc (.cells #[.slice p n c] 24)).alloc (.cells #[.slice q m d] 24)).alloc (.cells #[.slice none 0 0] 24) := ⟨_, rfl⟩
  have k_a : W0.cell? ⟨w.heap.size, 0, none⟩ = some (.slice p n c) := by rw [hW0]; simp [go_sem]
  have k_m : W0.cell? ⟨w.heap.size + 1, 0, none⟩ = some (.slice q m d) := by rw [hW0]; simp [go_sem]
  have k_r : W0.cell? ⟨w.heap.size + 1 + 1, 0, none⟩ = some (.slice none 0 0) := by rw [hW0]; simp [go_sem]
  have f_r : W0.frozen? ⟨w.heap.size + 1 + 1, 0, none⟩ = false := by rw [hW0]; simp [go_sem]
  rw [← hW0] at G
  replace R_a := Lib.hid (R_a.out.grow G.out)
  replace R_m := Lib.hid (R_m.out.grow G.out)
  go_enter Try.func88, Try.ntmps88
  go_upto_region 1 with fail
  rw [← hW0]
  have E0 : Hid (W0.heap.size = w.heap.size + 1 + 1 + 1) := Lib.hid (by rw [hW0]; simp)
  clear hW0
  go_cut [6, 7] from 12 to 16 (fun l nw W => ∃ (B C : Nat) (p2 : Option Addr) (n2 c2 : Nat), l = .pointer (some ⟨B, 0, none⟩) ∧ nw = .pointer (some ⟨C, 0, none⟩) ∧ Hid (InvSt w W x y B C q m d q m d none 0 0 p n c p2 n2 c2 y 0 x 1 false false))
  case first =>
    have G0 := Lib.hid (Gr.refl W0)
    refine Kr.startL (fun W' => W'.cell? ⟨w.heap.size, 0, none⟩ = some (.slice p n c) ∧ W'.cell? ⟨w.heap.size + 1, 0, none⟩ = some (.slice q m d) ∧ True) [] (by kernel_rfl) ?_
    have gd : Gr W0 W0.drew := (Gr.refl _).drew
    generalize W0.drew = d1 at gd ⊢
    replace k_a := gd.cell k_a
    replace k_m := gd.cell k_m
    replace f_r := gd.frozen k_r f_r
    replace k_r := gd.cell k_r
    replace R_a := Lib.hid (R_a.out.grow gd)
    replace R_m := Lib.hid (R_m.out.grow gd)
    replace G := Lib.hid (G.out.trans gd)
    replace G0 := Lib.hid (G0.out.trans gd)
    clear gd
    have hS : d1.cell? ⟨w.heap.size, 0, none⟩ = some (.slice p n c) ∧ d1.cell? ⟨w.heap.size + 1, 0, none⟩ = some (.slice q m d) ∧ True := ⟨k_a, k_m, trivial⟩
    refine Kr.takeS (i := 0) (v := ?_) [1, 7, 8] rfl (by kernel_rfl) (by kernel_rfl) (by kernel_rfl) rfl (by kernel_rfl) (by kernel_rfl) (by kernel_rfl) (fun _ _ _ h => h) (fun wx hSx => ?_) (by rfl) hS ?_
    rotate_left
    · (go_simp; first | done | rfl)
    (try simp only [Act.put, List.getElem_toArray, List.getElem_cons_zero, List.getElem_cons_succ, List.setIfInBounds_toArray, List.set_cons_zero, List.set_cons_succ])
    refine Kr.takeP (i := 1) (v := ?_) rfl (by kernel_rfl) (by kernel_rfl) (by kernel_rfl) rfl (fun _ _ _ h => h) (fun wx => ?_) (by rfl) (fun _ => hS) ?_
    rotate_left
    · (go_simp; first | done | rfl)
    (try simp only [Act.put, List.getElem_toArray, List.getElem_cons_zero, List.getElem_cons_succ, List.setIfInBounds_toArray, List.set_cons_zero, List.set_cons_succ])
    refine Kr.takeS (i := 2) (v := ?_) [4, 8] rfl (by kernel_rfl) (by kernel_rfl) (by kernel_rfl) rfl (by kernel_rfl) (by kernel_rfl) (by kernel_rfl) (fun _ _ _ h => h) (fun wx hSx => ?_) (by rfl) hS ?_
    rotate_left
    · (go_simp; first | done | rfl)
    (try simp only [Act.put, List.getElem_toArray, List.getElem_cons_zero, List.getElem_cons_succ, List.setIfInBounds_toArray, List.set_cons_zero, List.set_cons_succ])
    refine Kr.readyL (rs := [3, 5, 6]) (by kernel_rfl) (by simp) ?_
    refine Kr.AllL.cons rfl (fun K hK => ?_) ?_
    · clear hS
      go_simp
      go_at_call 81
      refine (one_v _).mono ?_
      rintro e y2 ⟨p3, n3, c3, rfl, hr, hg⟩
      have A_1R := Lib.hid (av_nr (b := w.heap.size + 1 + 1) hr (World.block_lt_of_cell? _ _ k_r))
      have R_1 := Lib.hid hr.toNw
      clear hr
      replace k_a := hg.cell k_a
      replace k_m := hg.cell k_m
      replace f_r := hg.frozen k_r f_r
      replace k_r := hg.cell k_r
      replace R_a := Lib.hid (R_a.out.grow hg)
      replace R_m := Lib.hid (R_m.out.grow hg)
      replace G := Lib.hid (G.out.trans hg)
      replace G0 := Lib.hid (G0.out.trans hg)
      clear hg
      have hS : y2.cell? ⟨w.heap.size, 0, none⟩ = some (.slice p n c) ∧ y2.cell? ⟨w.heap.size + 1, 0, none⟩ = some (.slice q m d) ∧ True := ⟨k_a, k_m, trivial⟩
      refine hK.out _ _ (fun _ => hS) ?_
      clear hK K
      (try simp only [Act.put, List.getElem_toArray, List.getElem_cons_zero, List.getElem_cons_succ, List.setIfInBounds_toArray, List.set_cons_zero, List.set_cons_succ])
      refine Kr.takeP (i := 4) (v := ?_) rfl (by kernel_rfl) (by kernel_rfl) (by kernel_rfl) rfl (fun _ _ _ h => h) (fun wx => ?_) (by rfl) (fun _ => hS) ?_
      rotate_left
      · (go_simp; first | done | rfl)
      (try simp only [Act.put, List.getElem_toArray, List.getElem_cons_zero, List.getElem_cons_succ, List.setIfInBounds_toArray, List.set_cons_zero, List.set_cons_succ])
      refine Kr.readyL (rs := [5, 6]) (by kernel_rfl) (by simp) ?_
      refine Kr.AllL.cons rfl (fun K hK => ?_) ?_
      · clear hS
        go_simp
        obtain ⟨y3, hy⟩ : ∃ y, y2.alloc (.cells #[.slice none 0 0, .slice none 0 0, .bool false] 104) = y := ⟨_, rfl⟩
        obtain ⟨B, hB⟩ : ∃ B, y2.heap.size = B := ⟨_, rfl⟩
        rw [hy, hB]
        have hg : Gr y2 y3 := by rw [← hy]; exact (Gr.refl _).alloc _
        have L_B := Lib.hid (hB ▸ G0.out.le : W0.heap.size ≤ B)
        have A_aB := Lib.hid (av_new (b := B) R_a.out (Nat.le_of_eq hB))
        have A_mB := Lib.hid (av_new (b := B) R_m.out (Nat.le_of_eq hB))
        have A_1B := Lib.hid (av_new (b := B) R_1.out (Nat.le_of_eq hB))
        replace k_a := hg.cell k_a
        replace k_m := hg.cell k_m
        replace f_r := hg.frozen k_r f_r
        replace k_r := hg.cell k_r
        replace R_a := Lib.hid (R_a.out.grow hg)
        replace R_m := Lib.hid (R_m.out.grow hg)
        replace R_1 := Lib.hid (R_1.out.grow hg)
        replace G := Lib.hid (G.out.trans hg)
        replace G0 := Lib.hid (G0.out.trans hg)
        clear hg
        have S_B : Stp y3 B (.slice none 0 0) (.slice none 0 0) (.bool false) := by rw [← hy, ← hB]; exact ⟨by simp [go_sem], by simp [go_sem], by simp [go_sem], by simp [go_sem], by simp [go_sem], by simp [go_sem]⟩
        clear hy hB
        have hS : y3.cell? ⟨w.heap.size, 0, none⟩ = some (.slice p n c) ∧ y3.cell? ⟨w.heap.size + 1, 0, none⟩ = some (.slice q m d) ∧ True := ⟨k_a, k_m, trivial⟩
        refine hK.out _ _ (fun _ => hS) ?_
        clear hK K
        (try simp only [Act.put, List.getElem_toArray, List.getElem_cons_zero, List.getElem_cons_succ, List.setIfInBounds_toArray, List.set_cons_zero, List.set_cons_succ])
        refine Kr.readyL (rs := [6]) (by kernel_rfl) (by simp) ?_
        refine Kr.AllL.cons rfl (fun K hK => ?_) Kr.AllL.nil
        clear hS
        go_simp
        obtain ⟨y4, hy⟩ : ∃ y, y3.alloc (.cells #[.slice none 0 0, .slice none 0 0, .bool false] 104) = y := ⟨_, rfl⟩
        obtain ⟨C, hC⟩ : ∃ B, y3.heap.size = B := ⟨_, rfl⟩
        rw [hy, hC]
        have hg : Gr y3 y4 := by rw [← hy]; exact (Gr.refl _).alloc _
        have L_C := Lib.hid (hC ▸ G0.out.le : W0.heap.size ≤ C)
        have N_BC : Hid (B ≠ C) := Lib.hid (Nat.ne_of_lt (show B < C from hC ▸ S_B.lt))
        have A_aC := Lib.hid (av_new (b := C) R_a.out (Nat.le_of_eq hC))
        have A_mC := Lib.hid (av_new (b := C) R_m.out (Nat.le_of_eq hC))
        have A_1C := Lib.hid (av_new (b := C) R_1.out (Nat.le_of_eq hC))
        replace k_a := hg.cell k_a
        replace k_m := hg.cell k_m
        replace f_r := hg.frozen k_r f_r
        replace k_r := hg.cell k_r
        replace R_a := Lib.hid (R_a.out.grow hg)
        replace R_m := Lib.hid (R_m.out.grow hg)
        replace R_1 := Lib.hid (R_1.out.grow hg)
        replace G := Lib.hid (G.out.trans hg)
        replace G0 := Lib.hid (G0.out.trans hg)
        replace S_B := S_B.grow hg
        clear hg
        have S_C : Stp y4 C (.slice none 0 0) (.slice none 0 0) (.bool false) := by rw [← hy, ← hC]; exact ⟨by simp [go_sem], by simp [go_sem], by simp [go_sem], by simp [go_sem], by simp [go_sem], by simp [go_sem]⟩
        clear hy hC
        have hS : y4.cell? ⟨w.heap.size, 0, none⟩ = some (.slice p n c) ∧ y4.cell? ⟨w.heap.size + 1, 0, none⟩ = some (.slice q m d) ∧ True := ⟨k_a, k_m, trivial⟩
        refine hK.out _ _ (fun _ => hS) ?_
        clear hK K
        (try simp only [Act.put, List.getElem_toArray, List.getElem_cons_zero, List.getElem_cons_succ, List.setIfInBounds_toArray, List.set_cons_zero, List.set_cons_succ])
        refine Kr.readyL (rs := [7]) (by kernel_rfl) (by simp) ?_
        refine Kr.AllL.cons rfl (fun K hK => ?_) Kr.AllL.nil
        clear hS
        go_simp
        have c0 := S_B.c0; have c1 := S_B.c1; have c2 := S_B.c2; have f0 := S_B.f0; have f1 := S_B.f1; have f2 := S_B.f2
        go_simp
        clear c0 c1 c2 f0 f1 f2
        obtain ⟨y5, hy⟩ : ∃ y, ((y4.setCell ⟨B, 0, none⟩ (.slice q m d)).setCell ⟨B, 1, none⟩ (.slice none 0 0)).setCell ⟨B, 2, none⟩ (.bool false) = y := ⟨_, rfl⟩
        rw [hy]
        have ho : Off B y4 y5 := by rw [← hy]; exact (((Off.refl _ _).set _ _).set _ _).set _ _
        replace S_B : Stp y5 B (.slice q m d) (.slice none 0 0) (.bool false) := by rw [← hy]; exact S_B.put _ _ _
        clear hy
        replace S_C := S_C.off ho N_BC.out.symm
        replace k_a := ho.cell _ _ (show w.heap.size ≠ B from by have := L_B.out; have := E0.out; omega) k_a
        replace k_m := ho.cell _ _ (show w.heap.size + 1 ≠ B from by have := L_B.out; have := E0.out; omega) k_m
        replace f_r := ho.frz _ f_r
        replace k_r := ho.cell _ _ (show w.heap.size + 1 + 1 ≠ B from by have := L_B.out; have := E0.out; omega) k_r
        replace R_a := Lib.hid (ho.nw _ _ _ _ A_aB.out R_a.out)
        replace R_m := Lib.hid (ho.nw _ _ _ _ A_mB.out R_m.out)
        replace R_1 := Lib.hid (ho.nw _ _ _ _ A_1B.out R_1.out)
        replace G := Lib.hid (ho.gr _ (by have := L_B.out; have := E0.out; omega) G.out)
        replace G0 := Lib.hid (ho.gr _ (by have := L_B.out; have := E0.out; omega) G0.out)
        clear ho
        have hS : y5.cell? ⟨w.heap.size, 0, none⟩ = some (.slice p n c) ∧ y5.cell? ⟨w.heap.size + 1, 0, none⟩ = some (.slice q m d) ∧ True := ⟨k_a, k_m, trivial⟩
        refine hK.out _ _ (fun _ => hS) ?_
        clear hK K
        (try simp only [Act.put, List.getElem_toArray, List.getElem_cons_zero, List.getElem_cons_succ, List.setIfInBounds_toArray, List.set_cons_zero, List.set_cons_succ])
        refine Kr.readyL (rs := [8]) (by kernel_rfl) (by simp) ?_
        refine Kr.AllL.cons rfl (fun K hK => ?_) Kr.AllL.nil
        clear hS
        go_simp
        have c0 := S_C.c0; have c1 := S_C.c1; have c2 := S_C.c2; have f0 := S_C.f0; have f1 := S_C.f1; have f2 := S_C.f2
        go_simp
        clear c0 c1 c2 f0 f1 f2
        obtain ⟨y6, hy⟩ : ∃ y, ((y5.setCell ⟨C, 0, none⟩ (.slice p n c)).setCell ⟨C, 1, none⟩ (.slice p3 n3 c3)).setCell ⟨C, 2, none⟩ (.bool false) = y := ⟨_, rfl⟩
        rw [hy]
        have ho : Off C y5 y6 := by rw [← hy]; exact (((Off.refl _ _).set _ _).set _ _).set _ _
        replace S_C : Stp y6 C (.slice p n c) (.slice p3 n3 c3) (.bool false) := by rw [← hy]; exact S_C.put _ _ _
        clear hy
        replace S_B := S_B.off ho N_BC.out
        replace k_a := ho.cell _ _ (show w.heap.size ≠ C from by have := L_C.out; have := E0.out; omega) k_a
        replace k_m := ho.cell _ _ (show w.heap.size + 1 ≠ C from by have := L_C.out; have := E0.out; omega) k_m
        replace f_r := ho.frz _ f_r
        replace k_r := ho.cell _ _ (show w.heap.size + 1 + 1 ≠ C from by have := L_C.out; have := E0.out; omega) k_r
        replace R_a := Lib.hid (ho.nw _ _ _ _ A_aC.out R_a.out)
        replace R_m := Lib.hid (ho.nw _ _ _ _ A_mC.out R_m.out)
        replace R_1 := Lib.hid (ho.nw _ _ _ _ A_1C.out R_1.out)
        replace G := Lib.hid (ho.gr _ (by have := L_C.out; have := E0.out; omega) G.out)
        replace G0 := Lib.hid (ho.gr _ (by have := L_C.out; have := E0.out; omega) G0.out)
        clear ho
        have hS : y6.cell? ⟨w.heap.size, 0, none⟩ = some (.slice p n c) ∧ y6.cell? ⟨w.heap.size + 1, 0, none⟩ = some (.slice q m d) ∧ True := ⟨k_a, k_m, trivial⟩
        refine hK.out _ _ (fun _ => hS) ?_
        clear hK K
        (try simp only [Act.put, List.getElem_toArray, List.getElem_cons_zero, List.getElem_cons_succ, List.setIfInBounds_toArray, List.set_cons_zero, List.set_cons_succ])
        clear hS
        refine Kr.doneL (by kernel_rfl) ?_ _
        go_wp2_with fail
        go_meet
        have e0 := E0.out
        exact ⟨B, C, p3, n3, c3, rfl, rfl, Lib.hid ⟨G.out, k_m, k_r, f_r, R_m.out, N_BC.out, by have := L_B.out; omega, by have := L_C.out; omega, A_mB.out, A_mC.out, S_B, S_C, R_m.out, nw_none _, R_a.out, R_1.out, A_mB.out, A_mC.out, av_none _ _, av_none _ _, A_aB.out, A_aC.out, A_1B.out, A_1C.out, av_none _ _, A_1R.out, EInv.start HX.out⟩⟩
      refine Kr.AllL.cons rfl (fun K hK => ?_) Kr.AllL.nil
      clear hS
      go_simp
      obtain ⟨y7, hy⟩ : ∃ y, y2.alloc (.cells #[.slice none 0 0, .slice none 0 0, .bool false] 104) = y := ⟨_, rfl⟩
      obtain ⟨C, hC⟩ : ∃ B, y2.heap.size = B := ⟨_, rfl⟩
      rw [hy, hC]
      have hg : Gr y2 y7 := by rw [← hy]; exact (Gr.refl _).alloc _
      have L_C := Lib.hid (hC ▸ G0.out.le : W0.heap.size ≤ C)
      have A_aC := Lib.hid (av_new (b := C) R_a.out (Nat.le_of_eq hC))
      have A_mC := Lib.hid (av_new (b := C) R_m.out (Nat.le_of_eq hC))
      have A_1C := Lib.hid (av_new (b := C) R_1.out (Nat.le_of_eq hC))
      replace k_a := hg.cell k_a
      replace k_m := hg.cell k_m
      replace f_r := hg.frozen k_r f_r
      replace k_r := hg.cell k_r
      replace R_a := Lib.hid (R_a.out.grow hg)
      replace R_m := Lib.hid (R_m.out.grow hg)
      replace R_1 := Lib.hid (R_1.out.grow hg)
      replace G := Lib.hid (G.out.trans hg)
      replace G0 := Lib.hid (G0.out.trans hg)
      clear hg
      have S_C : Stp y7 C (.slice none 0 0) (.slice none 0 0) (.bool false) := by rw [← hy, ← hC]; exact ⟨by simp [go_sem], by simp [go_sem], by simp [go_sem], by simp [go_sem], by simp [go_sem], by simp [go_sem]⟩
      clear hy hC
      have hS : y7.cell? ⟨w.heap.size, 0, none⟩ = some (.slice p n c) ∧ y7.cell? ⟨w.heap.size + 1, 0, none⟩ = some (.slice q m d) ∧ True := ⟨k_a, k_m, trivial⟩
      refine hK.out _ _ (fun _ => hS) ?_
      clear hK K
      (try simp only [Act.put, List.getElem_toArray, List.getElem_cons_zero, List.getElem_cons_succ, List.setIfInBounds_toArray, List.set_cons_zero, List.set_cons_succ])
      refine Kr.readyL (rs := [5]) (by kernel_rfl) (by simp) ?_
      refine Kr.AllL.cons rfl (fun K hK => ?_) Kr.AllL.nil
      clear hS
      go_simp
      obtain ⟨y8, hy⟩ : ∃ y, y7.alloc (.cells #[.slice none 0 0, .slice none 0 0, .bool false] 104) = y := ⟨_, rfl⟩
      obtain ⟨B, hB⟩ : ∃ B, y7.heap.size = B := ⟨_, rfl⟩
      rw [hy, hB]
      have hg : Gr y7 y8 := by rw [← hy]; exact (Gr.refl _).alloc _
      have L_B := Lib.hid (hB ▸ G0.out.le : W0.heap.size ≤ B)
      have N_CB : Hid (C ≠ B) := Lib.hid (Nat.ne_of_lt (show C < B from hB ▸ S_C.lt))
      have A_aB := Lib.hid (av_new (b := B) R_a.out (Nat.le_of_eq hB))
      have A_mB := Lib.hid (av_new (b := B) R_m.out (Nat.le_of_eq hB))
      have A_1B := Lib.hid (av_new (b := B) R_1.out (Nat.le_of_eq hB))
      replace k_a := hg.cell k_a
      replace k_m := hg.cell k_m
      replace f_r := hg.frozen k_r f_r
      replace k_r := hg.cell k_r
      replace R_a := Lib.hid (R_a.out.grow hg)
      replace R_m := Lib.hid (R_m.out.grow hg)
      replace R_1 := Lib.hid (R_1.out.grow hg)
      replace G := Lib.hid (G.out.trans hg)
      replace G0 := Lib.hid (G0.out.trans hg)
      replace S_C := S_C.grow hg
      clear hg
      have S_B : Stp y8 B (.slice none 0 0) (.slice none 0 0) (.bool false) := by rw [← hy, ← hB]; exact ⟨by simp [go_sem], by simp [go_sem], by simp [go_sem], by simp [go_sem], by simp [go_sem], by simp [go_sem]⟩
      clear hy hB
      have hS : y8.cell? ⟨w.heap.size, 0, none⟩ = some (.slice p n c) ∧ y8.cell? ⟨w.heap.size + 1, 0, none⟩ = some (.slice q m d) ∧ True := ⟨k_a, k_m, trivial⟩
      refine hK.out _ _ (fun _ => hS) ?_
      clear hK K
      (try simp only [Act.put, List.getElem_toArray, List.getElem_cons_zero, List.getElem_cons_succ, List.setIfInBounds_toArray, List.set_cons_zero, List.set_cons_succ])
      refine Kr.readyL (rs := [7]) (by kernel_rfl) (by simp) ?_
      refine Kr.AllL.cons rfl (fun K hK => ?_) Kr.AllL.nil
      clear hS
      go_simp
      have c0 := S_B.c0; have c1 := S_B.c1; have c2 := S_B.c2; have f0 := S_B.f0; have f1 := S_B.f1; have f2 := S_B.f2
      go_simp
      clear c0 c1 c2 f0 f1 f2
      obtain ⟨y9, hy⟩ : ∃ y, ((y8.setCell ⟨B, 0, none⟩ (.slice q m d)).setCell ⟨B, 1, none⟩ (.slice none 0 0)).setCell ⟨B, 2, none⟩ (.bool false) = y := ⟨_, rfl⟩
      rw [hy]
      have ho : Off B y8 y9 := by rw [← hy]; exact (((Off.refl _ _).set _ _).set _ _).set _ _
      replace S_B : Stp y9 B (.slice q m d) (.slice none 0 0) (.bool false) := by rw [← hy]; exact S_B.put _ _ _
      clear hy
      replace S_C := S_C.off ho N_CB.out
      replace k_a := ho.cell _ _ (show w.heap.size ≠ B from by have := L_B.out; have := E0.out; omega) k_a
      replace k_m := ho.cell _ _ (show w.heap.size + 1 ≠ B from by have := L_B.out; have := E0.out; omega) k_m
      replace f_r := ho.frz _ f_r
      replace k_r := ho.cell _ _ (show w.heap.size + 1 + 1 ≠ B from by have := L_B.out; have := E0.out; omega) k_r
      replace R_a := Lib.hid (ho.nw _ _ _ _ A_aB.out R_a.out)
      replace R_m := Lib.hid (ho.nw _ _ _ _ A_mB.out R_m.out)
      replace R_1 := Lib.hid (ho.nw _ _ _ _ A_1B.out R_1.out)
      replace G := Lib.hid (ho.gr _ (by have := L_B.out; have := E0.out; omega) G.out)
      replace G0 := Lib.hid (ho.gr _ (by have := L_B.out; have := E0.out; omega) G0.out)
      clear ho
      have hS : y9.cell? ⟨w.heap.size, 0, none⟩ = some (.slice p n c) ∧ y9.cell? ⟨w.heap.size + 1, 0, none⟩ = some (.slice q m d) ∧ True := ⟨k_a, k_m, trivial⟩
      refine hK.out _ _ (fun _ => hS) ?_
      clear hK K
      (try simp only [Act.put, List.getElem_toArray, List.getElem_cons_zero, List.getElem_cons_succ, List.setIfInBounds_toArray, List.set_cons_zero, List.set_cons_succ])
      refine Kr.readyL (rs := [8]) (by kernel_rfl) (by simp) ?_
      refine Kr.AllL.cons rfl (fun K hK => ?_) Kr.AllL.nil
      clear hS
      go_simp
      have c0 := S_C.c0; have c1 := S_C.c1; have c2 := S_C.c2; have f0 := S_C.f0; have f1 := S_C.f1; have f2 := S_C.f2
      go_simp
      clear c0 c1 c2 f0 f1 f2
      obtain ⟨y10, hy⟩ : ∃ y, ((y9.setCell ⟨C, 0, none⟩ (.slice p n c)).setCell ⟨C, 1, none⟩ (.slice p3 n3 c3)).setCell ⟨C, 2, none⟩ (.bool false) = y := ⟨_, rfl⟩
      rw [hy]
      have ho : Off C y9 y10 := by rw [← hy]; exact (((Off.refl _ _).set _ _).set _ _).set _ _
      replace S_C : Stp y10 C (.slice p n c) (.slice p3 n3 c3) (.bool false) := by rw [← hy]; exact S_C.put _ _ _
      clear hy
      replace S_B := S_B.off ho N_CB.out.symm
      replace k_a := ho.cell _ _ (show w.heap.size ≠ C from by have := L_C.out; have := E0.out; omega) k_a
      replace k_m := ho.cell _ _ (show w.heap.size + 1 ≠ C from by have := L_C.out; have := E0.out; omega) k_m
      replace f_r := ho.frz _ f_r
      replace k_r := ho.cell _ _ (show w.heap.size + 1 + 1 ≠ C from by have := L_C.out; have := E0.out; omega) k_r
      replace R_a := Lib.hid (ho.nw _ _ _ _ A_aC.out R_a.out)
      replace R_m := Lib.hid (ho.nw _ _ _ _ A_mC.out R_m.out)
      replace R_1 := Lib.hid (ho.nw _ _ _ _ A_1C.out R_1.out)
      replace G := Lib.hid (ho.gr _ (by have := L_C.out; have := E0.out; omega) G.out)
      replace G0 := Lib.hid (ho.gr _ (by have := L_C.out; have := E0.out; omega) G0.out)
      clear ho
      have hS : y10.cell? ⟨w.heap.size, 0, none⟩ = some (.slice p n c) ∧ y10.cell? ⟨w.heap.size + 1, 0, none⟩ = some (.slice q m d) ∧ True := ⟨k_a, k_m, trivial⟩
      refine hK.out _ _ (fun _ => hS) ?_
      clear hK K
      (try simp only [Act.put, List.getElem_toArray, List.getElem_cons_zero, List.getElem_cons_succ, List.setIfInBounds_toArray, List.set_cons_zero, List.set_cons_succ])
      clear hS
      refine Kr.doneL (by kernel_rfl) ?_ _
      go_wp2_with fail
      go_meet
      have e0 := E0.out
      exact ⟨B, C, p3, n3, c3, rfl, rfl, Lib.hid ⟨G.out, k_m, k_r, f_r, R_m.out, N_CB.out.symm, by have := L_B.out; omega, by have := L_C.out; omega, A_mB.out, A_mC.out, S_B, S_C, R_m.out, nw_none _, R_a.out, R_1.out, A_mB.out, A_mC.out, av_none _ _, av_none _ _, A_aB.out, A_aC.out, A_1B.out, A_1C.out, av_none _ _, A_1R.out, EInv.start HX.out⟩⟩
    refine Kr.AllL.cons rfl (fun K hK => ?_) ?_
    · clear hS
      go_simp
      obtain ⟨y11, hy⟩ : ∃ y, d1.alloc (.cells #[.slice none 0 0, .slice none 0 0, .bool false] 104) = y := ⟨_, rfl⟩
      obtain ⟨B, hB⟩ : ∃ B, d1.heap.size = B := ⟨_, rfl⟩
      rw [hy, hB]
      have hg : Gr d1 y11 := by rw [← hy]; exact (Gr.refl _).alloc _
      have L_B := Lib.hid (hB ▸ G0.out.le : W0.heap.size ≤ B)
      have A_aB := Lib.hid (av_new (b := B) R_a.out (Nat.le_of_eq hB))
      have A_mB := Lib.hid (av_new (b := B) R_m.out (Nat.le_of_eq hB))
      replace k_a := hg.cell k_a
      replace k_m := hg.cell k_m
      replace f_r := hg.frozen k_r f_r
      replace k_r := hg.cell k_r
      replace R_a := Lib.hid (R_a.out.grow hg)
      replace R_m := Lib.hid (R_m.out.grow hg)
      replace G := Lib.hid (G.out.trans hg)
      replace G0 := Lib.hid (G0.out.trans hg)
      clear hg
      have S_B : Stp y11 B (.slice none 0 0) (.slice none 0 0) (.bool false) := by rw [← hy, ← hB]; exact ⟨by simp [go_sem], by simp [go_sem], by simp [go_sem], by simp [go_sem], by simp [go_sem], by simp [go_sem]⟩
      clear hy hB
      have hS : y11.cell? ⟨w.heap.size, 0, none⟩ = some (.slice p n c) ∧ y11.cell? ⟨w.heap.size + 1, 0, none⟩ = some (.slice q m d) ∧ True := ⟨k_a, k_m, trivial⟩
      refine hK.out _ _ (fun _ => hS) ?_
      clear hK K
      (try simp only [Act.put, List.getElem_toArray, List.getElem_cons_zero, List.getElem_cons_succ, List.setIfInBounds_toArray, List.set_cons_zero, List.set_cons_succ])
      refine Kr.readyL (rs := [3, 6]) (by kernel_rfl) (by simp) ?_
      refine Kr.AllL.cons rfl (fun K hK => ?_) ?_
      · clear hS
        go_simp
        go_at_call 81
        refine (one_v _).mono ?_
        rintro e y12 ⟨p3, n3, c3, rfl, hr, hg⟩
        have A_1B := Lib.hid (av_nr (b := B) hr S_B.lt)
        have A_1R := Lib.hid (av_nr (b := w.heap.size + 1 + 1) hr (World.block_lt_of_cell? _ _ k_r))
        have R_1 := Lib.hid hr.toNw
        clear hr
        replace k_a := hg.cell k_a
        replace k_m := hg.cell k_m
        replace f_r := hg.frozen k_r f_r
        replace k_r := hg.cell k_r
        replace R_a := Lib.hid (R_a.out.grow hg)
        replace R_m := Lib.hid (R_m.out.grow hg)
        replace G := Lib.hid (G.out.trans hg)
        replace G0 := Lib.hid (G0.out.trans hg)
        replace S_B := S_B.grow hg
        clear hg
        have hS : y12.cell? ⟨w.heap.size, 0, none⟩ = some (.slice p n c) ∧ y12.cell? ⟨w.heap.size + 1, 0, none⟩ = some (.slice q m d) ∧ True := ⟨k_a, k_m, trivial⟩
        refine hK.out _ _ (fun _ => hS) ?_
        clear hK K
        (try simp only [Act.put, List.getElem_toArray, List.getElem_cons_zero, List.getElem_cons_succ, List.setIfInBounds_toArray, List.set_cons_zero, List.set_cons_succ])
        refine Kr.takeP (i := 4) (v := ?_) rfl (by kernel_rfl) (by kernel_rfl) (by kernel_rfl) rfl (fun _ _ _ h => h) (fun wx => ?_) (by rfl) (fun _ => hS) ?_
        rotate_left
        · (go_simp; first | done | rfl)
        (try simp only [Act.put, List.getElem_toArray, List.getElem_cons_zero, List.getElem_cons_succ, List.setIfInBounds_toArray, List.set_cons_zero, List.set_cons_succ])
        refine Kr.readyL (rs := [6]) (by kernel_rfl) (by simp) ?_
        refine Kr.AllL.cons rfl (fun K hK => ?_) Kr.AllL.nil
        clear hS
        go_simp
        obtain ⟨y13, hy⟩ : ∃ y, y12.alloc (.cells #[.slice none 0 0, .slice none 0 0, .bool false] 104) = y := ⟨_, rfl⟩
        obtain ⟨C, hC⟩ : ∃ B, y12.heap.size = B := ⟨_, rfl⟩
        rw [hy, hC]
        have hg : Gr y12 y13 := by rw [← hy]; exact (Gr.refl _).alloc _
        have L_C := Lib.hid (hC ▸ G0.out.le : W0.heap.size ≤ C)
        have N_BC : Hid (B ≠ C) := Lib.hid (Nat.ne_of_lt (show B < C from hC ▸ S_B.lt))
        have A_aC := Lib.hid (av_new (b := C) R_a.out (Nat.le_of_eq hC))
        have A_mC := Lib.hid (av_new (b := C) R_m.out (Nat.le_of_eq hC))
        have A_1C := Lib.hid (av_new (b := C) R_1.out (Nat.le_of_eq hC))
        replace k_a := hg.cell k_a
        replace k_m := hg.cell k_m
        replace f_r := hg.frozen k_r f_r
        replace k_r := hg.cell k_r
        replace R_a := Lib.hid (R_a.out.grow hg)
        replace R_m := Lib.hid (R_m.out.grow hg)
        replace R_1 := Lib.hid (R_1.out.grow hg)
        replace G := Lib.hid (G.out.trans hg)
        replace G0 := Lib.hid (G0.out.trans hg)
        replace S_B := S_B.grow hg
        clear hg
        have S_C : Stp y13 C (.slice none 0 0) (.slice none 0 0) (.bool false) := by rw [← hy, ← hC]; exact ⟨by simp [go_sem], by simp [go_sem], by simp [go_sem], by simp [go_sem], by simp [go_sem], by simp [go_sem]⟩
        clear hy hC
        have hS : y13.cell? ⟨w.heap.size, 0, none⟩ = some (.slice p n c) ∧ y13.cell? ⟨w.heap.size + 1, 0, none⟩ = some (.slice q m d) ∧ True := ⟨k_a, k_m, trivial⟩
        refine hK.out _ _ (fun _ => hS) ?_
        clear hK K
        (try simp only [Act.put, List.getElem_toArray, List.getElem_cons_zero, List.getElem_cons_succ, List.setIfInBounds_toArray, List.set_cons_zero, List.set_cons_succ])
        refine Kr.readyL (rs := [7]) (by kernel_rfl) (by simp) ?_
        refine Kr.AllL.cons rfl (fun K hK => ?_) Kr.AllL.nil
        clear hS
        go_simp
        have c0 := S_B.c0; have c1 := S_B.c1; have c2 := S_B.c2; have f0 := S_B.f0; have f1 := S_B.f1; have f2 := S_B.f2
        go_simp
        clear c0 c1 c2 f0 f1 f2
        obtain ⟨y14, hy⟩ : ∃ y, ((y13.setCell ⟨B, 0, none⟩ (.slice q m d)).setCell ⟨B, 1, none⟩ (.slice none 0 0)).setCell ⟨B, 2, none⟩ (.bool false) = y := ⟨_, rfl⟩
        rw [hy]
        have ho : Off B y13 y14 := by rw [← hy]; exact (((Off.refl _ _).set _ _).set _ _).set _ _
        replace S_B : Stp y14 B (.slice q m d) (.slice none 0 0) (.bool false) := by rw [← hy]; exact S_B.put _ _ _
        clear hy
        replace S_C := S_C.off ho N_BC.out.symm
        replace k_a := ho.cell _ _ (show w.heap.size ≠ B from by have := L_B.out; have := E0.out; omega) k_a
        replace k_m := ho.cell _ _ (show w.heap.size + 1 ≠ B from by have := L_B.out; have := E0.out; omega) k_m
        replace f_r := ho.frz _ f_r
        replace k_r := ho.cell _ _ (show w.heap.size + 1 + 1 ≠ B from by have := L_B.out; have := E0.out; omega) k_r
        replace R_a := Lib.hid (ho.nw _ _ _ _ A_aB.out R_a.out)
        replace R_m := Lib.hid (ho.nw _ _ _ _ A_mB.out R_m.out)
        replace R_1 := Lib.hid (ho.nw _ _ _ _ A_1B.out R_1.out)
        replace G := Lib.hid (ho.gr _ (by have := L_B.out; have := E0.out; omega) G.out)
        replace G0 := Lib.hid (ho.gr _ (by have := L_B.out; have := E0.out; omega) G0.out)
        clear ho
        have hS : y14.cell? ⟨w.heap.size, 0, none⟩ = some (.slice p n c) ∧ y14.cell? ⟨w.heap.size + 1, 0, none⟩ = some (.slice q m d) ∧ True := ⟨k_a, k_m, trivial⟩
        refine hK.out _ _ (fun _ => hS) ?_
        clear hK K
        (try simp only [Act.put, List.getElem_toArray, List.getElem_cons_zero, List.getElem_cons_succ, List.setIfInBounds_toArray, List.set_cons_zero, List.set_cons_succ])
        refine Kr.readyL (rs := [8]) (by kernel_rfl) (by simp) ?_
        refine Kr.AllL.cons rfl (fun K hK => ?_) Kr.AllL.nil
        clear hS
        go_simp
        have c0 := S_C.c0; have c1 := S_C.c1; have c2 := S_C.c2; have f0 := S_C.f0; have f1 := S_C.f1; have f2 := S_C.f2
        go_simp
        clear c0 c1 c2 f0 f1 f2
        obtain ⟨y15, hy⟩ : ∃ y, ((y14.setCell ⟨C, 0, none⟩ (.slice p n c)).setCell ⟨C, 1, none⟩ (.slice p3 n3 c3)).setCell ⟨C, 2, none⟩ (.bool false) = y := ⟨_, rfl⟩
        rw [hy]
        have ho : Off C y14 y15 := by rw [← hy]; exact (((Off.refl _ _).set _ _).set _ _).set _ _
        replace S_C : Stp y15 C (.slice p n c) (.slice p3 n3 c3) (.bool false) := by rw [← hy]; exact S_C.put _ _ _
        clear hy
        replace S_B := S_B.off ho N_BC.out
        replace k_a := ho.cell _ _ (show w.heap.size ≠ C from by have := L_C.out; have := E0.out; omega) k_a
        replace k_m := ho.cell _ _ (show w.heap.size + 1 ≠ C from by have := L_C.out; have := E0.out; omega) k_m
        replace f_r := ho.frz _ f_r
        replace k_r := ho.cell _ _ (show w.heap.size + 1 + 1 ≠ C from by have := L_C.out; have := E0.out; omega) k_r
        replace R_a := Lib.hid (ho.nw _ _ _ _ A_aC.out R_a.out)
        replace R_m := Lib.hid (ho.nw _ _ _ _ A_mC.out R_m.out)
        replace R_1 := Lib.hid (ho.nw _ _ _ _ A_1C.out R_1.out)
        replace G := Lib.hid (ho.gr _ (by have := L_C.out; have := E0.out; omega) G.out)
        replace G0 := Lib.hid (ho.gr _ (by have := L_C.out; have := E0.out; omega) G0.out)
        clear ho
        have hS : y15.cell? ⟨w.heap.size, 0, none⟩ = some (.slice p n c) ∧ y15.cell? ⟨w.heap.size + 1, 0, none⟩ = some (.slice q m d) ∧ True := ⟨k_a, k_m, trivial⟩
        refine hK.out _ _ (fun _ => hS) ?_
        clear hK K
        (try simp only [Act.put, List.getElem_toArray, List.getElem_cons_zero, List.getElem_cons_succ, List.setIfInBounds_toArray, List.set_cons_zero, List.set_cons_succ])
        clear hS
        refine Kr.doneL (by kernel_rfl) ?_ _
        go_wp2_with fail
        go_meet
        have e0 := E0.out
        exact ⟨B, C, p3, n3, c3, rfl, rfl, Lib.hid ⟨G.out, k_m, k_r, f_r, R_m.out, N_BC.out, by have := L_B.out; omega, by have := L_C.out; omega, A_mB.out, A_mC.out, S_B, S_C, R_m.out, nw_none _, R_a.out, R_1.out, A_mB.out, A_mC.out, av_none _ _, av_none _ _, A_aB.out, A_aC.out, A_1B.out, A_1C.out, av_none _ _, A_1R.out, EInv.start HX.out⟩⟩
      refine Kr.AllL.cons rfl (fun K hK => ?_) Kr.AllL.nil
      clear hS
      go_simp
      obtain ⟨y16, hy⟩ : ∃ y, y11.alloc (.cells #[.slice none 0 0, .slice none 0 0, .bool false] 104) = y := ⟨_, rfl⟩
      obtain ⟨C, hC⟩ : ∃ B, y11.heap.size = B := ⟨_, rfl⟩
      rw [hy, hC]
      have hg : Gr y11 y16 := by rw [← hy]; exact (Gr.refl _).alloc _
      have L_C := Lib.hid (hC ▸ G0.out.le : W0.heap.size ≤ C)
      have N_BC : Hid (B ≠ C) := Lib.hid (Nat.ne_of_lt (show B < C from hC ▸ S_B.lt))
      have A_aC := Lib.hid (av_new (b := C) R_a.out (Nat.le_of_eq hC))
      have A_mC := Lib.hid (av_new (b := C) R_m.out (Nat.le_of_eq hC))
      replace k_a := hg.cell k_a
      replace k_m := hg.cell k_m
      replace f_r := hg.frozen k_r f_r
      replace k_r := hg.cell k_r
      replace R_a := Lib.hid (R_a.out.grow hg)
      replace R_m := Lib.hid (R_m.out.grow hg)
      replace G := Lib.hid (G.out.trans hg)
      replace G0 := Lib.hid (G0.out.trans hg)
      replace S_B := S_B.grow hg
      clear hg
      have S_C : Stp y16 C (.slice none 0 0) (.slice none 0 0) (.bool false) := by rw [← hy, ← hC]; exact ⟨by simp [go_sem], by simp [go_sem], by simp [go_sem], by simp [go_sem], by simp [go_sem], by simp [go_sem]⟩
      clear hy hC
      have hS : y16.cell? ⟨w.heap.size, 0, none⟩ = some (.slice p n c) ∧ y16.cell? ⟨w.heap.size + 1, 0, none⟩ = some (.slice q m d) ∧ True := ⟨k_a, k_m, trivial⟩
      refine hK.out _ _ (fun _ => hS) ?_
      clear hK K
      (try simp only [Act.put, List.getElem_toArray, List.getElem_cons_zero, List.getElem_cons_succ, List.setIfInBounds_toArray, List.set_cons_zero, List.set_cons_succ])
      refine Kr.readyL (rs := [3]) (by kernel_rfl) (by simp) ?_
      refine Kr.AllL.cons rfl (fun K hK => ?_) Kr.AllL.nil
      clear hS
      go_simp
      go_at_call 81
      refine (one_v _).mono ?_
      rintro e y17 ⟨p3, n3, c3, rfl, hr, hg⟩
      have A_1B := Lib.hid (av_nr (b := B) hr S_B.lt)
      have A_1C := Lib.hid (av_nr (b := C) hr S_C.lt)
      have A_1R := Lib.hid (av_nr (b := w.heap.size + 1 + 1) hr (World.block_lt_of_cell? _ _ k_r))
      have R_1 := Lib.hid hr.toNw
      clear hr
      replace k_a := hg.cell k_a
      replace k_m := hg.cell k_m
      replace f_r := hg.frozen k_r f_r
      replace k_r := hg.cell k_r
      replace R_a := Lib.hid (R_a.out.grow hg)
      replace R_m := Lib.hid (R_m.out.grow hg)
      replace G := Lib.hid (G.out.trans hg)
      replace G0 := Lib.hid (G0.out.trans hg)
      replace S_B := S_B.grow hg
      replace S_C := S_C.grow hg
      clear hg
      have hS : y17.cell? ⟨w.heap.size, 0, none⟩ = some (.slice p n c) ∧ y17.cell? ⟨w.heap.size + 1, 0, none⟩ = some (.slice q m d) ∧ True := ⟨k_a, k_m, trivial⟩
      refine hK.out _ _ (fun _ => hS) ?_
      clear hK K
      (try simp only [Act.put, List.getElem_toArray, List.getElem_cons_zero, List.getElem_cons_succ, List.setIfInBounds_toArray, List.set_cons_zero, List.set_cons_succ])
      refine Kr.takeP (i := 4) (v := ?_) rfl (by kernel_rfl) (by kernel_rfl) (by kernel_rfl) rfl (fun _ _ _ h => h) (fun wx => ?_) (by rfl) (fun _ => hS) ?_
      rotate_left
      · (go_simp; first | done | rfl)
      (try simp only [Act.put, List.getElem_toArray, List.getElem_cons_zero, List.getElem_cons_succ, List.setIfInBounds_toArray, List.set_cons_zero, List.set_cons_succ])
      refine Kr.readyL (rs := [7]) (by kernel_rfl) (by simp) ?_
      refine Kr.AllL.cons rfl (fun K hK => ?_) Kr.AllL.nil
      clear hS
      go_simp
      have c0 := S_B.c0; have c1 := S_B.c1; have c2 := S_B.c2; have f0 := S_B.f0; have f1 := S_B.f1; have f2 := S_B.f2
      go_simp
      clear c0 c1 c2 f0 f1 f2
      obtain ⟨y18, hy⟩ : ∃ y, ((y17.setCell ⟨B, 0, none⟩ (.slice q m d)).setCell ⟨B, 1, none⟩ (.slice none 0 0)).setCell ⟨B, 2, none⟩ (.bool false) = y := ⟨_, rfl⟩
      rw [hy]
      have ho : Off B y17 y18 := by rw [← hy]; exact (((Off.refl _ _).set _ _).set _ _).set _ _
      replace S_B : Stp y18 B (.slice q m d) (.slice none 0 0) (.bool false) := by rw [← hy]; exact S_B.put _ _ _
      clear hy
      replace S_C := S_C.off ho N_BC.out.symm
      replace k_a := ho.cell _ _ (show w.heap.size ≠ B from by have := L_B.out; have := E0.out; omega) k_a
      replace k_m := ho.cell _ _ (show w.heap.size + 1 ≠ B from by have := L_B.out; have := E0.out; omega) k_m
      replace f_r := ho.frz _ f_r
      replace k_r := ho.cell _ _ (show w.heap.size + 1 + 1 ≠ B from by have := L_B.out; have := E0.out; omega) k_r
      replace R_a := Lib.hid (ho.nw _ _ _ _ A_aB.out R_a.out)
      replace R_m := Lib.hid (ho.nw _ _ _ _ A_mB.out R_m.out)
      replace R_1 := Lib.hid (ho.nw _ _ _ _ A_1B.out R_1.out)
      replace G := Lib.hid (ho.gr _ (by have := L_B.out; have := E0.out; omega) G.out)
      replace G0 := Lib.hid (ho.gr _ (by have := L_B.out; have := E0.out; omega) G0.out)
      clear ho
      have hS : y18.cell? ⟨w.heap.size, 0, none⟩ = some (.slice p n c) ∧ y18.cell? ⟨w.heap.size + 1, 0, none⟩ = some (.slice q m d) ∧ True := ⟨k_a, k_m, trivial⟩
      refine hK.out _ _ (fun _ => hS) ?_
      clear hK K
      (try simp only [Act.put, List.getElem_toArray, List.getElem_cons_zero, List.getElem_cons_succ, List.setIfInBounds_toArray, List.set_cons_zero, List.set_cons_succ])
      refine Kr.readyL (rs := [8]) (by kernel_rfl) (by simp) ?_
      refine Kr.AllL.cons rfl (fun K hK => ?_) Kr.AllL.nil
      clear hS
      go_simp
      have c0 := S_C.c0; have c1 := S_C.c1; have c2 := S_C.c2; have f0 := S_C.f0; have f1 := S_C.f1; have f2 := S_C.f2
      go_simp
      clear c0 c1 c2 f0 f1 f2
      obtain ⟨y19, hy⟩ : ∃ y, ((y18.setCell ⟨C, 0, none⟩ (.slice p n c)).setCell ⟨C, 1, none⟩ (.slice p3 n3 c3)).setCell ⟨C, 2, none⟩ (.bool false) = y := ⟨_, rfl⟩
      rw [hy]
      have ho : Off C y18 y19 := by rw [← hy]; exact (((Off.refl _ _).set _ _).set _ _).set _ _
      replace S_C : Stp y19 C (.slice p n c) (.slice p3 n3 c3) (.bool false) := by rw [← hy]; exact S_C.put _ _ _
      clear hy
      replace S_B := S_B.off ho N_BC.out
      replace k_a := ho.cell _ _ (show w.heap.size ≠ C from by have := L_C.out; have := E0.out; omega) k_a
      replace k_m := ho.cell _ _ (show w.heap.size + 1 ≠ C from by have := L_C.out; have := E0.out; omega) k_m
      replace f_r := ho.frz _ f_r
      replace k_r := ho.cell _ _ (show w.heap.size + 1 + 1 ≠ C from by have := L_C.out; have := E0.out; omega) k_r
      replace R_a := Lib.hid (ho.nw _ _ _ _ A_aC.out R_a.out)
      replace R_m := Lib.hid (ho.nw _ _ _ _ A_mC.out R_m.out)
      replace R_1 := Lib.hid (ho.nw _ _ _ _ A_1C.out R_1.out)
      replace G := Lib.hid (ho.gr _ (by have := L_C.out; have := E0.out; omega) G.out)
      replace G0 := Lib.hid (ho.gr _ (by have := L_C.out; have := E0.out; omega) G0.out)
      clear ho
      have hS : y19.cell? ⟨w.heap.size, 0, none⟩ = some (.slice p n c) ∧ y19.cell? ⟨w.heap.size + 1, 0, none⟩ = some (.slice q m d) ∧ True := ⟨k_a, k_m, trivial⟩
      refine hK.out _ _ (fun _ => hS) ?_
      clear hK K
      (try simp only [Act.put, List.getElem_toArray, List.getElem_cons_zero, List.getElem_cons_succ, List.setIfInBounds_toArray, List.set_cons_zero, List.set_cons_succ])
      clear hS
      refine Kr.doneL (by kernel_rfl) ?_ _
      go_wp2_with fail
      go_meet
      have e0 := E0.out
      exact ⟨B, C, p3, n3, c3, rfl, rfl, Lib.hid ⟨G.out, k_m, k_r, f_r, R_m.out, N_BC.out, by have := L_B.out; omega, by have := L_C.out; omega, A_mB.out, A_mC.out, S_B, S_C, R_m.out, nw_none _, R_a.out, R_1.out, A_mB.out, A_mC.out, av_none _ _, av_none _ _, A_aB.out, A_aC.out, A_1B.out, A_1C.out, av_none _ _, A_1R.out, EInv.start HX.out⟩⟩
    refine Kr.AllL.cons rfl (fun K hK => ?_) Kr.AllL.nil
    clear hS
    go_simp
    obtain ⟨y20, hy⟩ : ∃ y, d1.alloc (.cells #[.slice none 0 0, .slice none 0 0, .bool false] 104) = y := ⟨_, rfl⟩
    obtain ⟨C, hC⟩ : ∃ B, d1.heap.size = B := ⟨_, rfl⟩
    rw [hy, hC]
    have hg : Gr d1 y20 := by rw [← hy]; exact (Gr.refl _).alloc _
    have L_C := Lib.hid (hC ▸ G0.out.le : W0.heap.size ≤ C)
    have A_aC := Lib.hid (av_new (b := C) R_a.out (Nat.le_of_eq hC))
    have A_mC := Lib.hid (av_new (b := C) R_m.out (Nat.le_of_eq hC))
    replace k_a := hg.cell k_a
    replace k_m := hg.cell k_m
    replace f_r := hg.frozen k_r f_r
    replace k_r := hg.cell k_r
    replace R_a := Lib.hid (R_a.out.grow hg)
    replace R_m := Lib.hid (R_m.out.grow hg)
    replace G := Lib.hid (G.out.trans hg)
    replace G0 := Lib.hid (G0.out.trans hg)
    clear hg
    have S_C : Stp y20 C (.slice none 0 0) (.slice none 0 0) (.bool false) := by rw [← hy, ← hC]; exact ⟨by simp [go_sem], by simp [go_sem], by simp [go_sem], by simp [go_sem], by simp [go_sem], by simp [go_sem]⟩
    clear hy hC
    have hS : y20.cell? ⟨w.heap.size, 0, none⟩ = some (.slice p n c) ∧ y20.cell? ⟨w.heap.size + 1, 0, none⟩ = some (.slice q m d) ∧ True := ⟨k_a, k_m, trivial⟩
    refine hK.out _ _ (fun _ => hS) ?_
    clear hK K
    (try simp only [Act.put, List.getElem_toArray, List.getElem_cons_zero, List.getElem_cons_succ, List.setIfInBounds_toArray, List.set_cons_zero, List.set_cons_succ])
    refine Kr.readyL (rs := [3, 5]) (by kernel_rfl) (by simp) ?_
    refine Kr.AllL.cons rfl (fun K hK => ?_) ?_
    · clear hS
      go_simp
      go_at_call 81
      refine (one_v _).mono ?_
      rintro e y21 ⟨p3, n3, c3, rfl, hr, hg⟩
      have A_1C := Lib.hid (av_nr (b := C) hr S_C.lt)
      have A_1R := Lib.hid (av_nr (b := w.heap.size + 1 + 1) hr (World.block_lt_of_cell? _ _ k_r))
      have R_1 := Lib.hid hr.toNw
      clear hr
      replace k_a := hg.cell k_a
      replace k_m := hg.cell k_m
      replace f_r := hg.frozen k_r f_r
      replace k_r := hg.cell k_r
      replace R_a := Lib.hid (R_a.out.grow hg)
      replace R_m := Lib.hid (R_m.out.grow hg)
      replace G := Lib.hid (G.out.trans hg)
      replace G0 := Lib.hid (G0.out.trans hg)
      replace S_C := S_C.grow hg
      clear hg
      have hS : y21.cell? ⟨w.heap.size, 0, none⟩ = some (.slice p n c) ∧ y21.cell? ⟨w.heap.size + 1, 0, none⟩ = some (.slice q m d) ∧ True := ⟨k_a, k_m, trivial⟩
      refine hK.out _ _ (fun _ => hS) ?_
      clear hK K
      (try simp only [Act.put, List.getElem_toArray, List.getElem_cons_zero, List.getElem_cons_succ, List.setIfInBounds_toArray, List.set_cons_zero, List.set_cons_succ])
      refine Kr.takeP (i := 4) (v := ?_) rfl (by kernel_rfl) (by kernel_rfl) (by kernel_rfl) rfl (fun _ _ _ h => h) (fun wx => ?_) (by rfl) (fun _ => hS) ?_
      rotate_left
      · (go_simp; first | done | rfl)
      (try simp only [Act.put, List.getElem_toArray, List.getElem_cons_zero, List.getElem_cons_succ, List.setIfInBounds_toArray, List.set_cons_zero, List.set_cons_succ])
      refine Kr.readyL (rs := [5]) (by kernel_rfl) (by simp) ?_
      refine Kr.AllL.cons rfl (fun K hK => ?_) Kr.AllL.nil
      clear hS
      go_simp
      obtain ⟨y22, hy⟩ : ∃ y, y21.alloc (.cells #[.slice none 0 0, .slice none 0 0, .bool false] 104) = y := ⟨_, rfl⟩
      obtain ⟨B, hB⟩ : ∃ B, y21.heap.size = B := ⟨_, rfl⟩
      rw [hy, hB]
      have hg : Gr y21 y22 := by rw [← hy]; exact (Gr.refl _).alloc _
      have L_B := Lib.hid (hB ▸ G0.out.le : W0.heap.size ≤ B)
      have N_CB : Hid (C ≠ B) := Lib.hid (Nat.ne_of_lt (show C < B from hB ▸ S_C.lt))
      have A_aB := Lib.hid (av_new (b := B) R_a.out (Nat.le_of_eq hB))
      have A_mB := Lib.hid (av_new (b := B) R_m.out (Nat.le_of_eq hB))
      have A_1B := Lib.hid (av_new (b := B) R_1.out (Nat.le_of_eq hB))
      replace k_a := hg.cell k_a
      replace k_m := hg.cell k_m
      replace f_r := hg.frozen k_r f_r
      replace k_r := hg.cell k_r
      replace R_a := Lib.hid (R_a.out.grow hg)
      replace R_m := Lib.hid (R_m.out.grow hg)
      replace R_1 := Lib.hid (R_1.out.grow hg)
      replace G := Lib.hid (G.out.trans hg)
      replace G0 := Lib.hid (G0.out.trans hg)
      replace S_C := S_C.grow hg
      clear hg
      have S_B : Stp y22 B (.slice none 0 0) (.slice none 0 0) (.bool false) := by rw [← hy, ← hB]; exact ⟨by simp [go_sem], by simp [go_sem], by simp [go_sem], by simp [go_sem], by simp [go_sem], by simp [go_sem]⟩
      clear hy hB
      have hS : y22.cell? ⟨w.heap.size, 0, none⟩ = some (.slice p n c) ∧ y22.cell? ⟨w.heap.size + 1, 0, none⟩ = some (.slice q m d) ∧ True := ⟨k_a, k_m, trivial⟩
      refine hK.out _ _ (fun _ => hS) ?_
      clear hK K
      (try simp only [Act.put, List.getElem_toArray, List.getElem_cons_zero, List.getElem_cons_succ, List.setIfInBounds_toArray, List.set_cons_zero, List.set_cons_succ])
      refine Kr.readyL (rs := [7]) (by kernel_rfl) (by simp) ?_
      refine Kr.AllL.cons rfl (fun K hK => ?_) Kr.AllL.nil
      clear hS
      go_simp
      have c0 := S_B.c0; have c1 := S_B.c1; have c2 := S_B.c2; have f0 := S_B.f0; have f1 := S_B.f1; have f2 := S_B.f2
      go_simp
      clear c0 c1 c2 f0 f1 f2
      obtain ⟨y23, hy⟩ : ∃ y, ((y22.setCell ⟨B, 0, none⟩ (.slice q m d)).setCell ⟨B, 1, none⟩ (.slice none 0 0)).setCell ⟨B, 2, none⟩ (.bool false) = y := ⟨_, rfl⟩
      rw [hy]
      have ho : Off B y22 y23 := by rw [← hy]; exact (((Off.refl _ _).set _ _).set _ _).set _ _
      replace S_B : Stp y23 B (.slice q m d) (.slice none 0 0) (.bool false) := by rw [← hy]; exact S_B.put _ _ _
      clear hy
      replace S_C := S_C.off ho N_CB.out
      replace k_a := ho.cell _ _ (show w.heap.size ≠ B from by have := L_B.out; have := E0.out; omega) k_a
      replace k_m := ho.cell _ _ (show w.heap.size + 1 ≠ B from by have := L_B.out; have := E0.out; omega) k_m
      replace f_r := ho.frz _ f_r
      replace k_r := ho.cell _ _ (show w.heap.size + 1 + 1 ≠ B from by have := L_B.out; have := E0.out; omega) k_r
      replace R_a := Lib.hid (ho.nw _ _ _ _ A_aB.out R_a.out)
      replace R_m := Lib.hid (ho.nw _ _ _ _ A_mB.out R_m.out)
      replace R_1 := Lib.hid (ho.nw _ _ _ _ A_1B.out R_1.out)
      replace G := Lib.hid (ho.gr _ (by have := L_B.out; have := E0.out; omega) G.out)
      replace G0 := Lib.hid (ho.gr _ (by have := L_B.out; have := E0.out; omega) G0.out)
      clear ho
      have hS : y23.cell? ⟨w.heap.size, 0, none⟩ = some (.slice p n c) ∧ y23.cell? ⟨w.heap.size + 1, 0, none⟩ = some (.slice q m d) ∧ True := ⟨k_a, k_m, trivial⟩
      refine hK.out _ _ (fun _ => hS) ?_
      clear hK K
      (try simp only [Act.put, List.getElem_toArray, List.getElem_cons_zero, List.getElem_cons_succ, List.setIfInBounds_toArray, List.set_cons_zero, List.set_cons_succ])
      refine Kr.readyL (rs := [8]) (by kernel_rfl) (by simp) ?_
      refine Kr.AllL.cons rfl (fun K hK => ?_) Kr.AllL.nil
      clear hS
      go_simp
      have c0 := S_C.c0; have c1 := S_C.c1; have c2 := S_C.c2; have f0 := S_C.f0; have f1 := S_C.f1; have f2 := S_C.f2
      go_simp
      clear c0 c1 c2 f0 f1 f2
      obtain ⟨y24, hy⟩ : ∃ y, ((y23.setCell ⟨C, 0, none⟩ (.slice p n c)).setCell ⟨C, 1, none⟩ (.slice p3 n3 c3)).setCell ⟨C, 2, none⟩ (.bool false) = y := ⟨_, rfl⟩
      rw [hy]
      have ho : Off C y23 y24 := by rw [← hy]; exact (((Off.refl _ _).set _ _).set _ _).set _ _
      replace S_C : Stp y24 C (.slice p n c) (.slice p3 n3 c3) (.bool false) := by rw [← hy]; exact S_C.put _ _ _
      clear hy
      replace S_B := S_B.off ho N_CB.out.symm
      replace k_a := ho.cell _ _ (show w.heap.size ≠ C from by have := L_C.out; have := E0.out; omega) k_a
      replace k_m := ho.cell _ _ (show w.heap.size + 1 ≠ C from by have := L_C.out; have := E0.out; omega) k_m
      replace f_r := ho.frz _ f_r
      replace k_r := ho.cell _ _ (show w.heap.size + 1 + 1 ≠ C from by have := L_C.out; have := E0.out; omega) k_r
      replace R_a := Lib.hid (ho.nw _ _ _ _ A_aC.out R_a.out)
      replace R_m := Lib.hid (ho.nw _ _ _ _ A_mC.out R_m.out)
      replace R_1 := Lib.hid (ho.nw _ _ _ _ A_1C.out R_1.out)
      replace G := Lib.hid (ho.gr _ (by have := L_C.out; have := E0.out; omega) G.out)
      replace G0 := Lib.hid (ho.gr _ (by have := L_C.out; have := E0.out; omega) G0.out)
      clear ho
      have hS : y24.cell? ⟨w.heap.size, 0, none⟩ = some (.slice p n c) ∧ y24.cell? ⟨w.heap.size + 1, 0, none⟩ = some (.slice q m d) ∧ True := ⟨k_a, k_m, trivial⟩
      refine hK.out _ _ (fun _ => hS) ?_
      clear hK K
      (try simp only [Act.put, List.getElem_toArray, List.getElem_cons_zero, List.getElem_cons_succ, List.setIfInBounds_toArray, List.set_cons_zero, List.set_cons_succ])
      clear hS
      refine Kr.doneL (by kernel_rfl) ?_ _
      go_wp2_with fail
      go_meet
      have e0 := E0.out
      exact ⟨B, C, p3, n3, c3, rfl, rfl, Lib.hid ⟨G.out, k_m, k_r, f_r, R_m.out, N_CB.out.symm, by have := L_B.out; omega, by have := L_C.out; omega, A_mB.out, A_mC.out, S_B, S_C, R_m.out, nw_none _, R_a.out, R_1.out, A_mB.out, A_mC.out, av_none _ _, av_none _ _, A_aB.out, A_aC.out, A_1B.out, A_1C.out, av_none _ _, A_1R.out, EInv.start HX.out⟩⟩
    refine Kr.AllL.cons rfl (fun K hK => ?_) Kr.AllL.nil
    clear hS
    go_simp
    obtain ⟨y25, hy⟩ : ∃ y, y20.alloc (.cells #[.slice none 0 0, .slice none 0 0, .bool false] 104) = y := ⟨_, rfl⟩
    obtain ⟨B, hB⟩ : ∃ B, y20.heap.size = B := ⟨_, rfl⟩
    rw [hy, hB]
    have hg : Gr y20 y25 := by rw [← hy]; exact (Gr.refl _).alloc _
    have L_B := Lib.hid (hB ▸ G0.out.le : W0.heap.size ≤ B)
    have N_CB : Hid (C ≠ B) := Lib.hid (Nat.ne_of_lt (show C < B from hB ▸ S_C.lt))
    have A_aB := Lib.hid (av_new (b := B) R_a.out (Nat.le_of_eq hB))
    have A_mB := Lib.hid (av_new (b := B) R_m.out (Nat.le_of_eq hB))
    replace k_a := hg.cell k_a
    replace k_m := hg.cell k_m
    replace f_r := hg.frozen k_r f_r
    replace k_r := hg.cell k_r
    replace R_a := Lib.hid (R_a.out.grow hg)
    replace R_m := Lib.hid (R_m.out.grow hg)
    replace G := Lib.hid (G.out.trans hg)
    replace G0 := Lib.hid (G0.out.trans hg)
    replace S_C := S_C.grow hg
    clear hg
    have S_B : Stp y25 B (.slice none 0 0) (.slice none 0 0) (.bool false) := by rw [← hy, ← hB]; exact ⟨by simp [go_sem], by simp [go_sem], by simp [go_sem], by simp [go_sem], by simp [go_sem], by simp [go_sem]⟩
    clear hy hB
    have hS : y25.cell? ⟨w.heap.size, 0, none⟩ = some (.slice p n c) ∧ y25.cell? ⟨w.heap.size + 1, 0, none⟩ = some (.slice q m d) ∧ True := ⟨k_a, k_m, trivial⟩
    refine hK.out _ _ (fun _ => hS) ?_
    clear hK K
    (try simp only [Act.put, List.getElem_toArray, List.getElem_cons_zero, List.getElem_cons_succ, List.setIfInBounds_toArray, List.set_cons_zero, List.set_cons_succ])
    refine Kr.readyL (rs := [3]) (by kernel_rfl) (by simp) ?_
    refine Kr.AllL.cons rfl (fun K hK => ?_) Kr.AllL.nil
    clear hS
    go_simp
    go_at_call 81
    refine (one_v _).mono ?_
    rintro e y26 ⟨p3, n3, c3, rfl, hr, hg⟩
    have A_1C := Lib.hid (av_nr (b := C) hr S_C.lt)
    have A_1B := Lib.hid (av_nr (b := B) hr S_B.lt)
    have A_1R := Lib.hid (av_nr (b := w.heap.size + 1 + 1) hr (World.block_lt_of_cell? _ _ k_r))
    have R_1 := Lib.hid hr.toNw
    clear hr
    replace k_a := hg.cell k_a
    replace k_m := hg.cell k_m
    replace f_r := hg.frozen k_r f_r
    replace k_r := hg.cell k_r
    replace R_a := Lib.hid (R_a.out.grow hg)
    replace R_m := Lib.hid (R_m.out.grow hg)
    replace G := Lib.hid (G.out.trans hg)
    replace G0 := Lib.hid (G0.out.trans hg)
    replace S_C := S_C.grow hg
    replace S_B := S_B.grow hg
    clear hg
    have hS : y26.cell? ⟨w.heap.size, 0, none⟩ = some (.slice p n c) ∧ y26.cell? ⟨w.heap.size + 1, 0, none⟩ = some (.slice q m d) ∧ True := ⟨k_a, k_m, trivial⟩
    refine hK.out _ _ (fun _ => hS) ?_
    clear hK K
    (try simp only [Act.put, List.getElem_toArray, List.getElem_cons_zero, List.getElem_cons_succ, List.setIfInBounds_toArray, List.set_cons_zero, List.set_cons_succ])
    refine Kr.takeP (i := 4) (v := ?_) rfl (by kernel_rfl) (by kernel_rfl) (by kernel_rfl) rfl (fun _ _ _ h => h) (fun wx => ?_) (by rfl) (fun _ => hS) ?_
    rotate_left
    · (go_simp; first | done | rfl)
    (try simp only [Act.put, List.getElem_toArray, List.getElem_cons_zero, List.getElem_cons_succ, List.setIfInBounds_toArray, List.set_cons_zero, List.set_cons_succ])
    refine Kr.readyL (rs := [7]) (by kernel_rfl) (by simp) ?_
    refine Kr.AllL.cons rfl (fun K hK => ?_) Kr.AllL.nil
    clear hS
    go_simp
    have c0 := S_B.c0; have c1 := S_B.c1; have c2 := S_B.c2; have f0 := S_B.f0; have f1 := S_B.f1; have f2 := S_B.f2
    go_simp
    clear c0 c1 c2 f0 f1 f2
    obtain ⟨y27, hy⟩ : ∃ y, ((y26.setCell ⟨B, 0, none⟩ (.slice q m d)).setCell ⟨B, 1, none⟩ (.slice none 0 0)).setCell ⟨B, 2, none⟩ (.bool false) = y := ⟨_, rfl⟩
    rw [hy]
    have ho : Off B y26 y27 := by rw [← hy]; exact (((Off.refl _ _).set _ _).set _ _).set _ _
    replace S_B : Stp y27 B (.slice q m d) (.slice none 0 0) (.bool false) := by rw [← hy]; exact S_B.put _ _ _
    clear hy
    replace S_C := S_C.off ho N_CB.out
    replace k_a := ho.cell _ _ (show w.heap.size ≠ B from by have := L_B.out; have := E0.out; omega) k_a
    replace k_m := ho.cell _ _ (show w.heap.size + 1 ≠ B from by have := L_B.out; have := E0.out; omega) k_m
    replace f_r := ho.frz _ f_r
    replace k_r := ho.cell _ _ (show w.heap.size + 1 + 1 ≠ B from by have := L_B.out; have := E0.out; omega) k_r
    replace R_a := Lib.hid (ho.nw _ _ _ _ A_aB.out R_a.out)
    replace R_m := Lib.hid (ho.nw _ _ _ _ A_mB.out R_m.out)
    replace R_1 := Lib.hid (ho.nw _ _ _ _ A_1B.out R_1.out)
    replace G := Lib.hid (ho.gr _ (by have := L_B.out; have := E0.out; omega) G.out)
    replace G0 := Lib.hid (ho.gr _ (by have := L_B.out; have := E0.out; omega) G0.out)
    clear ho
    have hS : y27.cell? ⟨w.heap.size, 0, none⟩ = some (.slice p n c) ∧ y27.cell? ⟨w.heap.size + 1, 0, none⟩ = some (.slice q m d) ∧ True := ⟨k_a, k_m, trivial⟩
    refine hK.out _ _ (fun _ => hS) ?_
    clear hK K
    (try simp only [Act.put, List.getElem_toArray, List.getElem_cons_zero, List.getElem_cons_succ, List.setIfInBounds_toArray, List.set_cons_zero, List.set_cons_succ])
    refine Kr.readyL (rs := [8]) (by kernel_rfl) (by simp) ?_
    refine Kr.AllL.cons rfl (fun K hK => ?_) Kr.AllL.nil
    clear hS
    go_simp
    have c0 := S_C.c0; have c1 := S_C.c1; have c2 := S_C.c2; have f0 := S_C.f0; have f1 := S_C.f1; have f2 := S_C.f2
    go_simp
    clear c0 c1 c2 f0 f1 f2
    obtain ⟨y28, hy⟩ : ∃ y, ((y27.setCell ⟨C, 0, none⟩ (.slice p n c)).setCell ⟨C, 1, none⟩ (.slice p3 n3 c3)).setCell ⟨C, 2, none⟩ (.bool false) = y := ⟨_, rfl⟩
    rw [hy]
    have ho : Off C y27 y28 := by rw [← hy]; exact (((Off.refl _ _).set _ _).set _ _).set _ _
    replace S_C : Stp y28 C (.slice p n c) (.slice p3 n3 c3) (.bool false) := by rw [← hy]; exact S_C.put _ _ _
    clear hy
    replace S_B := S_B.off ho N_CB.out.symm
    replace k_a := ho.cell _ _ (show w.heap.size ≠ C from by have := L_C.out; have := E0.out; omega) k_a
    replace k_m := ho.cell _ _ (show w.heap.size + 1 ≠ C from by have := L_C.out; have := E0.out; omega) k_m
    replace f_r := ho.frz _ f_r
    replace k_r := ho.cell _ _ (show w.heap.size + 1 + 1 ≠ C from by have := L_C.out; have := E0.out; omega) k_r
    replace R_a := Lib.hid (ho.nw _ _ _ _ A_aC.out R_a.out)
    replace R_m := Lib.hid (ho.nw _ _ _ _ A_mC.out R_m.out)
    replace R_1 := Lib.hid (ho.nw _ _ _ _ A_1C.out R_1.out)
    replace G := Lib.hid (ho.gr _ (by have := L_C.out; have := E0.out; omega) G.out)
    replace G0 := Lib.hid (ho.gr _ (by have := L_C.out; have := E0.out; omega) G0.out)
    clear ho
    have hS : y28.cell? ⟨w.heap.size, 0, none⟩ = some (.slice p n c) ∧ y28.cell? ⟨w.heap.size + 1, 0, none⟩ = some (.slice q m d) ∧ True := ⟨k_a, k_m, trivial⟩
    refine hK.out _ _ (fun _ => hS) ?_
    clear hK K
    (try simp only [Act.put, List.getElem_toArray, List.getElem_cons_zero, List.getElem_cons_succ, List.setIfInBounds_toArray, List.set_cons_zero, List.set_cons_succ])
    clear hS
    refine Kr.doneL (by kernel_rfl) ?_ _
    go_wp2_with fail
    go_meet
    have e0 := E0.out
    exact ⟨B, C, p3, n3, c3, rfl, rfl, Lib.hid ⟨G.out, k_m, k_r, f_r, R_m.out, N_CB.out.symm, by have := L_B.out; omega, by have := L_C.out; omega, A_mB.out, A_mC.out, S_B, S_C, R_m.out, nw_none _, R_a.out, R_1.out, A_mB.out, A_mC.out, av_none _ _, av_none _ _, A_aB.out, A_aC.out, A_1B.out, A_1C.out, av_none _ _, A_1R.out, EInv.start HX.out⟩⟩
  case rest =>
    obtain ⟨B, C, pz, nz, cz, rfl, rfl, HI⟩ := hcut
    have HXY := Lib.hid (Nat.lt_trans HX.out HY.out)
    clear R_a R_m k_a k_m k_r f_r E0 G
    go_wp2
    go_loopw [] (fun wr => ∃ (p0 : Option Addr) (n0 c0 : Nat) (p1 : Option Addr) (n1 c1 : Nat) (p2 : Option Addr) (n2 c2 : Nat) (p3 : Option Addr) (n3 c3 : Nat) (r0 x0 r1 x1 : Nat) (s0 s1 : Bool), Hid (InvSt w wr x y B C q m d p0 n0 c0 p1 n1 c1 p2 n2 c2 p3 n3 c3 r0 x0 r1 x1 s0 s1)) (fun wr => numAt wr ⟨C, 0, none⟩)
    case atStart => exact ⟨_, _, _, _, _, _, _, _, _, _, _, _, _, _, _, _, _, _, HI⟩
    case round =>
      clear HI
      obtain ⟨p0, n0, c0, p1, n1, c1, p2, n2, c2, p3, n3, c3, r0, x0, r1, x1, s0, s1, HI⟩ := hrel
      have G := Lib.hid HI.out.g
      have N_BC := Lib.hid HI.out.bc
      have L_B := Lib.hid HI.out.lB
      have L_C := Lib.hid HI.out.lC
      have R_m := Lib.hid HI.out.nm
      have A_mB := Lib.hid HI.out.mB
      have A_mC := Lib.hid HI.out.mC
      have R_0 := Lib.hid HI.out.w0
      have R_1 := Lib.hid HI.out.w1
      have R_2 := Lib.hid HI.out.w2
      have R_3 := Lib.hid HI.out.w3
      have A_0B := Lib.hid HI.out.a0B
      have A_0C := Lib.hid HI.out.a0C
      have A_1B := Lib.hid HI.out.a1B
      have A_1C := Lib.hid HI.out.a1C
      have A_2B := Lib.hid HI.out.a2B
      have A_2C := Lib.hid HI.out.a2C
      have A_3B := Lib.hid HI.out.a3B
      have A_3C := Lib.hid HI.out.a3C
      have A_1R := Lib.hid HI.out.a1R
      have A_3R := Lib.hid HI.out.a3R
      have HE := Lib.hid HI.out.inv
      have k_m := HI.out.km
      have k_r := HI.out.kr
      have f_r := HI.out.fr
      have S_B := HI.out.sB
      have S_C := HI.out.sC
      have HMe : Hid (numAt wr ⟨C, 0, none⟩ = r1) := Lib.hid ((numAt_eq S_C.c0 R_2.out).trans (val_digs r1))
      have e0 : Hid (w.heap.size + 1 + 1 + 1 = w.heap.size + 1 + 1 + 1) := Lib.hid rfl
      have E0 := e0
      clear e0
      clear HI
      have k_n := S_C.c0
      go_wp2_with fail
      refine (isZero_v R_2.out).mono ?_
      rintro e y101 ⟨rfl, hg⟩
      replace k_m := hg.cell k_m
      replace f_r := hg.frozen k_r f_r
      replace k_r := hg.cell k_r
      replace k_n := hg.cell k_n
      replace R_m := Lib.hid (R_m.out.grow hg)
      replace R_0 := Lib.hid (R_0.out.grow hg)
      replace R_1 := Lib.hid (R_1.out.grow hg)
      replace R_2 := Lib.hid (R_2.out.grow hg)
      replace R_3 := Lib.hid (R_3.out.grow hg)
      replace G := Lib.hid (G.out.trans hg)
      replace S_B := S_B.grow hg
      replace S_C := S_C.grow hg
      clear hg
      by_cases h : r1 = 0
      · subst h
        clear k_n
        have HGC := Lib.hid HE.out.gcd_end
        have k_l := S_B.c0
        have HR0 := Lib.hid (Nat.lt_of_le_of_lt HE.out.small HY.out)
        go_upto_region 6 with fail
        by_cases h1 : r0 = 1
        · have HO : Hid (ord r0 1 = 0) := Lib.hid (by rw [h1, ord_eq])
          have HG1 : Hid (Nat.gcd x y = 1) := Lib.hid (by rw [← HGC.out]; exact h1)
          have HD : Hid (decide (Nat.gcd x y = 1) = true) := Lib.hid (decide_eq_true HG1.out)
          have HI : Hid (IsInv x y (if s0 then y - x0 else x0)) := Lib.hid ((h1 ▸ HE.out).inv_end (Nat.lt_of_le_of_lt (Nat.zero_le _) HX.out))
          have HLE := Lib.hid HE.out.le0
          clear h1 HE HGC
          refine Kr.startL (fun W' => W'.cell? ⟨B, 0, none⟩ = some (.slice p0 n0 c0) ∧ True) [] (by kernel_rfl) ?_
          have gd : Gr y101 y101.drew := (Gr.refl _).drew
          generalize y101.drew = d102 at gd ⊢
          replace k_m := gd.cell k_m
          replace f_r := gd.frozen k_r f_r
          replace k_r := gd.cell k_r
          replace k_l := gd.cell k_l
          replace R_m := Lib.hid (R_m.out.grow gd)
          replace R_0 := Lib.hid (R_0.out.grow gd)
          replace R_1 := Lib.hid (R_1.out.grow gd)
          replace R_2 := Lib.hid (R_2.out.grow gd)
          replace R_3 := Lib.hid (R_3.out.grow gd)
          replace G := Lib.hid (G.out.trans gd)
          replace S_B := S_B.grow gd
          replace S_C := S_C.grow gd
          clear gd
          have hS : d102.cell? ⟨B, 0, none⟩ = some (.slice p0 n0 c0) ∧ True := ⟨k_l, trivial⟩
          refine Kr.takeP (i := 0) (v := ?_) rfl (by kernel_rfl) (by kernel_rfl) (by kernel_rfl) rfl (fun _ _ _ h => h) (fun wx => ?_) (by rfl) (fun _ => hS) ?_
          rotate_left
          · (go_simp; first | done | rfl)
          (try simp only [Act.put, List.getElem_toArray, List.getElem_cons_zero, List.getElem_cons_succ, List.setIfInBounds_toArray, List.set_cons_zero, List.set_cons_succ])
          refine Kr.takeS (i := 1) (v := ?_) [3, 4, 5] rfl (by kernel_rfl) (by kernel_rfl) (by kernel_rfl) rfl (by kernel_rfl) (by kernel_rfl) (by kernel_rfl) (fun _ _ _ h => h) (fun wx hSx => ?_) (by rfl) hS ?_
          rotate_left
          · (go_simp; first | done | rfl)
          (try simp only [Act.put, List.getElem_toArray, List.getElem_cons_zero, List.getElem_cons_succ, List.setIfInBounds_toArray, List.set_cons_zero, List.set_cons_succ])
          refine Kr.readyL (rs := [2]) (by kernel_rfl) (by simp) ?_
          refine Kr.AllL.cons rfl (fun K hK => ?_) Kr.AllL.nil
          clear hS
          go_simp
          go_at_call 81
          refine (one_v _).mono ?_
          rintro e y103 ⟨p4, n4, c4, rfl, hr, hg⟩
          have A_4B := Lib.hid (av_nr (b := B) hr S_B.lt)
          have A_4C := Lib.hid (av_nr (b := C) hr S_C.lt)
          have A_4R := Lib.hid (av_nr (b := w.heap.size + 1 + 1) hr (World.block_lt_of_cell? _ _ k_r))
          have R_4 := Lib.hid hr.toNw
          clear hr
          replace k_m := hg.cell k_m
          replace f_r := hg.frozen k_r f_r
          replace k_r := hg.cell k_r
          replace k_l := hg.cell k_l
          replace R_m := Lib.hid (R_m.out.grow hg)
          replace R_0 := Lib.hid (R_0.out.grow hg)
          replace R_1 := Lib.hid (R_1.out.grow hg)
          replace R_2 := Lib.hid (R_2.out.grow hg)
          replace R_3 := Lib.hid (R_3.out.grow hg)
          replace G := Lib.hid (G.out.trans hg)
          replace S_B := S_B.grow hg
          replace S_C := S_C.grow hg
          clear hg
          have hS : y103.cell? ⟨B, 0, none⟩ = some (.slice p0 n0 c0) ∧ True := ⟨k_l, trivial⟩
          refine hK.out _ _ (fun _ => hS) ?_
          clear hK K
          (try simp only [Act.put, List.getElem_toArray, List.getElem_cons_zero, List.getElem_cons_succ, List.setIfInBounds_toArray, List.set_cons_zero, List.set_cons_succ])
          refine Kr.readyL (rs := [3]) (by kernel_rfl) (by simp) ?_
          refine Kr.AllL.cons rfl (fun K hK => ?_) Kr.AllL.nil
          clear hS
          go_simp
          go_at_call 93
          refine (Compare_v R_0.out R_4.out (lt64 HR0.out) (by first | exact Nat.lt_of_lt_of_le (by decide) (pw_mono (show 1 ≤ 64 by decide)))).mono ?_
          rintro e y104 ⟨rfl, hg⟩
          rw [HO.out]
          replace k_m := hg.cell k_m
          replace f_r := hg.frozen k_r f_r
          replace k_r := hg.cell k_r
          replace k_l := hg.cell k_l
          replace R_m := Lib.hid (R_m.out.grow hg)
          replace R_0 := Lib.hid (R_0.out.grow hg)
          replace R_1 := Lib.hid (R_1.out.grow hg)
          replace R_2 := Lib.hid (R_2.out.grow hg)
          replace R_3 := Lib.hid (R_3.out.grow hg)
          replace R_4 := Lib.hid (R_4.out.grow hg)
          replace G := Lib.hid (G.out.trans hg)
          replace S_B := S_B.grow hg
          replace S_C := S_C.grow hg
          clear hg
          have hS : y104.cell? ⟨B, 0, none⟩ = some (.slice p0 n0 c0) ∧ True := ⟨k_l, trivial⟩
          refine hK.out _ _ (fun _ => hS) ?_
          clear hK K
          (try simp only [Act.put, List.getElem_toArray, List.getElem_cons_zero, List.getElem_cons_succ, List.setIfInBounds_toArray, List.set_cons_zero, List.set_cons_succ])
          refine Kr.takeP (i := 4) (v := ?_) rfl (by kernel_rfl) (by kernel_rfl) (by kernel_rfl) rfl (fun _ _ _ h => h) (fun wx => ?_) (by rfl) (fun _ => hS) ?_
          rotate_left
          · (go_simp; first | done | rfl)
          (try simp only [Act.put, List.getElem_toArray, List.getElem_cons_zero, List.getElem_cons_succ, List.setIfInBounds_toArray, List.set_cons_zero, List.set_cons_succ])
          refine Kr.takeP (i := 5) (v := ?_) rfl (by kernel_rfl) (by kernel_rfl) (by kernel_rfl) rfl (fun _ _ _ h => h) (fun wx => ?_) (by rfl) (fun _ => hS) ?_
          rotate_left
          · (go_simp; first | done | rfl)
          (try simp only [Act.put, List.getElem_toArray, List.getElem_cons_zero, List.getElem_cons_succ, List.setIfInBounds_toArray, List.set_cons_zero, List.set_cons_succ])
          clear hS
          refine Kr.doneL (by kernel_rfl) ?_ _
          have k_s := S_B.c2
          have k_f := S_B.c1
          cases s0 with
          | true =>
            go_wp2_with fail
            refine (mminus_v R_m.out R_1.out (lt64 HY.out) (lt64 (Nat.lt_of_le_of_lt HLE.out HY.out)) HLE.out).mono ?_
            rintro e y105 ⟨p5, n5, c5, rfl, hr, hg⟩
            have A_5B := Lib.hid (av_nr (b := B) hr S_B.lt)
            have A_5C := Lib.hid (av_nr (b := C) hr S_C.lt)
            have A_5R := Lib.hid (av_nr (b := w.heap.size + 1 + 1) hr (World.block_lt_of_cell? _ _ k_r))
            have R_5 := Lib.hid hr.toNw
            clear hr
            replace k_m := hg.cell k_m
            replace f_r := hg.frozen k_r f_r
            replace k_r := hg.cell k_r
            replace k_l := hg.cell k_l
            replace k_s := hg.cell k_s
            replace k_f := hg.cell k_f
            replace R_m := Lib.hid (R_m.out.grow hg)
            replace R_0 := Lib.hid (R_0.out.grow hg)
            replace R_1 := Lib.hid (R_1.out.grow hg)
            replace R_2 := Lib.hid (R_2.out.grow hg)
            replace R_3 := Lib.hid (R_3.out.grow hg)
            replace R_4 := Lib.hid (R_4.out.grow hg)
            replace G := Lib.hid (G.out.trans hg)
            replace S_B := S_B.grow hg
            replace S_C := S_C.grow hg
            clear hg
            go_wp2
            refine bodyPost_ret (v := .tuple #[.agg #[.slice p5 n5 c5], .bool true]) (by simp [results, Try.results88, go_sem, k_r]) rfl ⟨p5, n5, c5, _, ?_, ?_, ?_, nw_put (a := ⟨w.heap.size + 1 + 1, 0, none⟩) R_5.out A_5R.out _, G.out.setCell (by dsimp only; omega) _⟩
            · rw [HD.out]
            · exact fun _ => HI.out
            · exact fun h => absurd HG1.out h
          | false =>
            go_wp2
            refine bodyPost_ret (v := .tuple #[.agg #[.slice p1 n1 c1], .bool true]) (by simp [results, Try.results88, go_sem, k_r]) rfl ⟨p1, n1, c1, _, ?_, ?_, ?_, nw_put (a := ⟨w.heap.size + 1 + 1, 0, none⟩) R_1.out A_1R.out _, G.out.setCell (by dsimp only; omega) _⟩
            · rw [HD.out]
            · exact fun _ => HI.out
            · exact fun h => absurd HG1.out h
        · have HG1 : Hid (Nat.gcd x y ≠ 1) := Lib.hid (by rw [← HGC.out]; exact h1)
          have HD : Hid (decide (Nat.gcd x y = 1) = false) := Lib.hid (decide_eq_false HG1.out)
          have HO2 : Hid (ord r0 1 = -1 ∨ ord r0 1 = 1) := Lib.hid ((Nat.lt_or_gt_of_ne h1).imp ord_lt ord_gt)
          clear h1 HE HGC
          rcases HO2.out with HO1 | HO1
          · have HO := Lib.hid HO1
            clear HO1
            refine Kr.startL (fun W' => W'.cell? ⟨B, 0, none⟩ = some (.slice p0 n0 c0) ∧ True) [] (by kernel_rfl) ?_
            have gd : Gr y101 y101.drew := (Gr.refl _).drew
            generalize y101.drew = d106 at gd ⊢
            replace k_m := gd.cell k_m
            replace f_r := gd.frozen k_r f_r
            replace k_r := gd.cell k_r
            replace k_l := gd.cell k_l
            replace R_m := Lib.hid (R_m.out.grow gd)
            replace R_0 := Lib.hid (R_0.out.grow gd)
            replace R_1 := Lib.hid (R_1.out.grow gd)
            replace R_2 := Lib.hid (R_2.out.grow gd)
            replace R_3 := Lib.hid (R_3.out.grow gd)
            replace G := Lib.hid (G.out.trans gd)
            replace S_B := S_B.grow gd
            replace S_C := S_C.grow gd
            clear gd
            have hS : d106.cell? ⟨B, 0, none⟩ = some (.slice p0 n0 c0) ∧ True := ⟨k_l, trivial⟩
            refine Kr.takeP (i := 0) (v := ?_) rfl (by kernel_rfl) (by kernel_rfl) (by kernel_rfl) rfl (fun _ _ _ h => h) (fun wx => ?_) (by rfl) (fun _ => hS) ?_
            rotate_left
            · (go_simp; first | done | rfl)
            (try simp only [Act.put, List.getElem_toArray, List.getElem_cons_zero, List.getElem_cons_succ, List.setIfInBounds_toArray, List.set_cons_zero, List.set_cons_succ])
            refine Kr.takeS (i := 1) (v := ?_) [3, 4, 5] rfl (by kernel_rfl) (by kernel_rfl) (by kernel_rfl) rfl (by kernel_rfl) (by kernel_rfl) (by kernel_rfl) (fun _ _ _ h => h) (fun wx hSx => ?_) (by rfl) hS ?_
            rotate_left
            · (go_simp; first | done | rfl)
            (try simp only [Act.put, List.getElem_toArray, List.getElem_cons_zero, List.getElem_cons_succ, List.setIfInBounds_toArray, List.set_cons_zero, List.set_cons_succ])
            refine Kr.readyL (rs := [2]) (by kernel_rfl) (by simp) ?_
            refine Kr.AllL.cons rfl (fun K hK => ?_) Kr.AllL.nil
            clear hS
            go_simp
            go_at_call 81
            refine (one_v _).mono ?_
            rintro e y107 ⟨p4, n4, c4, rfl, hr, hg⟩
            have A_4B := Lib.hid (av_nr (b := B) hr S_B.lt)
            have A_4C := Lib.hid (av_nr (b := C) hr S_C.lt)
            have A_4R := Lib.hid (av_nr (b := w.heap.size + 1 + 1) hr (World.block_lt_of_cell? _ _ k_r))
            have R_4 := Lib.hid hr.toNw
            clear hr
            replace k_m := hg.cell k_m
            replace f_r := hg.frozen k_r f_r
            replace k_r := hg.cell k_r
            replace k_l := hg.cell k_l
            replace R_m := Lib.hid (R_m.out.grow hg)
            replace R_0 := Lib.hid (R_0.out.grow hg)
            replace R_1 := Lib.hid (R_1.out.grow hg)
            replace R_2 := Lib.hid (R_2.out.grow hg)
            replace R_3 := Lib.hid (R_3.out.grow hg)
            replace G := Lib.hid (G.out.trans hg)
            replace S_B := S_B.grow hg
            replace S_C := S_C.grow hg
            clear hg
            have hS : y107.cell? ⟨B, 0, none⟩ = some (.slice p0 n0 c0) ∧ True := ⟨k_l, trivial⟩
            refine hK.out _ _ (fun _ => hS) ?_
            clear hK K
            (try simp only [Act.put, List.getElem_toArray, List.getElem_cons_zero, List.getElem_cons_succ, List.setIfInBounds_toArray, List.set_cons_zero, List.set_cons_succ])
            refine Kr.readyL (rs := [3]) (by kernel_rfl) (by simp) ?_
            refine Kr.AllL.cons rfl (fun K hK => ?_) Kr.AllL.nil
            clear hS
            go_simp
            go_at_call 93
            refine (Compare_v R_0.out R_4.out (lt64 HR0.out) (by first | exact Nat.lt_of_lt_of_le (by decide) (pw_mono (show 1 ≤ 64 by decide)))).mono ?_
            rintro e y108 ⟨rfl, hg⟩
            rw [HO.out]
            replace k_m := hg.cell k_m
            replace f_r := hg.frozen k_r f_r
            replace k_r := hg.cell k_r
            replace k_l := hg.cell k_l
            replace R_m := Lib.hid (R_m.out.grow hg)
            replace R_0 := Lib.hid (R_0.out.grow hg)
            replace R_1 := Lib.hid (R_1.out.grow hg)
            replace R_2 := Lib.hid (R_2.out.grow hg)
            replace R_3 := Lib.hid (R_3.out.grow hg)
            replace R_4 := Lib.hid (R_4.out.grow hg)
            replace G := Lib.hid (G.out.trans hg)
            replace S_B := S_B.grow hg
            replace S_C := S_C.grow hg
            clear hg
            have hS : y108.cell? ⟨B, 0, none⟩ = some (.slice p0 n0 c0) ∧ True := ⟨k_l, trivial⟩
            refine hK.out _ _ (fun _ => hS) ?_
            clear hK K
            (try simp only [Act.put, List.getElem_toArray, List.getElem_cons_zero, List.getElem_cons_succ, List.setIfInBounds_toArray, List.set_cons_zero, List.set_cons_succ])
            refine Kr.takeP (i := 4) (v := ?_) rfl (by kernel_rfl) (by kernel_rfl) (by kernel_rfl) rfl (fun _ _ _ h => h) (fun wx => ?_) (by rfl) (fun _ => hS) ?_
            rotate_left
            · (go_simp; first | done | rfl)
            (try simp only [Act.put, List.getElem_toArray, List.getElem_cons_zero, List.getElem_cons_succ, List.setIfInBounds_toArray, List.set_cons_zero, List.set_cons_succ])
            refine Kr.takeP (i := 5) (v := ?_) rfl (by kernel_rfl) (by kernel_rfl) (by kernel_rfl) rfl (fun _ _ _ h => h) (fun wx => ?_) (by rfl) (fun _ => hS) ?_
            rotate_left
            · (go_simp; first | done | rfl)
            (try simp only [Act.put, List.getElem_toArray, List.getElem_cons_zero, List.getElem_cons_succ, List.setIfInBounds_toArray, List.set_cons_zero, List.set_cons_succ])
            clear hS
            refine Kr.doneL (by kernel_rfl) ?_ _
            go_wp2
            refine bodyPost_ret (v := .tuple #[.agg #[.slice none 0 0], .bool false]) (by simp [results, Try.results88, go_sem, k_r]) rfl ⟨none, 0, 0, 0, ?_, ?_, ?_, (nr_nil 0 _).toNw, G.out.setCell (by dsimp only; omega) _⟩
            · rw [HD.out]
            · exact fun h => absurd h HG1.out
            · exact fun _ => rfl
          · have HO := Lib.hid HO1
            clear HO1
            refine Kr.startL (fun W' => W'.cell? ⟨B, 0, none⟩ = some (.slice p0 n0 c0) ∧ True) [] (by kernel_rfl) ?_
            have gd : Gr y101 y101.drew := (Gr.refl _).drew
            generalize y101.drew = d109 at gd ⊢
            replace k_m := gd.cell k_m
            replace f_r := gd.frozen k_r f_r
            replace k_r := gd.cell k_r
            replace k_l := gd.cell k_l
            replace R_m := Lib.hid (R_m.out.grow gd)
            replace R_0 := Lib.hid (R_0.out.grow gd)
            replace R_1 := Lib.hid (R_1.out.grow gd)
            replace R_2 := Lib.hid (R_2.out.grow gd)
            replace R_3 := Lib.hid (R_3.out.grow gd)
            replace G := Lib.hid (G.out.trans gd)
            replace S_B := S_B.grow gd
            replace S_C := S_C.grow gd
            clear gd
            have hS : d109.cell? ⟨B, 0, none⟩ = some (.slice p0 n0 c0) ∧ True := ⟨k_l, trivial⟩
            refine Kr.takeP (i := 0) (v := ?_) rfl (by kernel_rfl) (by kernel_rfl) (by kernel_rfl) rfl (fun _ _ _ h => h) (fun wx => ?_) (by rfl) (fun _ => hS) ?_
            rotate_left
            · (go_simp; first | done | rfl)
            (try simp only [Act.put, List.getElem_toArray, List.getElem_cons_zero, List.getElem_cons_succ, List.setIfInBounds_toArray, List.set_cons_zero, List.set_cons_succ])
            refine Kr.takeS (i := 1) (v := ?_) [3, 4, 5] rfl (by kernel_rfl) (by kernel_rfl) (by kernel_rfl) rfl (by kernel_rfl) (by kernel_rfl) (by kernel_rfl) (fun _ _ _ h => h) (fun wx hSx => ?_) (by rfl) hS ?_
            rotate_left
            · (go_simp; first | done | rfl)
            (try simp only [Act.put, List.getElem_toArray, List.getElem_cons_zero, List.getElem_cons_succ, List.setIfInBounds_toArray, List.set_cons_zero, List.set_cons_succ])
            refine Kr.readyL (rs := [2]) (by kernel_rfl) (by simp) ?_
            refine Kr.AllL.cons rfl (fun K hK => ?_) Kr.AllL.nil
            clear hS
            go_simp
            go_at_call 81
            refine (one_v _).mono ?_
            rintro e y110 ⟨p4, n4, c4, rfl, hr, hg⟩
            have A_4B := Lib.hid (av_nr (b := B) hr S_B.lt)
            have A_4C := Lib.hid (av_nr (b := C) hr S_C.lt)
            have A_4R := Lib.hid (av_nr (b := w.heap.size + 1 + 1) hr (World.block_lt_of_cell? _ _ k_r))
            have R_4 := Lib.hid hr.toNw
            clear hr
            replace k_m := hg.cell k_m
            replace f_r := hg.frozen k_r f_r
            replace k_r := hg.cell k_r
            replace k_l := hg.cell k_l
            replace R_m := Lib.hid (R_m.out.grow hg)
            replace R_0 := Lib.hid (R_0.out.grow hg)
            replace R_1 := Lib.hid (R_1.out.grow hg)
            replace R_2 := Lib.hid (R_2.out.grow hg)
            replace R_3 := Lib.hid (R_3.out.grow hg)
            replace G := Lib.hid (G.out.trans hg)
            replace S_B := S_B.grow hg
            replace S_C := S_C.grow hg
            clear hg
            have hS : y110.cell? ⟨B, 0, none⟩ = some (.slice p0 n0 c0) ∧ True := ⟨k_l, trivial⟩
            refine hK.out _ _ (fun _ => hS) ?_
            clear hK K
            (try simp only [Act.put, List.getElem_toArray, List.getElem_cons_zero, List.getElem_cons_succ, List.setIfInBounds_toArray, List.set_cons_zero, List.set_cons_succ])
            refine Kr.readyL (rs := [3]) (by kernel_rfl) (by simp) ?_
            refine Kr.AllL.cons rfl (fun K hK => ?_) Kr.AllL.nil
            clear hS
            go_simp
            go_at_call 93
            refine (Compare_v R_0.out R_4.out (lt64 HR0.out) (by first | exact Nat.lt_of_lt_of_le (by decide) (pw_mono (show 1 ≤ 64 by decide)))).mono ?_
            rintro e y111 ⟨rfl, hg⟩
            rw [HO.out]
            replace k_m := hg.cell k_m
            replace f_r := hg.frozen k_r f_r
            replace k_r := hg.cell k_r
            replace k_l := hg.cell k_l
            replace R_m := Lib.hid (R_m.out.grow hg)
            replace R_0 := Lib.hid (R_0.out.grow hg)
            replace R_1 := Lib.hid (R_1.out.grow hg)
            replace R_2 := Lib.hid (R_2.out.grow hg)
            replace R_3 := Lib.hid (R_3.out.grow hg)
            replace R_4 := Lib.hid (R_4.out.grow hg)
            replace G := Lib.hid (G.out.trans hg)
            replace S_B := S_B.grow hg
            replace S_C := S_C.grow hg
            clear hg
            have hS : y111.cell? ⟨B, 0, none⟩ = some (.slice p0 n0 c0) ∧ True := ⟨k_l, trivial⟩
            refine hK.out _ _ (fun _ => hS) ?_
            clear hK K
            (try simp only [Act.put, List.getElem_toArray, List.getElem_cons_zero, List.getElem_cons_succ, List.setIfInBounds_toArray, List.set_cons_zero, List.set_cons_succ])
            refine Kr.takeP (i := 4) (v := ?_) rfl (by kernel_rfl) (by kernel_rfl) (by kernel_rfl) rfl (fun _ _ _ h => h) (fun wx => ?_) (by rfl) (fun _ => hS) ?_
            rotate_left
            · (go_simp; first | done | rfl)
            (try simp only [Act.put, List.getElem_toArray, List.getElem_cons_zero, List.getElem_cons_succ, List.setIfInBounds_toArray, List.set_cons_zero, List.set_cons_succ])
            refine Kr.takeP (i := 5) (v := ?_) rfl (by kernel_rfl) (by kernel_rfl) (by kernel_rfl) rfl (fun _ _ _ h => h) (fun wx => ?_) (by rfl) (fun _ => hS) ?_
            rotate_left
            · (go_simp; first | done | rfl)
            (try simp only [Act.put, List.getElem_toArray, List.getElem_cons_zero, List.getElem_cons_succ, List.setIfInBounds_toArray, List.set_cons_zero, List.set_cons_succ])
            clear hS
            refine Kr.doneL (by kernel_rfl) ?_ _
            go_wp2
            refine bodyPost_ret (v := .tuple #[.agg #[.slice none 0 0], .bool false]) (by simp [results, Try.results88, go_sem, k_r]) rfl ⟨none, 0, 0, 0, ?_, ?_, ?_, (nr_nil 0 _).toNw, G.out.setCell (by dsimp only; omega) _⟩
            · rw [HD.out]
            · exact fun h => absurd h HG1.out
            · exact fun _ => rfl
      · have h0 : decide (r1 = 0) = false := decide_eq_false h
        rw [h0]
        have HP := Lib.hid (Nat.pos_of_ne_zero h)
        clear h h0
        have HF := Lib.hid (HE.out.fits HP.out)
        have HR0 := Lib.hid (Nat.lt_of_le_of_lt HE.out.small HY.out)
        have HR1 := Lib.hid (Nat.lt_trans HE.out.lt HR0.out)
        have k_l := S_B.c0
        go_wp2_with fail
        refine (Div_v HP.out R_0.out R_2.out (lt64 HR0.out) (lt64 HR1.out)).mono ?_
        rintro e y112 ⟨pq, pr, nq, cq, nr, cr, rfl, hr, hr2, hg⟩
        have A_dB := Lib.hid (av_nr (b := B) hr2 S_B.lt)
        have A_dC := Lib.hid (av_nr (b := C) hr2 S_C.lt)
        have A_dR := Lib.hid (av_nr (b := w.heap.size + 1 + 1) hr2 (World.block_lt_of_cell? _ _ k_r))
        have R_d := Lib.hid hr2.toNw
        clear hr2
        have A_qB := Lib.hid (av_nr (b := B) hr S_B.lt)
        have A_qC := Lib.hid (av_nr (b := C) hr S_C.lt)
        have A_qR := Lib.hid (av_nr (b := w.heap.size + 1 + 1) hr (World.block_lt_of_cell? _ _ k_r))
        have R_q := Lib.hid hr.toNw
        clear hr
        replace k_m := hg.cell k_m
        replace f_r := hg.frozen k_r f_r
        replace k_r := hg.cell k_r
        replace k_n := hg.cell k_n
        replace k_l := hg.cell k_l
        replace R_m := Lib.hid (R_m.out.grow hg)
        replace R_0 := Lib.hid (R_0.out.grow hg)
        replace R_1 := Lib.hid (R_1.out.grow hg)
        replace R_2 := Lib.hid (R_2.out.grow hg)
        replace R_3 := Lib.hid (R_3.out.grow hg)
        replace G := Lib.hid (G.out.trans hg)
        replace S_B := S_B.grow hg
        replace S_C := S_C.grow hg
        clear hg
        clear k_l
        clear k_n
        have hg : Gr y112 ((y112.alloc (.cells #[.slice pq nq cq] 24)).alloc (.cells #[.slice pr nr cr] 24)) := ((Gr.refl _).alloc _).alloc _
        have k_q : ((y112.alloc (.cells #[.slice pq nq cq] 24)).alloc (.cells #[.slice pr nr cr] 24)).cell? ⟨y112.heap.size, 0, none⟩ = some (.slice pq nq cq) := by simp [go_sem]
        have k_d : ((y112.alloc (.cells #[.slice pq nq cq] 24)).alloc (.cells #[.slice pr nr cr] 24)).cell? ⟨y112.heap.size + 1, 0, none⟩ = some (.slice pr nr cr) := by simp [go_sem]
        have NQ_B : y112.heap.size ≠ B := Nat.ne_of_gt S_B.lt
        have ND_B : y112.heap.size + 1 ≠ B := Nat.ne_of_gt (Nat.lt_succ_of_lt S_B.lt)
        have NC_qB := Lib.hid NQ_B
        have NC_dB := Lib.hid ND_B
        clear NQ_B ND_B
        have NQ_C : y112.heap.size ≠ C := Nat.ne_of_gt S_C.lt
        have ND_C : y112.heap.size + 1 ≠ C := Nat.ne_of_gt (Nat.lt_succ_of_lt S_C.lt)
        have NC_qC := Lib.hid NQ_C
        have NC_dC := Lib.hid ND_C
        clear NQ_C ND_C
        go_upto_region 4 with fail
        generalize ((y112.alloc (.cells #[.slice pq nq cq] 24)).alloc (.cells #[.slice pr nr cr] 24)) = y113 at hg k_q k_d ⊢
        obtain ⟨Bq, hBq⟩ : ∃ b, y112.heap.size = b := ⟨_, rfl⟩
        rw [hBq] at k_q k_d NC_qB NC_qC NC_dB NC_dC ⊢
        clear hBq
        replace k_m := hg.cell k_m
        replace f_r := hg.frozen k_r f_r
        replace k_r := hg.cell k_r
        replace R_m := Lib.hid (R_m.out.grow hg)
        replace R_0 := Lib.hid (R_0.out.grow hg)
        replace R_1 := Lib.hid (R_1.out.grow hg)
        replace R_2 := Lib.hid (R_2.out.grow hg)
        replace R_3 := Lib.hid (R_3.out.grow hg)
        replace R_q := Lib.hid (R_q.out.grow hg)
        replace R_d := Lib.hid (R_d.out.grow hg)
        replace G := Lib.hid (G.out.trans hg)
        replace S_B := S_B.grow hg
        replace S_C := S_C.grow hg
        clear hg
        have k_x := S_B.c1
        have k_z := S_C.c1
        have G0 := Lib.hid (Gr.refl y113)
        refine Kr.startL (fun W' => W'.cell? ⟨Bq, 0, none⟩ = some (.slice pq nq cq) ∧ W'.cell? ⟨B, 1, none⟩ = some (.slice p1 n1 c1) ∧ W'.cell? ⟨C, 1, none⟩ = some (.slice p3 n3 c3) ∧ True) [] (by kernel_rfl) ?_
        have gd : Gr y113 y113.drew := (Gr.refl _).drew
        generalize y113.drew = d114 at gd ⊢
        replace k_m := gd.cell k_m
        replace f_r := gd.frozen k_r f_r
        replace k_r := gd.cell k_r
        replace k_q := gd.cell k_q
        replace k_d := gd.cell k_d
        replace k_x := gd.cell k_x
        replace k_z := gd.cell k_z
        replace R_m := Lib.hid (R_m.out.grow gd)
        replace R_0 := Lib.hid (R_0.out.grow gd)
        replace R_1 := Lib.hid (R_1.out.grow gd)
        replace R_2 := Lib.hid (R_2.out.grow gd)
        replace R_3 := Lib.hid (R_3.out.grow gd)
        replace R_q := Lib.hid (R_q.out.grow gd)
        replace R_d := Lib.hid (R_d.out.grow gd)
        replace G := Lib.hid (G.out.trans gd)
        replace G0 := Lib.hid (G0.out.trans gd)
        replace S_B := S_B.grow gd
        replace S_C := S_C.grow gd
        clear gd
        have hS : d114.cell? ⟨Bq, 0, none⟩ = some (.slice pq nq cq) ∧ d114.cell? ⟨B, 1, none⟩ = some (.slice p1 n1 c1) ∧ d114.cell? ⟨C, 1, none⟩ = some (.slice p3 n3 c3) ∧ True := ⟨k_q, k_x, k_z, trivial⟩
        refine Kr.takeP (i := 0) (v := ?_) rfl (by kernel_rfl) (by kernel_rfl) (by kernel_rfl) rfl (fun _ _ _ h => h) (fun wx => ?_) (by rfl) (fun _ => hS) ?_
        rotate_left
        · (go_simp; first | done | rfl)
        (try simp only [Act.put, List.getElem_toArray, List.getElem_cons_zero, List.getElem_cons_succ, List.setIfInBounds_toArray, List.set_cons_zero, List.set_cons_succ])
        refine Kr.takeS (i := 1) (v := ?_) [6, 8] rfl (by kernel_rfl) (by kernel_rfl) (by kernel_rfl) rfl (by kernel_rfl) (by kernel_rfl) (by kernel_rfl) (fun _ _ _ h => h) (fun wx hSx => ?_) (by rfl) hS ?_
        rotate_left
        · (go_simp; first | done | rfl)
        (try simp only [Act.put, List.getElem_toArray, List.getElem_cons_zero, List.getElem_cons_succ, List.setIfInBounds_toArray, List.set_cons_zero, List.set_cons_succ])
        refine Kr.takeS (i := 2) (v := ?_) [5, 6, 8] rfl (by kernel_rfl) (by kernel_rfl) (by kernel_rfl) rfl (by kernel_rfl) (by kernel_rfl) (by kernel_rfl) (fun _ _ _ h => h) (fun wx hSx => ?_) (by rfl) hS ?_
        rotate_left
        · (go_simp; first | done | rfl)
        (try simp only [Act.put, List.getElem_toArray, List.getElem_cons_zero, List.getElem_cons_succ, List.setIfInBounds_toArray, List.set_cons_zero, List.set_cons_succ])
        refine Kr.takeP (i := 3) (v := ?_) rfl (by kernel_rfl) (by kernel_rfl) (by kernel_rfl) rfl (fun _ _ _ h => h) (fun wx => ?_) (by rfl) (fun _ => hS) ?_
        rotate_left
        · (go_simp; first | done | rfl)
        (try simp only [Act.put, List.getElem_toArray, List.getElem_cons_zero, List.getElem_cons_succ, List.setIfInBounds_toArray, List.set_cons_zero, List.set_cons_succ])
        refine Kr.takeS (i := 4) (v := ?_) [5, 6, 8] rfl (by kernel_rfl) (by kernel_rfl) (by kernel_rfl) rfl (by kernel_rfl) (by kernel_rfl) (by kernel_rfl) (fun _ _ _ h => h) (fun wx hSx => ?_) (by rfl) hS ?_
        rotate_left
        · (go_simp; first | done | rfl)
        (try simp only [Act.put, List.getElem_toArray, List.getElem_cons_zero, List.getElem_cons_succ, List.setIfInBounds_toArray, List.set_cons_zero, List.set_cons_succ])
        refine Kr.readyL (rs := [5, 7]) (by kernel_rfl) (by simp) ?_
        refine Kr.AllL.cons rfl (fun K hK => ?_) ?_
        · clear hS
          go_simp
          go_at_call 79
          refine (mtimes_v R_q.out R_3.out (lt64 (Nat.lt_of_le_of_lt (Nat.div_le_self r0 r1) HR0.out)) (lt64 (Nat.lt_of_le_of_lt HF.out.1 HY.out)) (lt64 (Nat.lt_of_le_of_lt HF.out.2.1 HY.out))).mono ?_
          rintro e y115 ⟨p6, n6, c6, rfl, hr, hg⟩
          have A_6B := Lib.hid (av_nr (b := B) hr S_B.lt)
          have A_6C := Lib.hid (av_nr (b := C) hr S_C.lt)
          have A_6R := Lib.hid (av_nr (b := w.heap.size + 1 + 1) hr (World.block_lt_of_cell? _ _ k_r))
          have R_6 := Lib.hid hr.toNw
          clear hr
          replace k_m := hg.cell k_m
          replace f_r := hg.frozen k_r f_r
          replace k_r := hg.cell k_r
          replace k_q := hg.cell k_q
          replace k_d := hg.cell k_d
          replace k_x := hg.cell k_x
          replace k_z := hg.cell k_z
          replace R_m := Lib.hid (R_m.out.grow hg)
          replace R_0 := Lib.hid (R_0.out.grow hg)
          replace R_1 := Lib.hid (R_1.out.grow hg)
          replace R_2 := Lib.hid (R_2.out.grow hg)
          replace R_3 := Lib.hid (R_3.out.grow hg)
          replace R_q := Lib.hid (R_q.out.grow hg)
          replace R_d := Lib.hid (R_d.out.grow hg)
          replace G := Lib.hid (G.out.trans hg)
          replace G0 := Lib.hid (G0.out.trans hg)
          replace S_B := S_B.grow hg
          replace S_C := S_C.grow hg
          clear hg
          have hS : y115.cell? ⟨Bq, 0, none⟩ = some (.slice pq nq cq) ∧ y115.cell? ⟨B, 1, none⟩ = some (.slice p1 n1 c1) ∧ y115.cell? ⟨C, 1, none⟩ = some (.slice p3 n3 c3) ∧ True := ⟨k_q, k_x, k_z, trivial⟩
          refine hK.out _ _ (fun _ => hS) ?_
          clear hK K
          (try simp only [Act.put, List.getElem_toArray, List.getElem_cons_zero, List.getElem_cons_succ, List.setIfInBounds_toArray, List.set_cons_zero, List.set_cons_succ])
          refine Kr.readyL (rs := [6, 7]) (by kernel_rfl) (by simp) ?_
          refine Kr.AllL.cons rfl (fun K hK => ?_) ?_
          · clear hS
            go_simp
            go_at_call 72
            refine (mplus_v R_1.out R_6.out (lt64 (Nat.lt_of_le_of_lt HE.out.le0 HY.out)) (lt64 (Nat.lt_of_le_of_lt HF.out.2.1 HY.out)) (lt64 (Nat.lt_of_le_of_lt HF.out.2.2 HY.out))).mono ?_
            rintro e y116 ⟨p7, n7, c7, rfl, hr, hg⟩
            have A_7B := Lib.hid (av_nr (b := B) hr S_B.lt)
            have A_7C := Lib.hid (av_nr (b := C) hr S_C.lt)
            have A_7R := Lib.hid (av_nr (b := w.heap.size + 1 + 1) hr (World.block_lt_of_cell? _ _ k_r))
            have R_7 := Lib.hid hr.toNw
            clear hr
            replace k_m := hg.cell k_m
            replace f_r := hg.frozen k_r f_r
            replace k_r := hg.cell k_r
            replace k_q := hg.cell k_q
            replace k_d := hg.cell k_d
            replace k_x := hg.cell k_x
            replace k_z := hg.cell k_z
            replace R_m := Lib.hid (R_m.out.grow hg)
            replace R_0 := Lib.hid (R_0.out.grow hg)
            replace R_1 := Lib.hid (R_1.out.grow hg)
            replace R_2 := Lib.hid (R_2.out.grow hg)
            replace R_3 := Lib.hid (R_3.out.grow hg)
            replace R_q := Lib.hid (R_q.out.grow hg)
            replace R_d := Lib.hid (R_d.out.grow hg)
            replace R_6 := Lib.hid (R_6.out.grow hg)
            replace G := Lib.hid (G.out.trans hg)
            replace G0 := Lib.hid (G0.out.trans hg)
            replace S_B := S_B.grow hg
            replace S_C := S_C.grow hg
            clear hg
            have hS : y116.cell? ⟨Bq, 0, none⟩ = some (.slice pq nq cq) ∧ y116.cell? ⟨B, 1, none⟩ = some (.slice p1 n1 c1) ∧ y116.cell? ⟨C, 1, none⟩ = some (.slice p3 n3 c3) ∧ True := ⟨k_q, k_x, k_z, trivial⟩
            refine hK.out _ _ (fun _ => hS) ?_
            clear hK K
            (try simp only [Act.put, List.getElem_toArray, List.getElem_cons_zero, List.getElem_cons_succ, List.setIfInBounds_toArray, List.set_cons_zero, List.set_cons_succ])
            refine Kr.readyL (rs := [7]) (by kernel_rfl) (by simp) ?_
            refine Kr.AllL.cons rfl (fun K hK => ?_) Kr.AllL.nil
            clear hS
            go_simp
            obtain ⟨y118, hy⟩ : ∃ y, y116.alloc (.cells #[.slice none 0 0] 24) = y := ⟨_, rfl⟩
            obtain ⟨F, hF⟩ : ∃ B, y116.heap.size = B := ⟨_, rfl⟩
            rw [hy, hF]
            have hg : Gr y116 y118 := by rw [← hy]; exact (Gr.refl _).alloc _
            have L_F : Hid (w.heap.size + 3 ≤ F ∧ y113.heap.size ≤ F) := Lib.hid ⟨by have := World.block_lt_of_cell? _ _ k_r; dsimp only at this; omega, hF ▸ G0.out.le⟩
            have N_BF : Hid (B ≠ F) := Lib.hid (Nat.ne_of_lt (show B < F from hF ▸ S_B.lt))
            have N_CF : Hid (C ≠ F) := Lib.hid (Nat.ne_of_lt (show C < F from hF ▸ S_C.lt))
            have A_mF := Lib.hid (av_new (b := F) R_m.out (Nat.le_of_eq hF))
            have A_0F := Lib.hid (av_new (b := F) R_0.out (Nat.le_of_eq hF))
            have A_1F := Lib.hid (av_new (b := F) R_1.out (Nat.le_of_eq hF))
            have A_2F := Lib.hid (av_new (b := F) R_2.out (Nat.le_of_eq hF))
            have A_3F := Lib.hid (av_new (b := F) R_3.out (Nat.le_of_eq hF))
            have A_qF := Lib.hid (av_new (b := F) R_q.out (Nat.le_of_eq hF))
            have A_dF := Lib.hid (av_new (b := F) R_d.out (Nat.le_of_eq hF))
            have A_6F := Lib.hid (av_new (b := F) R_6.out (Nat.le_of_eq hF))
            have A_7F := Lib.hid (av_new (b := F) R_7.out (Nat.le_of_eq hF))
            have NC_mF : Hid (w.heap.size + 1 ≠ F) := Lib.hid (Nat.ne_of_lt (hF ▸ World.block_lt_of_cell? _ _ k_m : w.heap.size + 1 < F))
            have NC_rF : Hid (w.heap.size + 1 + 1 ≠ F) := Lib.hid (Nat.ne_of_lt (hF ▸ World.block_lt_of_cell? _ _ k_r : w.heap.size + 1 + 1 < F))
            have NC_qF : Hid (Bq ≠ F) := Lib.hid (Nat.ne_of_lt (hF ▸ World.block_lt_of_cell? _ _ k_q : Bq < F))
            have NC_dF : Hid (Bq + 1 ≠ F) := Lib.hid (Nat.ne_of_lt (hF ▸ World.block_lt_of_cell? _ _ k_d : Bq + 1 < F))
            have NC_xF : Hid (B ≠ F) := Lib.hid (Nat.ne_of_lt (hF ▸ World.block_lt_of_cell? _ _ k_x : B < F))
            have NC_zF : Hid (C ≠ F) := Lib.hid (Nat.ne_of_lt (hF ▸ World.block_lt_of_cell? _ _ k_z : C < F))
            replace k_m := hg.cell k_m
            replace f_r := hg.frozen k_r f_r
            replace k_r := hg.cell k_r
            replace k_q := hg.cell k_q
            replace k_d := hg.cell k_d
            replace k_x := hg.cell k_x
            replace k_z := hg.cell k_z
            replace R_m := Lib.hid (R_m.out.grow hg)
            replace R_0 := Lib.hid (R_0.out.grow hg)
            replace R_1 := Lib.hid (R_1.out.grow hg)
            replace R_2 := Lib.hid (R_2.out.grow hg)
            replace R_3 := Lib.hid (R_3.out.grow hg)
            replace R_q := Lib.hid (R_q.out.grow hg)
            replace R_d := Lib.hid (R_d.out.grow hg)
            replace R_6 := Lib.hid (R_6.out.grow hg)
            replace R_7 := Lib.hid (R_7.out.grow hg)
            replace G := Lib.hid (G.out.trans hg)
            replace G0 := Lib.hid (G0.out.trans hg)
            replace S_B := S_B.grow hg
            replace S_C := S_C.grow hg
            clear hg
            have k_F : y118.cell? ⟨F, 0, none⟩ = some (.slice none 0 0) := by rw [← hy, ← hF]; simp [go_sem]
            have f_F : y118.frozen? ⟨F, 0, none⟩ = false := by rw [← hy, ← hF]; simp [go_sem]
            clear hy hF
            have hS : y118.cell? ⟨Bq, 0, none⟩ = some (.slice pq nq cq) ∧ y118.cell? ⟨B, 1, none⟩ = some (.slice p1 n1 c1) ∧ y118.cell? ⟨C, 1, none⟩ = some (.slice p3 n3 c3) ∧ True := ⟨k_q, k_x, k_z, trivial⟩
            refine hK.out _ _ (fun _ => hS) ?_
            clear hK K
            (try simp only [Act.put, List.getElem_toArray, List.getElem_cons_zero, List.getElem_cons_succ, List.setIfInBounds_toArray, List.set_cons_zero, List.set_cons_succ])
            refine Kr.readyL (rs := [8]) (by kernel_rfl) (by simp) ?_
            refine Kr.AllL.cons rfl (fun K hK => ?_) Kr.AllL.nil
            clear hS
            go_simp
            obtain ⟨y120, hy⟩ : ∃ y, y118.setCell ⟨F, 0, none⟩ (.slice p7 n7 c7) = y := ⟨_, rfl⟩
            rw [hy]
            have ho : Off F y118 y120 := by rw [← hy]; exact (Off.refl _ _).set _ _
            have k2 : y120.cell? ⟨F, 0, none⟩ = some (.slice p7 n7 c7) := by rw [← hy]; exact setCell_at k_F
            have f2 := ho.frz _ f_F
            clear hy k_F f_F
            replace S_B := S_B.off ho N_BF.out
            replace S_C := S_C.off ho N_CF.out
            replace k_m := ho.cell _ _ (show w.heap.size + 1 ≠ F from NC_mF.out) k_m
            replace f_r := ho.frz _ f_r
            replace k_r := ho.cell _ _ (show w.heap.size + 1 + 1 ≠ F from NC_rF.out) k_r
            replace k_q := ho.cell _ _ (show Bq ≠ F from NC_qF.out) k_q
            replace k_d := ho.cell _ _ (show Bq + 1 ≠ F from NC_dF.out) k_d
            replace k_x := ho.cell _ _ (show B ≠ F from NC_xF.out) k_x
            replace k_z := ho.cell _ _ (show C ≠ F from NC_zF.out) k_z
            replace R_m := Lib.hid (ho.nw _ _ _ _ A_mF.out R_m.out)
            replace R_0 := Lib.hid (ho.nw _ _ _ _ A_0F.out R_0.out)
            replace R_1 := Lib.hid (ho.nw _ _ _ _ A_1F.out R_1.out)
            replace R_2 := Lib.hid (ho.nw _ _ _ _ A_2F.out R_2.out)
            replace R_3 := Lib.hid (ho.nw _ _ _ _ A_3F.out R_3.out)
            replace R_q := Lib.hid (ho.nw _ _ _ _ A_qF.out R_q.out)
            replace R_d := Lib.hid (ho.nw _ _ _ _ A_dF.out R_d.out)
            replace R_6 := Lib.hid (ho.nw _ _ _ _ A_6F.out R_6.out)
            replace R_7 := Lib.hid (ho.nw _ _ _ _ A_7F.out R_7.out)
            replace G := Lib.hid (ho.gr _ (by have := L_F.out; have := E0.out; omega) G.out)
            replace G0 := Lib.hid (ho.gr _ (by have := L_F.out; have := E0.out; omega) G0.out)
            clear ho
            have k_F := k2
            have f_F := f2
            clear k2 f2
            have hS : y120.cell? ⟨Bq, 0, none⟩ = some (.slice pq nq cq) ∧ y120.cell? ⟨B, 1, none⟩ = some (.slice p1 n1 c1) ∧ y120.cell? ⟨C, 1, none⟩ = some (.slice p3 n3 c3) ∧ True := ⟨k_q, k_x, k_z, trivial⟩
            refine hK.out _ _ (fun _ => hS) ?_
            clear hK K
            (try simp only [Act.put, List.getElem_toArray, List.getElem_cons_zero, List.getElem_cons_succ, List.setIfInBounds_toArray, List.set_cons_zero, List.set_cons_succ])
            clear hS
            refine Kr.doneL (by kernel_rfl) ?_ _
            clear k_x
            clear k_z
            clear k_q
            clear R_q
            go_upto_region 5 with fail
            have k_n0 := S_C.c0
            have k_n1 := S_C.c1
            have k_n2 := S_C.c2
            have NC_FB := N_BF.out.symm
            have NC_FC := N_CF.out.symm
            replace NC_FB := Lib.hid NC_FB
            replace NC_FC := Lib.hid NC_FC
            clear G0
            refine Kr.startL (fun W' => W'.cell? ⟨C, 0, none⟩ = some (.slice p2 n2 c2) ∧ W'.cell? ⟨C, 1, none⟩ = some (.slice p3 n3 c3) ∧ W'.cell? ⟨C, 2, none⟩ = some (.bool s1) ∧ W'.cell? ⟨Bq + 1, 0, none⟩ = some (.slice pr nr cr) ∧ W'.cell? ⟨F, 0, none⟩ = some (.slice p7 n7 c7) ∧ True) [8] (by kernel_rfl) ?_
            have gd : Gr y120 y120.drew := (Gr.refl _).drew
            generalize y120.drew = d121 at gd ⊢
            replace k_m := gd.cell k_m
            replace f_r := gd.frozen k_r f_r
            replace k_r := gd.cell k_r
            replace k_d := gd.cell k_d
            replace f_F := gd.frozen k_F f_F
            replace k_F := gd.cell k_F
            replace k_n0 := gd.cell k_n0
            replace k_n1 := gd.cell k_n1
            replace k_n2 := gd.cell k_n2
            replace R_m := Lib.hid (R_m.out.grow gd)
            replace R_0 := Lib.hid (R_0.out.grow gd)
            replace R_1 := Lib.hid (R_1.out.grow gd)
            replace R_2 := Lib.hid (R_2.out.grow gd)
            replace R_3 := Lib.hid (R_3.out.grow gd)
            replace R_d := Lib.hid (R_d.out.grow gd)
            replace R_6 := Lib.hid (R_6.out.grow gd)
            replace R_7 := Lib.hid (R_7.out.grow gd)
            replace G := Lib.hid (G.out.trans gd)
            replace S_B := S_B.grow gd
            replace S_C := S_C.grow gd
            clear gd
            have hS : d121.cell? ⟨C, 0, none⟩ = some (.slice p2 n2 c2) ∧ d121.cell? ⟨C, 1, none⟩ = some (.slice p3 n3 c3) ∧ d121.cell? ⟨C, 2, none⟩ = some (.bool s1) ∧ d121.cell? ⟨Bq + 1, 0, none⟩ = some (.slice pr nr cr) ∧ d121.cell? ⟨F, 0, none⟩ = some (.slice p7 n7 c7) ∧ True := ⟨k_n0, k_n1, k_n2, k_d, k_F, trivial⟩
            refine Kr.takeS (i := 0) (v := ?_) [7, 8] rfl (by kernel_rfl) (by kernel_rfl) (by kernel_rfl) rfl (by kernel_rfl) (by kernel_rfl) (by kernel_rfl) (fun _ _ _ h => h) (fun wx hSx => ?_) (by rfl) hS ?_
            rotate_left
            · (go_simp; first | done | rfl)
            (try simp only [Act.put, List.getElem_toArray, List.getElem_cons_zero, List.getElem_cons_succ, List.setIfInBounds_toArray, List.set_cons_zero, List.set_cons_succ])
            refine Kr.takeS (i := 1) (v := ?_) [6, 8] rfl (by kernel_rfl) (by kernel_rfl) (by kernel_rfl) rfl (by kernel_rfl) (by kernel_rfl) (by kernel_rfl) (fun _ _ _ h => h) (fun wx hSx => ?_) (by rfl) hS ?_
            rotate_left
            · (go_simp; first | done | rfl)
            (try simp only [Act.put, List.getElem_toArray, List.getElem_cons_zero, List.getElem_cons_succ, List.setIfInBounds_toArray, List.set_cons_zero, List.set_cons_succ])
            refine Kr.takeS (i := 2) (v := ?_) [6, 8] rfl (by kernel_rfl) (by kernel_rfl) (by kernel_rfl) rfl (by kernel_rfl) (by kernel_rfl) (by kernel_rfl) (fun _ _ _ h => h) (fun wx hSx => ?_) (by rfl) hS ?_
            rotate_left
            · (go_simp; first | done | rfl)
            (try simp only [Act.put, List.getElem_toArray, List.getElem_cons_zero, List.getElem_cons_succ, List.setIfInBounds_toArray, List.set_cons_zero, List.set_cons_succ])
            refine Kr.takeP (i := 3) (v := ?_) rfl (by kernel_rfl) (by kernel_rfl) (by kernel_rfl) rfl (fun _ _ _ h => h) (fun wx => ?_) (by rfl) (fun _ => hS) ?_
            rotate_left
            · (go_simp; first | done | rfl)
            (try simp only [Act.put, List.getElem_toArray, List.getElem_cons_zero, List.getElem_cons_succ, List.setIfInBounds_toArray, List.set_cons_zero, List.set_cons_succ])
            refine Kr.takeS (i := 4) (v := ?_) [5, 6, 8] rfl (by kernel_rfl) (by kernel_rfl) (by kernel_rfl) rfl (by kernel_rfl) (by kernel_rfl) (by kernel_rfl) (fun _ _ _ h => h) (fun wx hSx => ?_) (by rfl) hS ?_
            rotate_left
            · (go_simp; first | done | rfl)
            (try simp only [Act.put, List.getElem_toArray, List.getElem_cons_zero, List.getElem_cons_succ, List.setIfInBounds_toArray, List.set_cons_zero, List.set_cons_succ])
            refine Kr.takeP (i := 5) (v := ?_) rfl (by kernel_rfl) (by kernel_rfl) (by kernel_rfl) rfl (fun _ _ _ h => h) (fun wx => ?_) (by rfl) (fun _ => hS) ?_
            rotate_left
            · (go_simp; first | done | rfl)
            (try simp only [Act.put, List.getElem_toArray, List.getElem_cons_zero, List.getElem_cons_succ, List.setIfInBounds_toArray, List.set_cons_zero, List.set_cons_succ])
            refine Kr.takeP (i := 6) (v := ?_) rfl (by kernel_rfl) (by kernel_rfl) (by kernel_rfl) rfl (fun _ _ _ h => h) (fun wx => ?_) (by rfl) (fun _ => hS) ?_
            rotate_left
            · (go_simp; first | done | rfl)
            (try simp only [Act.put, List.getElem_toArray, List.getElem_cons_zero, List.getElem_cons_succ, List.setIfInBounds_toArray, List.set_cons_zero, List.set_cons_succ])
            refine Kr.readyL (rs := [7]) (by kernel_rfl) (by simp) ?_
            refine Kr.AllL.cons rfl (fun K hK => ?_) Kr.AllL.nil
            clear hS
            go_simp
            have c0 := S_B.c0; have c1 := S_B.c1; have c2 := S_B.c2; have f0 := S_B.f0; have f1 := S_B.f1; have f2 := S_B.f2
            go_simp
            clear c0 c1 c2 f0 f1 f2
            obtain ⟨y122, hy⟩ : ∃ y, ((d121.setCell ⟨B, 0, none⟩ (.slice p2 n2 c2)).setCell ⟨B, 1, none⟩ (.slice p3 n3 c3)).setCell ⟨B, 2, none⟩ (.bool s1) = y := ⟨_, rfl⟩
            rw [hy]
            have ho : Off B d121 y122 := by rw [← hy]; exact (((Off.refl _ _).set _ _).set _ _).set _ _
            replace S_B : Stp y122 B (.slice p2 n2 c2) (.slice p3 n3 c3) (.bool s1) := by rw [← hy]; exact S_B.put _ _ _
            clear hy
            replace S_C := S_C.off ho N_BC.out.symm
            replace k_m := ho.cell _ _ (show w.heap.size + 1 ≠ B from by have := L_B.out; have := E0.out; omega) k_m
            replace f_r := ho.frz _ f_r
            replace k_r := ho.cell _ _ (show w.heap.size + 1 + 1 ≠ B from by have := L_B.out; have := E0.out; omega) k_r
            replace k_d := ho.cell _ _ (show Bq + 1 ≠ B from NC_dB.out) k_d
            replace f_F := ho.frz _ f_F
            replace k_F := ho.cell _ _ (show F ≠ B from N_BF.out.symm) k_F
            replace k_n0 := ho.cell _ _ (show C ≠ B from N_BC.out.symm) k_n0
            replace k_n1 := ho.cell _ _ (show C ≠ B from N_BC.out.symm) k_n1
            replace k_n2 := ho.cell _ _ (show C ≠ B from N_BC.out.symm) k_n2
            replace R_m := Lib.hid (ho.nw _ _ _ _ A_mB.out R_m.out)
            replace R_0 := Lib.hid (ho.nw _ _ _ _ A_0B.out R_0.out)
            replace R_1 := Lib.hid (ho.nw _ _ _ _ A_1B.out R_1.out)
            replace R_2 := Lib.hid (ho.nw _ _ _ _ A_2B.out R_2.out)
            replace R_3 := Lib.hid (ho.nw _ _ _ _ A_3B.out R_3.out)
            replace R_d := Lib.hid (ho.nw _ _ _ _ A_dB.out R_d.out)
            replace R_6 := Lib.hid (ho.nw _ _ _ _ A_6B.out R_6.out)
            replace R_7 := Lib.hid (ho.nw _ _ _ _ A_7B.out R_7.out)
            replace G := Lib.hid (ho.gr _ (by have := L_B.out; have := E0.out; omega) G.out)
            clear ho
            have hS : y122.cell? ⟨C, 0, none⟩ = some (.slice p2 n2 c2) ∧ y122.cell? ⟨C, 1, none⟩ = some (.slice p3 n3 c3) ∧ y122.cell? ⟨C, 2, none⟩ = some (.bool s1) ∧ y122.cell? ⟨Bq + 1, 0, none⟩ = some (.slice pr nr cr) ∧ y122.cell? ⟨F, 0, none⟩ = some (.slice p7 n7 c7) ∧ True := ⟨k_n0, k_n1, k_n2, k_d, k_F, trivial⟩
            refine hK.out _ _ (fun _ => hS) ?_
            clear hK K
            (try simp only [Act.put, List.getElem_toArray, List.getElem_cons_zero, List.getElem_cons_succ, List.setIfInBounds_toArray, List.set_cons_zero, List.set_cons_succ])
            refine Kr.readyL (rs := [8]) (by kernel_rfl) (by simp) ?_
            refine Kr.AllL.cons rfl (fun K hK => ?_) Kr.AllL.nil
            clear hS
            go_simp
            have c0 := S_C.c0; have c1 := S_C.c1; have c2 := S_C.c2; have f0 := S_C.f0; have f1 := S_C.f1; have f2 := S_C.f2
            go_simp
            clear c0 c1 c2 f0 f1 f2
            obtain ⟨y123, hy⟩ : ∃ y, ((y122.setCell ⟨C, 0, none⟩ (.slice pr nr cr)).setCell ⟨C, 1, none⟩ (.slice p7 n7 c7)).setCell ⟨C, 2, none⟩ (.bool (!s1)) = y := ⟨_, rfl⟩
            rw [hy]
            have ho : Off C y122 y123 := by rw [← hy]; exact (((Off.refl _ _).set _ _).set _ _).set _ _
            replace S_C : Stp y123 C (.slice pr nr cr) (.slice p7 n7 c7) (.bool (!s1)) := by rw [← hy]; exact S_C.put _ _ _
            clear hy
            clear k_n0
            clear k_n1
            clear k_n2
            replace S_B := S_B.off ho N_BC.out
            replace k_m := ho.cell _ _ (show w.heap.size + 1 ≠ C from by have := L_C.out; have := E0.out; omega) k_m
            replace f_r := ho.frz _ f_r
            replace k_r := ho.cell _ _ (show w.heap.size + 1 + 1 ≠ C from by have := L_C.out; have := E0.out; omega) k_r
            replace k_d := ho.cell _ _ (show Bq + 1 ≠ C from NC_dC.out) k_d
            replace f_F := ho.frz _ f_F
            replace k_F := ho.cell _ _ (show F ≠ C from N_CF.out.symm) k_F
            replace R_m := Lib.hid (ho.nw _ _ _ _ A_mC.out R_m.out)
            replace R_0 := Lib.hid (ho.nw _ _ _ _ A_0C.out R_0.out)
            replace R_1 := Lib.hid (ho.nw _ _ _ _ A_1C.out R_1.out)
            replace R_2 := Lib.hid (ho.nw _ _ _ _ A_2C.out R_2.out)
            replace R_3 := Lib.hid (ho.nw _ _ _ _ A_3C.out R_3.out)
            replace R_d := Lib.hid (ho.nw _ _ _ _ A_dC.out R_d.out)
            replace R_6 := Lib.hid (ho.nw _ _ _ _ A_6C.out R_6.out)
            replace R_7 := Lib.hid (ho.nw _ _ _ _ A_7C.out R_7.out)
            replace G := Lib.hid (ho.gr _ (by have := L_C.out; have := E0.out; omega) G.out)
            clear ho
            refine hK.out _ _ (Kr.noStill (by kernel_rfl)) ?_
            clear hK K
            (try simp only [Act.put, List.getElem_toArray, List.getElem_cons_zero, List.getElem_cons_succ, List.setIfInBounds_toArray, List.set_cons_zero, List.set_cons_succ])
            refine Kr.doneL (by kernel_rfl) ?_ _
            go_wp2
            go_roundw
            case rel => exact ⟨_, _, _, _, _, _, _, _, _, _, _, _, _, _, _, _, _, _, Lib.hid ⟨G.out, k_m, k_r, f_r, R_m.out, N_BC.out, L_B.out, L_C.out, A_mB.out, A_mC.out, S_B, S_C, R_2.out, R_3.out, R_d.out, R_7.out, A_2B.out, A_2C.out, A_3B.out, A_3C.out, A_dB.out, A_dC.out, A_7B.out, A_7C.out, A_3R.out, A_7R.out, HE.out.step HP.out⟩⟩
            case measure => rw [HMe.out, numAt_eq S_C.c0 R_d.out, val_digs]; exact Nat.mod_lt _ HP.out
          refine Kr.AllL.cons rfl (fun K hK => ?_) Kr.AllL.nil
          clear hS
          go_simp
          obtain ⟨y125, hy⟩ : ∃ y, y115.alloc (.cells #[.slice none 0 0] 24) = y := ⟨_, rfl⟩
          obtain ⟨F, hF⟩ : ∃ B, y115.heap.size = B := ⟨_, rfl⟩
          rw [hy, hF]
          have hg : Gr y115 y125 := by rw [← hy]; exact (Gr.refl _).alloc _
          have L_F : Hid (w.heap.size + 3 ≤ F ∧ y113.heap.size ≤ F) := Lib.hid ⟨by have := World.block_lt_of_cell? _ _ k_r; dsimp only at this; omega, hF ▸ G0.out.le⟩
          have N_BF : Hid (B ≠ F) := Lib.hid (Nat.ne_of_lt (show B < F from hF ▸ S_B.lt))
          have N_CF : Hid (C ≠ F) := Lib.hid (Nat.ne_of_lt (show C < F from hF ▸ S_C.lt))
          have A_mF := Lib.hid (av_new (b := F) R_m.out (Nat.le_of_eq hF))
          have A_0F := Lib.hid (av_new (b := F) R_0.out (Nat.le_of_eq hF))
          have A_1F := Lib.hid (av_new (b := F) R_1.out (Nat.le_of_eq hF))
          have A_2F := Lib.hid (av_new (b := F) R_2.out (Nat.le_of_eq hF))
          have A_3F := Lib.hid (av_new (b := F) R_3.out (Nat.le_of_eq hF))
          have A_qF := Lib.hid (av_new (b := F) R_q.out (Nat.le_of_eq hF))
          have A_dF := Lib.hid (av_new (b := F) R_d.out (Nat.le_of_eq hF))
          have A_6F := Lib.hid (av_new (b := F) R_6.out (Nat.le_of_eq hF))
          have NC_mF : Hid (w.heap.size + 1 ≠ F) := Lib.hid (Nat.ne_of_lt (hF ▸ World.block_lt_of_cell? _ _ k_m : w.heap.size + 1 < F))
          have NC_rF : Hid (w.heap.size + 1 + 1 ≠ F) := Lib.hid (Nat.ne_of_lt (hF ▸ World.block_lt_of_cell? _ _ k_r : w.heap.size + 1 + 1 < F))
          have NC_qF : Hid (Bq ≠ F) := Lib.hid (Nat.ne_of_lt (hF ▸ World.block_lt_of_cell? _ _ k_q : Bq < F))
          have NC_dF : Hid (Bq + 1 ≠ F) := Lib.hid (Nat.ne_of_lt (hF ▸ World.block_lt_of_cell? _ _ k_d : Bq + 1 < F))
          have NC_xF : Hid (B ≠ F) := Lib.hid (Nat.ne_of_lt (hF ▸ World.block_lt_of_cell? _ _ k_x : B < F))
          have NC_zF : Hid (C ≠ F) := Lib.hid (Nat.ne_of_lt (hF ▸ World.block_lt_of_cell? _ _ k_z : C < F))
          replace k_m := hg.cell k_m
          replace f_r := hg.frozen k_r f_r
          replace k_r := hg.cell k_r
          replace k_q := hg.cell k_q
          replace k_d := hg.cell k_d
          replace k_x := hg.cell k_x
          replace k_z := hg.cell k_z
          replace R_m := Lib.hid (R_m.out.grow hg)
          replace R_0 := Lib.hid (R_0.out.grow hg)
          replace R_1 := Lib.hid (R_1.out.grow hg)
          replace R_2 := Lib.hid (R_2.out.grow hg)
          replace R_3 := Lib.hid (R_3.out.grow hg)
          replace R_q := Lib.hid (R_q.out.grow hg)
          replace R_d := Lib.hid (R_d.out.grow hg)
          replace R_6 := Lib.hid (R_6.out.grow hg)
          replace G := Lib.hid (G.out.trans hg)
          replace G0 := Lib.hid (G0.out.trans hg)
          replace S_B := S_B.grow hg
          replace S_C := S_C.grow hg
          clear hg
          have k_F : y125.cell? ⟨F, 0, none⟩ = some (.slice none 0 0) := by rw [← hy, ← hF]; simp [go_sem]
          have f_F : y125.frozen? ⟨F, 0, none⟩ = false := by rw [← hy, ← hF]; simp [go_sem]
          clear hy hF
          have hS : y125.cell? ⟨Bq, 0, none⟩ = some (.slice pq nq cq) ∧ y125.cell? ⟨B, 1, none⟩ = some (.slice p1 n1 c1) ∧ y125.cell? ⟨C, 1, none⟩ = some (.slice p3 n3 c3) ∧ True := ⟨k_q, k_x, k_z, trivial⟩
          refine hK.out _ _ (fun _ => hS) ?_
          clear hK K
          (try simp only [Act.put, List.getElem_toArray, List.getElem_cons_zero, List.getElem_cons_succ, List.setIfInBounds_toArray, List.set_cons_zero, List.set_cons_succ])
          refine Kr.readyL (rs := [6]) (by kernel_rfl) (by simp) ?_
          refine Kr.AllL.cons rfl (fun K hK => ?_) Kr.AllL.nil
          clear hS
          go_simp
          go_at_call 72
          refine (mplus_v R_1.out R_6.out (lt64 (Nat.lt_of_le_of_lt HE.out.le0 HY.out)) (lt64 (Nat.lt_of_le_of_lt HF.out.2.1 HY.out)) (lt64 (Nat.lt_of_le_of_lt HF.out.2.2 HY.out))).mono ?_
          rintro e y126 ⟨p7, n7, c7, rfl, hr, hg⟩
          have A_7B := Lib.hid (av_nr (b := B) hr S_B.lt)
          have A_7C := Lib.hid (av_nr (b := C) hr S_C.lt)
          have A_7R := Lib.hid (av_nr (b := w.heap.size + 1 + 1) hr (World.block_lt_of_cell? _ _ k_r))
          have A_7F := Lib.hid (av_nr (b := F) hr (World.block_lt_of_cell? _ _ k_F))
          have R_7 := Lib.hid hr.toNw
          clear hr
          replace k_m := hg.cell k_m
          replace f_r := hg.frozen k_r f_r
          replace k_r := hg.cell k_r
          replace k_q := hg.cell k_q
          replace k_d := hg.cell k_d
          replace k_x := hg.cell k_x
          replace k_z := hg.cell k_z
          replace f_F := hg.frozen k_F f_F
          replace k_F := hg.cell k_F
          replace R_m := Lib.hid (R_m.out.grow hg)
          replace R_0 := Lib.hid (R_0.out.grow hg)
          replace R_1 := Lib.hid (R_1.out.grow hg)
          replace R_2 := Lib.hid (R_2.out.grow hg)
          replace R_3 := Lib.hid (R_3.out.grow hg)
          replace R_q := Lib.hid (R_q.out.grow hg)
          replace R_d := Lib.hid (R_d.out.grow hg)
          replace R_6 := Lib.hid (R_6.out.grow hg)
          replace G := Lib.hid (G.out.trans hg)
          replace G0 := Lib.hid (G0.out.trans hg)
          replace S_B := S_B.grow hg
          replace S_C := S_C.grow hg
          clear hg
          have hS : y126.cell? ⟨Bq, 0, none⟩ = some (.slice pq nq cq) ∧ y126.cell? ⟨B, 1, none⟩ = some (.slice p1 n1 c1) ∧ y126.cell? ⟨C, 1, none⟩ = some (.slice p3 n3 c3) ∧ True := ⟨k_q, k_x, k_z, trivial⟩
          refine hK.out _ _ (fun _ => hS) ?_
          clear hK K
          (try simp only [Act.put, List.getElem_toArray, List.getElem_cons_zero, List.getElem_cons_succ, List.setIfInBounds_toArray, List.set_cons_zero, List.set_cons_succ])
          refine Kr.readyL (rs := [8]) (by kernel_rfl) (by simp) ?_
          refine Kr.AllL.cons rfl (fun K hK => ?_) Kr.AllL.nil
          clear hS
          go_simp
          obtain ⟨y128, hy⟩ : ∃ y, y126.setCell ⟨F, 0, none⟩ (.slice p7 n7 c7) = y := ⟨_, rfl⟩
          rw [hy]
          have ho : Off F y126 y128 := by rw [← hy]; exact (Off.refl _ _).set _ _
          have k2 : y128.cell? ⟨F, 0, none⟩ = some (.slice p7 n7 c7) := by rw [← hy]; exact setCell_at k_F
          have f2 := ho.frz _ f_F
          clear hy k_F f_F
          replace S_B := S_B.off ho N_BF.out
          replace S_C := S_C.off ho N_CF.out
          replace k_m := ho.cell _ _ (show w.heap.size + 1 ≠ F from NC_mF.out) k_m
          replace f_r := ho.frz _ f_r
          replace k_r := ho.cell _ _ (show w.heap.size + 1 + 1 ≠ F from NC_rF.out) k_r
          replace k_q := ho.cell _ _ (show Bq ≠ F from NC_qF.out) k_q
          replace k_d := ho.cell _ _ (show Bq + 1 ≠ F from NC_dF.out) k_d
          replace k_x := ho.cell _ _ (show B ≠ F from NC_xF.out) k_x
          replace k_z := ho.cell _ _ (show C ≠ F from NC_zF.out) k_z
          replace R_m := Lib.hid (ho.nw _ _ _ _ A_mF.out R_m.out)
          replace R_0 := Lib.hid (ho.nw _ _ _ _ A_0F.out R_0.out)
          replace R_1 := Lib.hid (ho.nw _ _ _ _ A_1F.out R_1.out)
          replace R_2 := Lib.hid (ho.nw _ _ _ _ A_2F.out R_2.out)
          replace R_3 := Lib.hid (ho.nw _ _ _ _ A_3F.out R_3.out)
          replace R_q := Lib.hid (ho.nw _ _ _ _ A_qF.out R_q.out)
          replace R_d := Lib.hid (ho.nw _ _ _ _ A_dF.out R_d.out)
          replace R_6 := Lib.hid (ho.nw _ _ _ _ A_6F.out R_6.out)
          replace R_7 := Lib.hid (ho.nw _ _ _ _ A_7F.out R_7.out)
          replace G := Lib.hid (ho.gr _ (by have := L_F.out; have := E0.out; omega) G.out)
          replace G0 := Lib.hid (ho.gr _ (by have := L_F.out; have := E0.out; omega) G0.out)
          clear ho
          have k_F := k2
          have f_F := f2
          clear k2 f2
          have hS : y128.cell? ⟨Bq, 0, none⟩ = some (.slice pq nq cq) ∧ y128.cell? ⟨B, 1, none⟩ = some (.slice p1 n1 c1) ∧ y128.cell? ⟨C, 1, none⟩ = some (.slice p3 n3 c3) ∧ True := ⟨k_q, k_x, k_z, trivial⟩
          refine hK.out _ _ (fun _ => hS) ?_
          clear hK K
          (try simp only [Act.put, List.getElem_toArray, List.getElem_cons_zero, List.getElem_cons_succ, List.setIfInBounds_toArray, List.set_cons_zero, List.set_cons_succ])
          clear hS
          refine Kr.doneL (by kernel_rfl) ?_ _
          clear k_x
          clear k_z
          clear k_q
          clear R_q
          go_upto_region 5 with fail
          have k_n0 := S_C.c0
          have k_n1 := S_C.c1
          have k_n2 := S_C.c2
          have NC_FB := N_BF.out.symm
          have NC_FC := N_CF.out.symm
          replace NC_FB := Lib.hid NC_FB
          replace NC_FC := Lib.hid NC_FC
          clear G0
          refine Kr.startL (fun W' => W'.cell? ⟨C, 0, none⟩ = some (.slice p2 n2 c2) ∧ W'.cell? ⟨C, 1, none⟩ = some (.slice p3 n3 c3) ∧ W'.cell? ⟨C, 2, none⟩ = some (.bool s1) ∧ W'.cell? ⟨Bq + 1, 0, none⟩ = some (.slice pr nr cr) ∧ W'.cell? ⟨F, 0, none⟩ = some (.slice p7 n7 c7) ∧ True) [8] (by kernel_rfl) ?_
          have gd : Gr y128 y128.drew := (Gr.refl _).drew
          generalize y128.drew = d129 at gd ⊢
          replace k_m := gd.cell k_m
          replace f_r := gd.frozen k_r f_r
          replace k_r := gd.cell k_r
          replace k_d := gd.cell k_d
          replace f_F := gd.frozen k_F f_F
          replace k_F := gd.cell k_F
          replace k_n0 := gd.cell k_n0
          replace k_n1 := gd.cell k_n1
          replace k_n2 := gd.cell k_n2
          replace R_m := Lib.hid (R_m.out.grow gd)
          replace R_0 := Lib.hid (R_0.out.grow gd)
          replace R_1 := Lib.hid (R_1.out.grow gd)
          replace R_2 := Lib.hid (R_2.out.grow gd)
          replace R_3 := Lib.hid (R_3.out.grow gd)
          replace R_d := Lib.hid (R_d.out.grow gd)
          replace R_6 := Lib.hid (R_6.out.grow gd)
          replace R_7 := Lib.hid (R_7.out.grow gd)
          replace G := Lib.hid (G.out.trans gd)
          replace S_B := S_B.grow gd
          replace S_C := S_C.grow gd
          clear gd
          have hS : d129.cell? ⟨C, 0, none⟩ = some (.slice p2 n2 c2) ∧ d129.cell? ⟨C, 1, none⟩ = some (.slice p3 n3 c3) ∧ d129.cell? ⟨C, 2, none⟩ = some (.bool s1) ∧ d129.cell? ⟨Bq + 1, 0, none⟩ = some (.slice pr nr cr) ∧ d129.cell? ⟨F, 0, none⟩ = some (.slice p7 n7 c7) ∧ True := ⟨k_n0, k_n1, k_n2, k_d, k_F, trivial⟩
          refine Kr.takeS (i := 0) (v := ?_) [7, 8] rfl (by kernel_rfl) (by kernel_rfl) (by kernel_rfl) rfl (by kernel_rfl) (by kernel_rfl) (by kernel_rfl) (fun _ _ _ h => h) (fun wx hSx => ?_) (by rfl) hS ?_
          rotate_left
          · (go_simp; first | done | rfl)
          (try simp only [Act.put, List.getElem_toArray, List.getElem_cons_zero, List.getElem_cons_succ, List.setIfInBounds_toArray, List.set_cons_zero, List.set_cons_succ])
          refine Kr.takeS (i := 1) (v := ?_) [6, 8] rfl (by kernel_rfl) (by kernel_rfl) (by kernel_rfl) rfl (by kernel_rfl) (by kernel_rfl) (by kernel_rfl) (fun _ _ _ h => h) (fun wx hSx => ?_) (by rfl) hS ?_
          rotate_left
          · (go_simp; first | done | rfl)
          (try simp only [Act.put, List.getElem_toArray, List.getElem_cons_zero, List.getElem_cons_succ, List.setIfInBounds_toArray, List.set_cons_zero, List.set_cons_succ])
          refine Kr.takeS (i := 2) (v := ?_) [6, 8] rfl (by kernel_rfl) (by kernel_rfl) (by kernel_rfl) rfl (by kernel_rfl) (by kernel_rfl) (by kernel_rfl) (fun _ _ _ h => h) (fun wx hSx => ?_) (by rfl) hS ?_
          rotate_left
          · (go_simp; first | done | rfl)
          (try simp only [Act.put, List.getElem_toArray, List.getElem_cons_zero, List.getElem_cons_succ, List.setIfInBounds_toArray, List.set_cons_zero, List.set_cons_succ])
          refine Kr.takeP (i := 3) (v := ?_) rfl (by kernel_rfl) (by kernel_rfl) (by kernel_rfl) rfl (fun _ _ _ h => h) (fun wx => ?_) (by rfl) (fun _ => hS) ?_
          rotate_left
          · (go_simp; first | done | rfl)
          (try simp only [Act.put, List.getElem_toArray, List.getElem_cons_zero, List.getElem_cons_succ, List.setIfInBounds_toArray, List.set_cons_zero, List.set_cons_succ])
          refine Kr.takeS (i := 4) (v := ?_) [5, 6, 8] rfl (by kernel_rfl) (by kernel_rfl) (by kernel_rfl) rfl (by kernel_rfl) (by kernel_rfl) (by kernel_rfl) (fun _ _ _ h => h) (fun wx hSx => ?_) (by rfl) hS ?_
          rotate_left
          · (go_simp; first | done | rfl)
          (try simp only [Act.put, List.getElem_toArray, List.getElem_cons_zero, List.getElem_cons_succ, List.setIfInBounds_toArray, List.set_cons_zero, List.set_cons_succ])
          refine Kr.takeP (i := 5) (v := ?_) rfl (by kernel_rfl) (by kernel_rfl) (by kernel_rfl) rfl (fun _ _ _ h => h) (fun wx => ?_) (by rfl) (fun _ => hS) ?_
          rotate_left
          · (go_simp; first | done | rfl)
          (try simp only [Act.put, List.getElem_toArray, List.getElem_cons_zero, List.getElem_cons_succ, List.setIfInBounds_toArray, List.set_cons_zero, List.set_cons_succ])
          refine Kr.takeP (i := 6) (v := ?_) rfl (by kernel_rfl) (by kernel_rfl) (by kernel_rfl) rfl (fun _ _ _ h => h) (fun wx => ?_) (by rfl) (fun _ => hS) ?_
          rotate_left
          · (go_simp; first | done | rfl)
          (try simp only [Act.put, List.getElem_toArray, List.getElem_cons_zero, List.getElem_cons_succ, List.setIfInBounds_toArray, List.set_cons_zero, List.set_cons_succ])
          refine Kr.readyL (rs := [7]) (by kernel_rfl) (by simp) ?_
          refine Kr.AllL.cons rfl (fun K hK => ?_) Kr.AllL.nil
          clear hS
          go_simp
          have c0 := S_B.c0; have c1 := S_B.c1; have c2 := S_B.c2; have f0 := S_B.f0; have f1 := S_B.f1; have f2 := S_B.f2
          go_simp
          clear c0 c1 c2 f0 f1 f2
          obtain ⟨y130, hy⟩ : ∃ y, ((d129.setCell ⟨B, 0, none⟩ (.slice p2 n2 c2)).setCell ⟨B, 1, none⟩ (.slice p3 n3 c3)).setCell ⟨B, 2, none⟩ (.bool s1) = y := ⟨_, rfl⟩
          rw [hy]
          have ho : Off B d129 y130 := by rw [← hy]; exact (((Off.refl _ _).set _ _).set _ _).set _ _
          replace S_B : Stp y130 B (.slice p2 n2 c2) (.slice p3 n3 c3) (.bool s1) := by rw [← hy]; exact S_B.put _ _ _
          clear hy
          replace S_C := S_C.off ho N_BC.out.symm
          replace k_m := ho.cell _ _ (show w.heap.size + 1 ≠ B from by have := L_B.out; have := E0.out; omega) k_m
          replace f_r := ho.frz _ f_r
          replace k_r := ho.cell _ _ (show w.heap.size + 1 + 1 ≠ B from by have := L_B.out; have := E0.out; omega) k_r
          replace k_d := ho.cell _ _ (show Bq + 1 ≠ B from NC_dB.out) k_d
          replace f_F := ho.frz _ f_F
          replace k_F := ho.cell _ _ (show F ≠ B from N_BF.out.symm) k_F
          replace k_n0 := ho.cell _ _ (show C ≠ B from N_BC.out.symm) k_n0
          replace k_n1 := ho.cell _ _ (show C ≠ B from N_BC.out.symm) k_n1
          replace k_n2 := ho.cell _ _ (show C ≠ B from N_BC.out.symm) k_n2
          replace R_m := Lib.hid (ho.nw _ _ _ _ A_mB.out R_m.out)
          replace R_0 := Lib.hid (ho.nw _ _ _ _ A_0B.out R_0.out)
          replace R_1 := Lib.hid (ho.nw _ _ _ _ A_1B.out R_1.out)
          replace R_2 := Lib.hid (ho.nw _ _ _ _ A_2B.out R_2.out)
          replace R_3 := Lib.hid (ho.nw _ _ _ _ A_3B.out R_3.out)
          replace R_d := Lib.hid (ho.nw _ _ _ _ A_dB.out R_d.out)
          replace R_6 := Lib.hid (ho.nw _ _ _ _ A_6B.out R_6.out)
          replace R_7 := Lib.hid (ho.nw _ _ _ _ A_7B.out R_7.out)
          replace G := Lib.hid (ho.gr _ (by have := L_B.out; have := E0.out; omega) G.out)
          clear ho
          have hS : y130.cell? ⟨C, 0, none⟩ = some (.slice p2 n2 c2) ∧ y130.cell? ⟨C, 1, none⟩ = some (.slice p3 n3 c3) ∧ y130.cell? ⟨C, 2, none⟩ = some (.bool s1) ∧ y130.cell? ⟨Bq + 1, 0, none⟩ = some (.slice pr nr cr) ∧ y130.cell? ⟨F, 0, none⟩ = some (.slice p7 n7 c7) ∧ True := ⟨k_n0, k_n1, k_n2, k_d, k_F, trivial⟩
          refine hK.out _ _ (fun _ => hS) ?_
          clear hK K
          (try simp only [Act.put, List.getElem_toArray, List.getElem_cons_zero, List.getElem_cons_succ, List.setIfInBounds_toArray, List.set_cons_zero, List.set_cons_succ])
          refine Kr.readyL (rs := [8]) (by kernel_rfl) (by simp) ?_
          refine Kr.AllL.cons rfl (fun K hK => ?_) Kr.AllL.nil
          clear hS
          go_simp
          have c0 := S_C.c0; have c1 := S_C.c1; have c2 := S_C.c2; have f0 := S_C.f0; have f1 := S_C.f1; have f2 := S_C.f2
          go_simp
          clear c0 c1 c2 f0 f1 f2
          obtain ⟨y131, hy⟩ : ∃ y, ((y130.setCell ⟨C, 0, none⟩ (.slice pr nr cr)).setCell ⟨C, 1, none⟩ (.slice p7 n7 c7)).setCell ⟨C, 2, none⟩ (.bool (!s1)) = y := ⟨_, rfl⟩
          rw [hy]
          have ho : Off C y130 y131 := by rw [← hy]; exact (((Off.refl _ _).set _ _).set _ _).set _ _
          replace S_C : Stp y131 C (.slice pr nr cr) (.slice p7 n7 c7) (.bool (!s1)) := by rw [← hy]; exact S_C.put _ _ _
          clear hy
          clear k_n0
          clear k_n1
          clear k_n2
          replace S_B := S_B.off ho N_BC.out
          replace k_m := ho.cell _ _ (show w.heap.size + 1 ≠ C from by have := L_C.out; have := E0.out; omega) k_m
          replace f_r := ho.frz _ f_r
          replace k_r := ho.cell _ _ (show w.heap.size + 1 + 1 ≠ C from by have := L_C.out; have := E0.out; omega) k_r
          replace k_d := ho.cell _ _ (show Bq + 1 ≠ C from NC_dC.out) k_d
          replace f_F := ho.frz _ f_F
          replace k_F := ho.cell _ _ (show F ≠ C from N_CF.out.symm) k_F
          replace R_m := Lib.hid (ho.nw _ _ _ _ A_mC.out R_m.out)
          replace R_0 := Lib.hid (ho.nw _ _ _ _ A_0C.out R_0.out)
          replace R_1 := Lib.hid (ho.nw _ _ _ _ A_1C.out R_1.out)
          replace R_2 := Lib.hid (ho.nw _ _ _ _ A_2C.out R_2.out)
          replace R_3 := Lib.hid (ho.nw _ _ _ _ A_3C.out R_3.out)
          replace R_d := Lib.hid (ho.nw _ _ _ _ A_dC.out R_d.out)
          replace R_6 := Lib.hid (ho.nw _ _ _ _ A_6C.out R_6.out)
          replace R_7 := Lib.hid (ho.nw _ _ _ _ A_7C.out R_7.out)
          replace G := Lib.hid (ho.gr _ (by have := L_C.out; have := E0.out; omega) G.out)
          clear ho
          refine hK.out _ _ (Kr.noStill (by kernel_rfl)) ?_
          clear hK K
          (try simp only [Act.put, List.getElem_toArray, List.getElem_cons_zero, List.getElem_cons_succ, List.setIfInBounds_toArray, List.set_cons_zero, List.set_cons_succ])
          refine Kr.doneL (by kernel_rfl) ?_ _
          go_wp2
          go_roundw
          case rel => exact ⟨_, _, _, _, _, _, _, _, _, _, _, _, _, _, _, _, _, _, Lib.hid ⟨G.out, k_m, k_r, f_r, R_m.out, N_BC.out, L_B.out, L_C.out, A_mB.out, A_mC.out, S_B, S_C, R_2.out, R_3.out, R_d.out, R_7.out, A_2B.out, A_2C.out, A_3B.out, A_3C.out, A_dB.out, A_dC.out, A_7B.out, A_7C.out, A_3R.out, A_7R.out, HE.out.step HP.out⟩⟩
          case measure => rw [HMe.out, numAt_eq S_C.c0 R_d.out, val_digs]; exact Nat.mod_lt _ HP.out
        refine Kr.AllL.cons rfl (fun K hK => ?_) Kr.AllL.nil
        clear hS
        go_simp
        obtain ⟨y133, hy⟩ : ∃ y, d114.alloc (.cells #[.slice none 0 0] 24) = y := ⟨_, rfl⟩
        obtain ⟨F, hF⟩ : ∃ B, d114.heap.size = B := ⟨_, rfl⟩
        rw [hy, hF]
        have hg : Gr d114 y133 := by rw [← hy]; exact (Gr.refl _).alloc _
        have L_F : Hid (w.heap.size + 3 ≤ F ∧ y113.heap.size ≤ F) := Lib.hid ⟨by have := World.block_lt_of_cell? _ _ k_r; dsimp only at this; omega, hF ▸ G0.out.le⟩
        have N_BF : Hid (B ≠ F) := Lib.hid (Nat.ne_of_lt (show B < F from hF ▸ S_B.lt))
        have N_CF : Hid (C ≠ F) := Lib.hid (Nat.ne_of_lt (show C < F from hF ▸ S_C.lt))
        have A_mF := Lib.hid (av_new (b := F) R_m.out (Nat.le_of_eq hF))
        have A_0F := Lib.hid (av_new (b := F) R_0.out (Nat.le_of_eq hF))
        have A_1F := Lib.hid (av_new (b := F) R_1.out (Nat.le_of_eq hF))
        have A_2F := Lib.hid (av_new (b := F) R_2.out (Nat.le_of_eq hF))
        have A_3F := Lib.hid (av_new (b := F) R_3.out (Nat.le_of_eq hF))
        have A_qF := Lib.hid (av_new (b := F) R_q.out (Nat.le_of_eq hF))
        have A_dF := Lib.hid (av_new (b := F) R_d.out (Nat.le_of_eq hF))
        have NC_mF : Hid (w.heap.size + 1 ≠ F) := Lib.hid (Nat.ne_of_lt (hF ▸ World.block_lt_of_cell? _ _ k_m : w.heap.size + 1 < F))
        have NC_rF : Hid (w.heap.size + 1 + 1 ≠ F) := Lib.hid (Nat.ne_of_lt (hF ▸ World.block_lt_of_cell? _ _ k_r : w.heap.size + 1 + 1 < F))
        have NC_qF : Hid (Bq ≠ F) := Lib.hid (Nat.ne_of_lt (hF ▸ World.block_lt_of_cell? _ _ k_q : Bq < F))
        have NC_dF : Hid (Bq + 1 ≠ F) := Lib.hid (Nat.ne_of_lt (hF ▸ World.block_lt_of_cell? _ _ k_d : Bq + 1 < F))
        have NC_xF : Hid (B ≠ F) := Lib.hid (Nat.ne_of_lt (hF ▸ World.block_lt_of_cell? _ _ k_x : B < F))
        have NC_zF : Hid (C ≠ F) := Lib.hid (Nat.ne_of_lt (hF ▸ World.block_lt_of_cell? _ _ k_z : C < F))
        replace k_m := hg.cell k_m
        replace f_r := hg.frozen k_r f_r
        replace k_r := hg.cell k_r
        replace k_q := hg.cell k_q
        replace k_d := hg.cell k_d
        replace k_x := hg.cell k_x
        replace k_z := hg.cell k_z
        replace R_m := Lib.hid (R_m.out.grow hg)
        replace R_0 := Lib.hid (R_0.out.grow hg)
        replace R_1 := Lib.hid (R_1.out.grow hg)
        replace R_2 := Lib.hid (R_2.out.grow hg)
        replace R_3 := Lib.hid (R_3.out.grow hg)
        replace R_q := Lib.hid (R_q.out.grow hg)
        replace R_d := Lib.hid (R_d.out.grow hg)
        replace G := Lib.hid (G.out.trans hg)
        replace G0 := Lib.hid (G0.out.trans hg)
        replace S_B := S_B.grow hg
        replace S_C := S_C.grow hg
        clear hg
        have k_F : y133.cell? ⟨F, 0, none⟩ = some (.slice none 0 0) := by rw [← hy, ← hF]; simp [go_sem]
        have f_F : y133.frozen? ⟨F, 0, none⟩ = false := by rw [← hy, ← hF]; simp [go_sem]
        clear hy hF
        have hS : y133.cell? ⟨Bq, 0, none⟩ = some (.slice pq nq cq) ∧ y133.cell? ⟨B, 1, none⟩ = some (.slice p1 n1 c1) ∧ y133.cell? ⟨C, 1, none⟩ = some (.slice p3 n3 c3) ∧ True := ⟨k_q, k_x, k_z, trivial⟩
        refine hK.out _ _ (fun _ => hS) ?_
        clear hK K
        (try simp only [Act.put, List.getElem_toArray, List.getElem_cons_zero, List.getElem_cons_succ, List.setIfInBounds_toArray, List.set_cons_zero, List.set_cons_succ])
        refine Kr.readyL (rs := [5]) (by kernel_rfl) (by simp) ?_
        refine Kr.AllL.cons rfl (fun K hK => ?_) Kr.AllL.nil
        clear hS
        go_simp
        go_at_call 79
        refine (mtimes_v R_q.out R_3.out (lt64 (Nat.lt_of_le_of_lt (Nat.div_le_self r0 r1) HR0.out)) (lt64 (Nat.lt_of_le_of_lt HF.out.1 HY.out)) (lt64 (Nat.lt_of_le_of_lt HF.out.2.1 HY.out))).mono ?_
        rintro e y134 ⟨p6, n6, c6, rfl, hr, hg⟩
        have A_6B := Lib.hid (av_nr (b := B) hr S_B.lt)
        have A_6C := Lib.hid (av_nr (b := C) hr S_C.lt)
        have A_6R := Lib.hid (av_nr (b := w.heap.size + 1 + 1) hr (World.block_lt_of_cell? _ _ k_r))
        have A_6F := Lib.hid (av_nr (b := F) hr (World.block_lt_of_cell? _ _ k_F))
        have R_6 := Lib.hid hr.toNw
        clear hr
        replace k_m := hg.cell k_m
        replace f_r := hg.frozen k_r f_r
        replace k_r := hg.cell k_r
        replace k_q := hg.cell k_q
        replace k_d := hg.cell k_d
        replace k_x := hg.cell k_x
        replace k_z := hg.cell k_z
        replace f_F := hg.frozen k_F f_F
        replace k_F := hg.cell k_F
        replace R_m := Lib.hid (R_m.out.grow hg)
        replace R_0 := Lib.hid (R_0.out.grow hg)
        replace R_1 := Lib.hid (R_1.out.grow hg)
        replace R_2 := Lib.hid (R_2.out.grow hg)
        replace R_3 := Lib.hid (R_3.out.grow hg)
        replace R_q := Lib.hid (R_q.out.grow hg)
        replace R_d := Lib.hid (R_d.out.grow hg)
        replace G := Lib.hid (G.out.trans hg)
        replace G0 := Lib.hid (G0.out.trans hg)
        replace S_B := S_B.grow hg
        replace S_C := S_C.grow hg
        clear hg
        have hS : y134.cell? ⟨Bq, 0, none⟩ = some (.slice pq nq cq) ∧ y134.cell? ⟨B, 1, none⟩ = some (.slice p1 n1 c1) ∧ y134.cell? ⟨C, 1, none⟩ = some (.slice p3 n3 c3) ∧ True := ⟨k_q, k_x, k_z, trivial⟩
        refine hK.out _ _ (fun _ => hS) ?_
        clear hK K
        (try simp only [Act.put, List.getElem_toArray, List.getElem_cons_zero, List.getElem_cons_succ, List.setIfInBounds_toArray, List.set_cons_zero, List.set_cons_succ])
        refine Kr.readyL (rs := [6]) (by kernel_rfl) (by simp) ?_
        refine Kr.AllL.cons rfl (fun K hK => ?_) Kr.AllL.nil
        clear hS
        go_simp
        go_at_call 72
        refine (mplus_v R_1.out R_6.out (lt64 (Nat.lt_of_le_of_lt HE.out.le0 HY.out)) (lt64 (Nat.lt_of_le_of_lt HF.out.2.1 HY.out)) (lt64 (Nat.lt_of_le_of_lt HF.out.2.2 HY.out))).mono ?_
        rintro e y135 ⟨p7, n7, c7, rfl, hr, hg⟩
        have A_7B := Lib.hid (av_nr (b := B) hr S_B.lt)
        have A_7C := Lib.hid (av_nr (b := C) hr S_C.lt)
        have A_7R := Lib.hid (av_nr (b := w.heap.size + 1 + 1) hr (World.block_lt_of_cell? _ _ k_r))
        have A_7F := Lib.hid (av_nr (b := F) hr (World.block_lt_of_cell? _ _ k_F))
        have R_7 := Lib.hid hr.toNw
        clear hr
        replace k_m := hg.cell k_m
        replace f_r := hg.frozen k_r f_r
        replace k_r := hg.cell k_r
        replace k_q := hg.cell k_q
        replace k_d := hg.cell k_d
        replace k_x := hg.cell k_x
        replace k_z := hg.cell k_z
        replace f_F := hg.frozen k_F f_F
        replace k_F := hg.cell k_F
        replace R_m := Lib.hid (R_m.out.grow hg)
        replace R_0 := Lib.hid (R_0.out.grow hg)
        replace R_1 := Lib.hid (R_1.out.grow hg)
        replace R_2 := Lib.hid (R_2.out.grow hg)
        replace R_3 := Lib.hid (R_3.out.grow hg)
        replace R_q := Lib.hid (R_q.out.grow hg)
        replace R_d := Lib.hid (R_d.out.grow hg)
        replace R_6 := Lib.hid (R_6.out.grow hg)
        replace G := Lib.hid (G.out.trans hg)
        replace G0 := Lib.hid (G0.out.trans hg)
        replace S_B := S_B.grow hg
        replace S_C := S_C.grow hg
        clear hg
        have hS : y135.cell? ⟨Bq, 0, none⟩ = some (.slice pq nq cq) ∧ y135.cell? ⟨B, 1, none⟩ = some (.slice p1 n1 c1) ∧ y135.cell? ⟨C, 1, none⟩ = some (.slice p3 n3 c3) ∧ True := ⟨k_q, k_x, k_z, trivial⟩
        refine hK.out _ _ (fun _ => hS) ?_
        clear hK K
        (try simp only [Act.put, List.getElem_toArray, List.getElem_cons_zero, List.getElem_cons_succ, List.setIfInBounds_toArray, List.set_cons_zero, List.set_cons_succ])
        refine Kr.readyL (rs := [8]) (by kernel_rfl) (by simp) ?_
        refine Kr.AllL.cons rfl (fun K hK => ?_) Kr.AllL.nil
        clear hS
        go_simp
        obtain ⟨y137, hy⟩ : ∃ y, y135.setCell ⟨F, 0, none⟩ (.slice p7 n7 c7) = y := ⟨_, rfl⟩
        rw [hy]
        have ho : Off F y135 y137 := by rw [← hy]; exact (Off.refl _ _).set _ _
        have k2 : y137.cell? ⟨F, 0, none⟩ = some (.slice p7 n7 c7) := by rw [← hy]; exact setCell_at k_F
        have f2 := ho.frz _ f_F
        clear hy k_F f_F
        replace S_B := S_B.off ho N_BF.out
        replace S_C := S_C.off ho N_CF.out
        replace k_m := ho.cell _ _ (show w.heap.size + 1 ≠ F from NC_mF.out) k_m
        replace f_r := ho.frz _ f_r
        replace k_r := ho.cell _ _ (show w.heap.size + 1 + 1 ≠ F from NC_rF.out) k_r
        replace k_q := ho.cell _ _ (show Bq ≠ F from NC_qF.out) k_q
        replace k_d := ho.cell _ _ (show Bq + 1 ≠ F from NC_dF.out) k_d
        replace k_x := ho.cell _ _ (show B ≠ F from NC_xF.out) k_x
        replace k_z := ho.cell _ _ (show C ≠ F from NC_zF.out) k_z
        replace R_m := Lib.hid (ho.nw _ _ _ _ A_mF.out R_m.out)
        replace R_0 := Lib.hid (ho.nw _ _ _ _ A_0F.out R_0.out)
        replace R_1 := Lib.hid (ho.nw _ _ _ _ A_1F.out R_1.out)
        replace R_2 := Lib.hid (ho.nw _ _ _ _ A_2F.out R_2.out)
        replace R_3 := Lib.hid (ho.nw _ _ _ _ A_3F.out R_3.out)
        replace R_q := Lib.hid (ho.nw _ _ _ _ A_qF.out R_q.out)
        replace R_d := Lib.hid (ho.nw _ _ _ _ A_dF.out R_d.out)
        replace R_6 := Lib.hid (ho.nw _ _ _ _ A_6F.out R_6.out)
        replace R_7 := Lib.hid (ho.nw _ _ _ _ A_7F.out R_7.out)
        replace G := Lib.hid (ho.gr _ (by have := L_F.out; have := E0.out; omega) G.out)
        replace G0 := Lib.hid (ho.gr _ (by have := L_F.out; have := E0.out; omega) G0.out)
        clear ho
        have k_F := k2
        have f_F := f2
        clear k2 f2
        have hS : y137.cell? ⟨Bq, 0, none⟩ = some (.slice pq nq cq) ∧ y137.cell? ⟨B, 1, none⟩ = some (.slice p1 n1 c1) ∧ y137.cell? ⟨C, 1, none⟩ = some (.slice p3 n3 c3) ∧ True := ⟨k_q, k_x, k_z, trivial⟩
        refine hK.out _ _ (fun _ => hS) ?_
        clear hK K
        (try simp only [Act.put, List.getElem_toArray, List.getElem_cons_zero, List.getElem_cons_succ, List.setIfInBounds_toArray, List.set_cons_zero, List.set_cons_succ])
        clear hS
        refine Kr.doneL (by kernel_rfl) ?_ _
        clear k_x
        clear k_z
        clear k_q
        clear R_q
        go_upto_region 5 with fail
        have k_n0 := S_C.c0
        have k_n1 := S_C.c1
        have k_n2 := S_C.c2
        have NC_FB := N_BF.out.symm
        have NC_FC := N_CF.out.symm
        replace NC_FB := Lib.hid NC_FB
        replace NC_FC := Lib.hid NC_FC
        clear G0
        refine Kr.startL (fun W' => W'.cell? ⟨C, 0, none⟩ = some (.slice p2 n2 c2) ∧ W'.cell? ⟨C, 1, none⟩ = some (.slice p3 n3 c3) ∧ W'.cell? ⟨C, 2, none⟩ = some (.bool s1) ∧ W'.cell? ⟨Bq + 1, 0, none⟩ = some (.slice pr nr cr) ∧ W'.cell? ⟨F, 0, none⟩ = some (.slice p7 n7 c7) ∧ True) [8] (by kernel_rfl) ?_
        have gd : Gr y137 y137.drew := (Gr.refl _).drew
        generalize y137.drew = d138 at gd ⊢
        replace k_m := gd.cell k_m
        replace f_r := gd.frozen k_r f_r
        replace k_r := gd.cell k_r
        replace k_d := gd.cell k_d
        replace f_F := gd.frozen k_F f_F
        replace k_F := gd.cell k_F
        replace k_n0 := gd.cell k_n0
        replace k_n1 := gd.cell k_n1
        replace k_n2 := gd.cell k_n2
        replace R_m := Lib.hid (R_m.out.grow gd)
        replace R_0 := Lib.hid (R_0.out.grow gd)
        replace R_1 := Lib.hid (R_1.out.grow gd)
        replace R_2 := Lib.hid (R_2.out.grow gd)
        replace R_3 := Lib.hid (R_3.out.grow gd)
        replace R_d := Lib.hid (R_d.out.grow gd)
        replace R_6 := Lib.hid (R_6.out.grow gd)
        replace R_7 := Lib.hid (R_7.out.grow gd)
        replace G := Lib.hid (G.out.trans gd)
        replace S_B := S_B.grow gd
        replace S_C := S_C.grow gd
        clear gd
        have hS : d138.cell? ⟨C, 0, none⟩ = some (.slice p2 n2 c2) ∧ d138.cell? ⟨C, 1, none⟩ = some (.slice p3 n3 c3) ∧ d138.cell? ⟨C, 2, none⟩ = some (.bool s1) ∧ d138.cell? ⟨Bq + 1, 0, none⟩ = some (.slice pr nr cr) ∧ d138.cell? ⟨F, 0, none⟩ = some (.slice p7 n7 c7) ∧ True := ⟨k_n0, k_n1, k_n2, k_d, k_F, trivial⟩
        refine Kr.takeS (i := 0) (v := ?_) [7, 8] rfl (by kernel_rfl) (by kernel_rfl) (by kernel_rfl) rfl (by kernel_rfl) (by kernel_rfl) (by kernel_rfl) (fun _ _ _ h => h) (fun wx hSx => ?_) (by rfl) hS ?_
        rotate_left
        · (go_simp; first | done | rfl)
        (try simp only [Act.put, List.getElem_toArray, List.getElem_cons_zero, List.getElem_cons_succ, List.setIfInBounds_toArray, List.set_cons_zero, List.set_cons_succ])
        refine Kr.takeS (i := 1) (v := ?_) [6, 8] rfl (by kernel_rfl) (by kernel_rfl) (by kernel_rfl) rfl (by kernel_rfl) (by kernel_rfl) (by kernel_rfl) (fun _ _ _ h => h) (fun wx hSx => ?_) (by rfl) hS ?_
        rotate_left
        · (go_simp; first | done | rfl)
        (try simp only [Act.put, List.getElem_toArray, List.getElem_cons_zero, List.getElem_cons_succ, List.setIfInBounds_toArray, List.set_cons_zero, List.set_cons_succ])
        refine Kr.takeS (i := 2) (v := ?_) [6, 8] rfl (by kernel_rfl) (by kernel_rfl) (by kernel_rfl) rfl (by kernel_rfl) (by kernel_rfl) (by kernel_rfl) (fun _ _ _ h => h) (fun wx hSx => ?_) (by rfl) hS ?_
        rotate_left
        · (go_simp; first | done | rfl)
        (try simp only [Act.put, List.getElem_toArray, List.getElem_cons_zero, List.getElem_cons_succ, List.setIfInBounds_toArray, List.set_cons_zero, List.set_cons_succ])
        refine Kr.takeP (i := 3) (v := ?_) rfl (by kernel_rfl) (by kernel_rfl) (by kernel_rfl) rfl (fun _ _ _ h => h) (fun wx => ?_) (by rfl) (fun _ => hS) ?_
        rotate_left
        · (go_simp; first | done | rfl)
        (try simp only [Act.put, List.getElem_toArray, List.getElem_cons_zero, List.getElem_cons_succ, List.setIfInBounds_toArray, List.set_cons_zero, List.set_cons_succ])
        refine Kr.takeS (i := 4) (v := ?_) [5, 6, 8] rfl (by kernel_rfl) (by kernel_rfl) (by kernel_rfl) rfl (by kernel_rfl) (by kernel_rfl) (by kernel_rfl) (fun _ _ _ h => h) (fun wx hSx => ?_) (by rfl) hS ?_
        rotate_left
        · (go_simp; first | done | rfl)
        (try simp only [Act.put, List.getElem_toArray, List.getElem_cons_zero, List.getElem_cons_succ, List.setIfInBounds_toArray, List.set_cons_zero, List.set_cons_succ])
        refine Kr.takeP (i := 5) (v := ?_) rfl (by kernel_rfl) (by kernel_rfl) (by kernel_rfl) rfl (fun _ _ _ h => h) (fun wx => ?_) (by rfl) (fun _ => hS) ?_
        rotate_left
        · (go_simp; first | done | rfl)
        (try simp only [Act.put, List.getElem_toArray, List.getElem_cons_zero, List.getElem_cons_succ, List.setIfInBounds_toArray, List.set_cons_zero, List.set_cons_succ])
        refine Kr.takeP (i := 6) (v := ?_) rfl (by kernel_rfl) (by kernel_rfl) (by kernel_rfl) rfl (fun _ _ _ h => h) (fun wx => ?_) (by rfl) (fun _ => hS) ?_
        rotate_left
        · (go_simp; first | done | rfl)
        (try simp only [Act.put, List.getElem_toArray, List.getElem_cons_zero, List.getElem_cons_succ, List.setIfInBounds_toArray, List.set_cons_zero, List.set_cons_succ])
        refine Kr.readyL (rs := [7]) (by kernel_rfl) (by simp) ?_
        refine Kr.AllL.cons rfl (fun K hK => ?_) Kr.AllL.nil
        clear hS
        go_simp
        have c0 := S_B.c0; have c1 := S_B.c1; have c2 := S_B.c2; have f0 := S_B.f0; have f1 := S_B.f1; have f2 := S_B.f2
        go_simp
        clear c0 c1 c2 f0 f1 f2
        obtain ⟨y139, hy⟩ : ∃ y, ((d138.setCell ⟨B, 0, none⟩ (.slice p2 n2 c2)).setCell ⟨B, 1, none⟩ (.slice p3 n3 c3)).setCell ⟨B, 2, none⟩ (.bool s1) = y := ⟨_, rfl⟩
        rw [hy]
        have ho : Off B d138 y139 := by rw [← hy]; exact (((Off.refl _ _).set _ _).set _ _).set _ _
        replace S_B : Stp y139 B (.slice p2 n2 c2) (.slice p3 n3 c3) (.bool s1) := by rw [← hy]; exact S_B.put _ _ _
        clear hy
        replace S_C := S_C.off ho N_BC.out.symm
        replace k_m := ho.cell _ _ (show w.heap.size + 1 ≠ B from by have := L_B.out; have := E0.out; omega) k_m
        replace f_r := ho.frz _ f_r
        replace k_r := ho.cell _ _ (show w.heap.size + 1 + 1 ≠ B from by have := L_B.out; have := E0.out; omega) k_r
        replace k_d := ho.cell _ _ (show Bq + 1 ≠ B from NC_dB.out) k_d
        replace f_F := ho.frz _ f_F
        replace k_F := ho.cell _ _ (show F ≠ B from N_BF.out.symm) k_F
        replace k_n0 := ho.cell _ _ (show C ≠ B from N_BC.out.symm) k_n0
        replace k_n1 := ho.cell _ _ (show C ≠ B from N_BC.out.symm) k_n1
        replace k_n2 := ho.cell _ _ (show C ≠ B from N_BC.out.symm) k_n2
        replace R_m := Lib.hid (ho.nw _ _ _ _ A_mB.out R_m.out)
        replace R_0 := Lib.hid (ho.nw _ _ _ _ A_0B.out R_0.out)
        replace R_1 := Lib.hid (ho.nw _ _ _ _ A_1B.out R_1.out)
        replace R_2 := Lib.hid (ho.nw _ _ _ _ A_2B.out R_2.out)
        replace R_3 := Lib.hid (ho.nw _ _ _ _ A_3B.out R_3.out)
        replace R_d := Lib.hid (ho.nw _ _ _ _ A_dB.out R_d.out)
        replace R_6 := Lib.hid (ho.nw _ _ _ _ A_6B.out R_6.out)
        replace R_7 := Lib.hid (ho.nw _ _ _ _ A_7B.out R_7.out)
        replace G := Lib.hid (ho.gr _ (by have := L_B.out; have := E0.out; omega) G.out)
        clear ho
        have hS : y139.cell? ⟨C, 0, none⟩ = some (.slice p2 n2 c2) ∧ y139.cell? ⟨C, 1, none⟩ = some (.slice p3 n3 c3) ∧ y139.cell? ⟨C, 2, none⟩ = some (.bool s1) ∧ y139.cell? ⟨Bq + 1, 0, none⟩ = some (.slice pr nr cr) ∧ y139.cell? ⟨F, 0, none⟩ = some (.slice p7 n7 c7) ∧ True := ⟨k_n0, k_n1, k_n2, k_d, k_F, trivial⟩
        refine hK.out _ _ (fun _ => hS) ?_
        clear hK K
        (try simp only [Act.put, List.getElem_toArray, List.getElem_cons_zero, List.getElem_cons_succ, List.setIfInBounds_toArray, List.set_cons_zero, List.set_cons_succ])
        refine Kr.readyL (rs := [8]) (by kernel_rfl) (by simp) ?_
        refine Kr.AllL.cons rfl (fun K hK => ?_) Kr.AllL.nil
        clear hS
        go_simp
        have c0 := S_C.c0; have c1 := S_C.c1; have c2 := S_C.c2; have f0 := S_C.f0; have f1 := S_C.f1; have f2 := S_C.f2
        go_simp
        clear c0 c1 c2 f0 f1 f2
        obtain ⟨y140, hy⟩ : ∃ y, ((y139.setCell ⟨C, 0, none⟩ (.slice pr nr cr)).setCell ⟨C, 1, none⟩ (.slice p7 n7 c7)).setCell ⟨C, 2, none⟩ (.bool (!s1)) = y := ⟨_, rfl⟩
        rw [hy]
        have ho : Off C y139 y140 := by rw [← hy]; exact (((Off.refl _ _).set _ _).set _ _).set _ _
        replace S_C : Stp y140 C (.slice pr nr cr) (.slice p7 n7 c7) (.bool (!s1)) := by rw [← hy]; exact S_C.put _ _ _
        clear hy
        clear k_n0
        clear k_n1
        clear k_n2
        replace S_B := S_B.off ho N_BC.out
        replace k_m := ho.cell _ _ (show w.heap.size + 1 ≠ C from by have := L_C.out; have := E0.out; omega) k_m
        replace f_r := ho.frz _ f_r
        replace k_r := ho.cell _ _ (show w.heap.size + 1 + 1 ≠ C from by have := L_C.out; have := E0.out; omega) k_r
        replace k_d := ho.cell _ _ (show Bq + 1 ≠ C from NC_dC.out) k_d
        replace f_F := ho.frz _ f_F
        replace k_F := ho.cell _ _ (show F ≠ C from N_CF.out.symm) k_F
        replace R_m := Lib.hid (ho.nw _ _ _ _ A_mC.out R_m.out)
        replace R_0 := Lib.hid (ho.nw _ _ _ _ A_0C.out R_0.out)
        replace R_1 := Lib.hid (ho.nw _ _ _ _ A_1C.out R_1.out)
        replace R_2 := Lib.hid (ho.nw _ _ _ _ A_2C.out R_2.out)
        replace R_3 := Lib.hid (ho.nw _ _ _ _ A_3C.out R_3.out)
        replace R_d := Lib.hid (ho.nw _ _ _ _ A_dC.out R_d.out)
        replace R_6 := Lib.hid (ho.nw _ _ _ _ A_6C.out R_6.out)
        replace R_7 := Lib.hid (ho.nw _ _ _ _ A_7C.out R_7.out)
        replace G := Lib.hid (ho.gr _ (by have := L_C.out; have := E0.out; omega) G.out)
        clear ho
        refine hK.out _ _ (Kr.noStill (by kernel_rfl)) ?_
        clear hK K
        (try simp only [Act.put, List.getElem_toArray, List.getElem_cons_zero, List.getElem_cons_succ, List.setIfInBounds_toArray, List.set_cons_zero, List.set_cons_succ])
        refine Kr.doneL (by kernel_rfl) ?_ _
        go_wp2
        go_roundw
        case rel => exact ⟨_, _, _, _, _, _, _, _, _, _, _, _, _, _, _, _, _, _, Lib.hid ⟨G.out, k_m, k_r, f_r, R_m.out, N_BC.out, L_B.out, L_C.out, A_mB.out, A_mC.out, S_B, S_C, R_2.out, R_3.out, R_d.out, R_7.out, A_2B.out, A_2C.out, A_3B.out, A_3C.out, A_dB.out, A_dC.out, A_7B.out, A_7C.out, A_3R.out, A_7R.out, HE.out.step HP.out⟩⟩
        case measure => rw [HMe.out, numAt_eq S_C.c0 R_d.out, val_digs]; exact Nat.mod_lt _ HP.out
end Go.Proofs.Ytlciocebbckdcaa.Mo


/- The contracts of the third reference's Valid, word and Modulus. -/
namespace Go.Proofs.Ytlciocebbckdcaa.Mr
open Go.RowKit Go.Shelf Go.Proofs.Ytlciocebbckdcaa.Nm Go.Proofs.Ytlciocebbckdcaa.Ne Go.Proofs.Ytlciocebbckdcaa.Nf Go.Proofs.Ytlciocebbckdcaa.Nk Go.Proofs.Ytlciocebbckdcaa.Nv Go.Proofs.Ytlciocebbckdcaa.Nr2 Go.Proofs.Ytlciocebbckdcaa.Mo

set_option maxHeartbeats 1000000 in
theorem word3_any (p : Option Addr) (n c i : Nat) (l : List Nat) (w : World) (hl : Nw w p n c l) :
    Calls Try.prog 92 #[.agg #[.slice p n c], .int .i64 (i : Int)] w fun e w' => e = .returned (.int .u64 ((l[i]?.getD 0 : Nat) : Int)) ∧ Gr w w' := by
  have HL := Lib.hid hl
  have G0 := Lib.hid ((Gr.refl w).alloc (.cells #[.slice p n c] 24))
  have hx := ok_get hl.ok i
  have hi0 : ¬ (i : Int) < 0 := by omega
  have hi1 : (0 : Int) ≤ (i : Int) := by omega
  by_cases hi : i < n
  · obtain ⟨b, off, rfl, hc⟩ := hl.rd.at (by rw [hl.len]; omega)
    have hcj := G0.out.cell (hc i (by rw [hl.len]; omega))
    clear hc hl
    have hi2 : (i : Int) < (n : Int) := by omega
    have hi3 : ¬ (n : Int) ≤ (i : Int) := by omega
    generalize l[i]?.getD 0 = x at *
    have q1 : IntKind.u64.wrap (x : Int) = (x : Int) := by rw [IntKind.wrap_u64]; omega
    go_enter Try.func92, Try.ntmps92
    go_wp2
    go_ret
    exact ⟨rfl, G0.out⟩
  · have h0 : l[i]?.getD 0 = 0 := by rw [List.getElem?_eq_none (by rw [hl.len]; omega)]; rfl
    rw [h0]
    clear hl hx h0
    have hi3 : (n : Int) ≤ (i : Int) := by omega
    go_enter Try.func92, Try.ntmps92
    go_wp2
    go_ret
    exact ⟨rfl, G0.out⟩

set_option maxHeartbeats 1000000 in
theorem valid3_any (p : Option Addr) (n c : Nat) (l : List Nat) (w : World) (hl : Nw w p n c l) :
    Calls Try.prog 29 #[.agg #[.slice p n c]] w fun e w' => e = .returned (.bool (decide (valid l))) ∧ Gr w w' := by
  have G0 := Lib.hid ((Gr.refl w).alloc (.cells #[.slice p n c] 24))
  have EN := Lib.hid hl.len
  rcases Nat.eq_zero_or_pos n with h0 | h0
  · have hv : decide (valid l) = true := decide_eq_true ⟨by rw [hl.len]; omega, .inl (by rw [hl.len]; exact h0)⟩
    rw [hv]
    subst h0
    clear hv hl
    go_enter Try.func29, Try.ntmps29
    go_wp2
    go_ret
    exact ⟨rfl, G0.out⟩
  · obtain ⟨b, off, rfl, hc⟩ := hl.rd.at (by rw [hl.len]; omega)
    obtain ⟨j, rfl⟩ : ∃ j, n = j + 1 := ⟨n - 1, by omega⟩
    have hcj := G0.out.cell (hc j (by rw [hl.len]; omega))
    have hx := ok_get hl.ok j
    have hn := hl.small
    have hv : decide (valid l) = (decide (j + 1 ≤ 64) && decide (l[j]?.getD 0 ≠ 0)) := by
      rw [Bool.eq_iff_iff, Bool.and_eq_true, decide_eq_true_iff, decide_eq_true_iff, decide_eq_true_iff]
      unfold valid Nm.tight
      rw [hl.len, Nat.add_sub_cancel]
      exact ⟨fun ⟨a, b⟩ => ⟨a, b.resolve_left (Nat.succ_ne_zero j)⟩, fun ⟨a, b⟩ => ⟨a, .inr b⟩⟩
    rw [hv]
    clear hc hl hv
    generalize l[j]?.getD 0 = x at *
    by_cases h64 : j + 1 ≤ 64
    · by_cases hx0 : x = 0
      · subst hx0
        go_enter Try.func29, Try.ntmps29
        go_wp2
        go_ret
        exact ⟨by simp; omega, G0.out⟩
      · go_enter Try.func29, Try.ntmps29
        go_wp2
        go_ret
        exact ⟨by simp [h64, hx0], G0.out⟩
    · go_enter Try.func29, Try.ntmps29
      go_wp2
      go_ret
      exact ⟨by simp <;> omega, G0.out⟩


theorem im_eq {l : List Nat} {w : World} {p : Option Addr} {n c : Nat} (hl : Nw w p n c l) : im l = (decide (valid l) && (decide (1 ≤ n) && decide (n ≤ 32))) := by
  cases hv : decide (valid l) with
  | false => unfold im; rw [decide_eq_false (fun h => of_decide_eq_false hv h.1)]; rfl
  | true =>
    obtain ⟨x, hx, rfl⟩ := nw_value hl hv
    have h1 := digs_length_le x 32
    have h2 := digs_length_le x 0
    rw [hl.len] at h1 h2
    have p0 : pw 0 = 1 := rfl
    rw [Bool.true_and, Bool.eq_iff_iff, Bool.and_eq_true, decide_eq_true_iff, decide_eq_true_iff]
    unfold im
    rw [decide_eq_true_iff, val_digs]
    constructor
    · rintro ⟨_, h3, h4⟩
      exact ⟨by omega, h1.2 h4⟩
    · rintro ⟨h3, h4⟩
      exact ⟨of_decide_eq_true hv, by omega, h1.1 h4⟩
set_option maxHeartbeats 2000000 in
theorem modulus3_any {p : Option Addr} {n c : Nat} {l : List Nat} {w : World} (hl : Nw w p n c l) :
    Calls Try.prog 75 #[.agg #[.slice p n c]] w fun e w' => e = .returned (.bool (im l)) ∧ Gr w w' := by
  rw [im_eq hl]
  have HL := Lib.hid hl
  have G0 := Lib.hid ((Gr.refl w).alloc (.cells #[.slice p n c] 24))
  have hk : (w.alloc (.cells #[.slice p n c] 24)).cell? ⟨w.heap.size, 0, none⟩ = some (.slice p n c) := by simp [go_sem]
  clear hl
  cases hv : decide (valid l) with
  | false =>
    have HV := Lib.hid hv
    clear hv
    go_enter Try.func75, Try.ntmps75
    go_wp2_with fail
    refine (valid3_any p n c l _ (HL.out.grow G0.out)).mono ?_
    rintro e w1 ⟨rfl, hg⟩
    rw [HV.out]
    have GG := Lib.hid (G0.out.trans hg)
    clear hg hk
    go_wp2
    go_ret
    exact ⟨rfl, GG.out⟩
  | true =>
    have HV := Lib.hid hv
    clear hv
    rw [Bool.true_and]
    by_cases h1 : 1 ≤ n
    · have e1 : (1 : Int) ≤ (n : Int) := by omega
      have HD : Hid ((decide (1 ≤ n) && decide (n ≤ 32)) = decide ((n : Int) ≤ 32)) := Lib.hid (by rw [decide_eq_true h1, Bool.true_and]; exact decide_eq_decide.2 (by omega))
      clear h1
      go_enter Try.func75, Try.ntmps75
      go_wp2_with fail
      refine (valid3_any p n c l _ (HL.out.grow G0.out)).mono ?_
      rintro e w1 ⟨rfl, hg⟩
      rw [HV.out]
      replace hk := hg.cell hk
      have GG := Lib.hid (G0.out.trans hg)
      clear hg
      go_wp2
      go_ret
      exact ⟨by rw [HD.out]; rfl, GG.out⟩
    · have e1 : ¬ (1 : Int) ≤ (n : Int) := by omega
      have HD : Hid ((decide (1 ≤ n) && decide (n ≤ 32)) = false) := Lib.hid (by rw [decide_eq_false h1]; rfl)
      clear h1
      go_enter Try.func75, Try.ntmps75
      go_wp2_with fail
      refine (valid3_any p n c l _ (HL.out.grow G0.out)).mono ?_
      rintro e w1 ⟨rfl, hg⟩
      rw [HV.out]
      replace hk := hg.cell hk
      have GG := Lib.hid (G0.out.trans hg)
      clear hg
      go_wp2
      go_ret
      exact ⟨by rw [HD.out]; rfl, GG.out⟩
set_option maxHeartbeats 2000000 in
/-- The laws' same. -/
theorem same3_v {p q : Option Addr} {n m c d x y : Nat} {w : World} (hl : Nw w p n c (digs x)) (hk : Nw w q m d (digs y)) :
    Calls Try.prog 23 #[.agg #[.slice p n c], .agg #[.slice q m d]] w fun e w' => e = .returned (.bool (decide (x = y))) ∧ Gr w w' := by
  have G0 := Lib.hid (((Gr.refl w).alloc (.cells #[.slice p n c] 24)).alloc (.cells #[.slice q m d] 24))
  have H : Hid (∀ W, Gr w W → Calls Try.prog 46 #[.slice p n c, .slice q m d] W fun e w' => e = .returned (.bool (decide (x = y))) ∧ Gr W w') := Lib.hid (by
    intro W hW
    by_cases h : n = m
    · subst h
      refine (equal_any p q (digs x) (digs y) n c d hl.len hk.len hl.small W (hW.rd hl.rd) (hW.rd hk.rd)).mono ?_
      rintro e w' h
      rw [show decide (x = y) = decide (digs x = digs y) from decide_eq_decide.2 digs_inj.symm]
      obtain ⟨h1, j, rfl⟩ := h
      exact ⟨h1, (Gr.refl W).drewN j⟩
    · rw [decide_eq_false (fun e => h (by rw [← hl.len, ← hk.len, e]))]
      refine (equal_len p q n m c d h W).mono ?_
      rintro e w' ⟨h1, j, rfl⟩
      exact ⟨h1, (Gr.refl W).drewN j⟩)
  clear hl hk
  go_enter Try.func23, Try.ntmps23
  go_wp2_with fail
  refine (H.out _ G0.out).mono ?_
  rintro e w1 ⟨rfl, hg⟩
  have GG := Lib.hid (G0.out.trans hg)
  clear hg
  go_wp2
  go_ret
  exact ⟨rfl, GG.out⟩
end Go.Proofs.Ytlciocebbckdcaa.Mr


/- The contract of the third reference's Less, and of Same. -/
namespace Go.Proofs.Ytlciocebbckdcaa.Mr
open Go.RowKit Go.Shelf Go.Proofs.Ytlciocebbckdcaa.Nm Go.Proofs.Ytlciocebbckdcaa.Ne Go.Proofs.Ytlciocebbckdcaa.Nf Go.Proofs.Ytlciocebbckdcaa.Nk Go.Proofs.Ytlciocebbckdcaa.Nv Go.Proofs.Ytlciocebbckdcaa.Nr2 Go.Proofs.Ytlciocebbckdcaa.Mo

set_option maxHeartbeats 2000000 in
theorem less3_len {p q : Option Addr} {n m c d x y : Nat} {w : World} (hl : Nw w p n c (digs x)) (hk : Nw w q m d (digs y)) (h : n ≠ m) :
    Calls Try.prog 36 #[.agg #[.slice p n c], .agg #[.slice q m d]] w fun e w' => e = .returned (.bool (decide (x < y))) ∧ Gr w w' := by
  have HD : Hid (decide (x < y) = decide (n < m)) := Lib.hid (by
    have h1 := digs_length_le x n
    have h2 := digs_length_le y n
    have h3 := digs_length_le x m
    have h4 := digs_length_le y m
    rw [hl.len] at h1 h3
    rw [hk.len] at h2 h4
    refine decide_eq_decide.2 ?_
    rcases Nat.lt_or_ge n m with h5 | h5
    · have := h1.1 (Nat.le_refl _)
      have : ¬ y < pw n := fun h6 => by have := h2.2 h6; omega
      omega
    · have := h4.1 (Nat.le_refl _)
      have : ¬ x < pw m := fun h6 => by have := h3.2 h6; omega
      omega)
  have G0 := Lib.hid (((Gr.refl w).alloc (.cells #[.slice p n c] 24)).alloc (.cells #[.slice q m d] 24))
  have h1 : ((n : Int) != (m : Int)) = true := by simp; omega
  clear h hl hk
  go_enter Try.func36, Try.ntmps36
  go_wp2
  go_ret
  exact ⟨by rw [HD.out]; rfl, G0.out⟩
set_option maxRecDepth 100000 in
set_option maxHeartbeats 4000000 in
theorem less3_eq {p q : Option Addr} {n c d x y : Nat} {w : World} (hl : Nw w p n c (digs x)) (hk : Nw w q n d (digs y)) :
    Calls Try.prog 36 #[.agg #[.slice p n c], .agg #[.slice q n d]] w fun e w' => e = .returned (.bool (decide (x < y))) ∧ Gr w w' := by
  have HL := Lib.hid hl
  have HK := Lib.hid hk
  have hn := hl.small
  have G0 := Lib.hid (((Gr.refl w).alloc (.cells #[.slice p n c] 24)).alloc (.cells #[.slice q n d] 24))
  have hn0 : ((n : Int) != (n : Int)) = false := by simp
  have hw0 : IntKind.i64.wrap ((n : Int) - 1) = (n : Int) - 1 := IntWalk.i64_in _ (by omega)
  clear hl hk
  go_enter Try.func36, Try.ntmps36
  go_wp2
  go_loopw [5] (fun i wr => ∃ k : Nat, k ≤ n ∧ (k = 0 ∧ i = .int .i64 (-1) ∨ ∃ j : Nat, k = j + 1 ∧ i = .int .i64 (j : Int)) ∧ Hid (∀ j, k ≤ j → j < n → (digs x)[j]?.getD 0 = (digs y)[j]?.getD 0) ∧ wr.cell? ⟨w.heap.size, 0, none⟩ = some (.slice p n c) ∧ wr.cell? ⟨w.heap.size + 1, 0, none⟩ = some (.slice q n d) ∧ Hid (Gr w wr)) (fun i _ => (intOf i + 1).toNat)
  case atStart =>
    refine ⟨n, Nat.le_refl _, ?_, (fun j h1 h2 => absurd h2 (Nat.not_lt.2 h1)), by simp [go_sem], by simp [go_sem], G0⟩
    rcases Nat.eq_zero_or_pos n with h0 | h0
    · exact .inl ⟨h0, by subst h0; rfl⟩
    · exact .inr ⟨n - 1, by omega, by congr 1; omega⟩
  case round =>
    clear hn0 hw0
    obtain ⟨k, hk, hik, HS, b1, b2, HG⟩ := hrel
    rcases hik with ⟨rfl, rfl⟩ | ⟨j, rfl, rfl⟩
    · go_wp2
      go_ret
      refine ⟨?_, HG.out⟩
      show Ending.returned (.bool false) = _
      rw [decide_eq_false]
      intro h
      have e : digs x = digs y := SameTo.eq (by rw [HL.out.len]; exact fun i hi => HS.out i (Nat.zero_le _) hi) (by rw [HL.out.len, HK.out.len])
      rw [digs_inj.1 e] at h
      omega
    · obtain ⟨b, off, rfl, hc⟩ := (HG.out.rd HL.out.rd).at (by rw [HL.out.len]; omega)
      have hc1 := hc j (by rw [HL.out.len]; omega)
      clear hc
      obtain ⟨b', off', rfl, hc⟩ := (HG.out.rd HK.out.rd).at (by rw [HK.out.len]; omega)
      have hc2 := hc j (by rw [HK.out.len]; omega)
      clear hc
      obtain ⟨u, hu⟩ : ∃ u, (digs x)[j]?.getD 0 = u := ⟨_, rfl⟩
      obtain ⟨v, hv⟩ : ∃ v, (digs y)[j]?.getD 0 = v := ⟨_, rfl⟩
      rw [hu] at hc1
      rw [hv] at hc2
      have HU := Lib.hid hu
      have HV := Lib.hid hv
      clear hu hv
      have hk0 : (0 : Int) ≤ (j : Int) := by omega
      have hk1 : (j : Int) < (n : Int) := by omega
      have hk2 : IntKind.i64.wrap ((j : Int) - 1) = (j : Int) - 1 := IntWalk.i64_in _ (by omega)
      by_cases huv : u = v
      · subst huv
        go_wp2
        go_quiet (fail)
        go_wp2
        go_roundw
        case rel =>
          refine ⟨j, by omega, ?_, (fun i h1 h2 => by
            by_cases e : i = j
            · subst e; rw [HU.out, HV.out]
            · exact HS.out i (by omega) h2), b1, b2, HG.out.drewN _⟩
          rcases Nat.eq_zero_or_pos j with h0 | h0
          · exact .inl ⟨h0, by subst h0; rfl⟩
          · exact .inr ⟨j - 1, by omega, by congr 1; omega⟩
        case measure => simp [intOf] <;> omega
      · have hne : ((u : Int) != (v : Int)) = true := by simp; omega
        have HD : Hid (decide (x < y) = decide (u < v)) := Lib.hid (by
          have h2 : ∀ i, j < i → i < (digs x).length → (digs x)[i]?.getD 0 = (digs y)[i]?.getD 0 := fun i h1 h2 => HS.out i h1 (by rwa [HL.out.len] at h2)
          have el : (digs x).length = (digs y).length := by rw [HL.out.len, HK.out.len]
          refine decide_eq_decide.2 ?_
          rcases Nat.lt_or_ge u v with h1 | h1
          · have := lt_of_top HL.out.ok el j (by rw [HL.out.len]; omega) (by rw [HU.out, HV.out]; exact h1) h2
            rw [val_digs, val_digs] at this
            omega
          · have := lt_of_top HK.out.ok el.symm j (by rw [HK.out.len]; omega) (by rw [HU.out, HV.out]; omega) (fun i a b => (h2 i a (by rw [el]; exact b)).symm)
            rw [val_digs, val_digs] at this
            omega)
        clear huv
        go_wp2
        go_quiet (fail)
        go_wp2
        go_quiet (fail)
        go_wp2
        go_ret
        exact ⟨by rw [HD.out]; rfl, (HG.out.drewN _).drewN _⟩
theorem less3_v {p q : Option Addr} {n m c d x y : Nat} {w : World} (hl : Nw w p n c (digs x)) (hk : Nw w q m d (digs y)) :
    Calls Try.prog 36 #[.agg #[.slice p n c], .agg #[.slice q m d]] w fun e w' => e = .returned (.bool (decide (x < y))) ∧ Gr w w' := by
  by_cases h : n = m
  · subst h; exact less3_eq hl hk
  · exact less3_len hl hk h
end Go.Proofs.Ytlciocebbckdcaa.Mr


/- The contracts of layer 3's few and first, and of what they call. -/
namespace Go.Proofs.Ytlciocebbckdcaa.Mr
open Go.RowKit Go.Shelf Go.Proofs.Ytlciocebbckdcaa.Nm Go.Proofs.Ytlciocebbckdcaa.Ne Go.Proofs.Ytlciocebbckdcaa.Nf Go.Proofs.Ytlciocebbckdcaa.Nk Go.Proofs.Ytlciocebbckdcaa.Nv Go.Proofs.Ytlciocebbckdcaa.Nr2 Go.Proofs.Ytlciocebbckdcaa.Mo

set_option maxHeartbeats 2000000 in
theorem few1 {p : Option Addr} {n c N : Nat} {A : Addr} {w : World} (hA : w.cell? A = some (.int .i64 (N : Int))) :
    Calls Try.prog 69 #[.agg #[.slice p n c], .pointer (some A)] w fun e w' => e = .returned (.bool (decide (N < n))) ∧ Gr w w' := by
  have G0 := Lib.hid ((Gr.refl w).alloc (.cells #[.slice p n c] 24))
  have k := G0.out.cell hA
  clear hA
  go_enter Try.func69, Try.ntmps69
  go_wp2
  go_ret
  exact ⟨by first | rfl | (simp; omega), G0.out⟩
set_option maxHeartbeats 2000000 in
theorem first1 {p : Option Addr} {n c : Nat} {l : List Nat} {w : World} (hl : Nw w p n c l) :
    Calls Try.prog 76 #[.agg #[.slice p n c]] w fun e w' => e = .returned (.bool (!decide (valid l))) ∧ Gr w w' := by
  have G0 := Lib.hid ((Gr.refl w).alloc (.cells #[.slice p n c] 24))
  have HL := Lib.hid hl
  clear hl
  go_enter Try.func76, Try.ntmps76
  go_wp2_with fail
  refine (valid3_any p n c l _ (HL.out.grow G0.out)).mono ?_
  rintro e w1 ⟨rfl, hg⟩
  have GG := Lib.hid (G0.out.trans hg)
  clear hg
  go_wp2
  go_ret
  exact ⟨by first | rfl | simp, GG.out⟩
set_option maxHeartbeats 2000000 in
theorem first2 {p q : Option Addr} {n c m d x y : Nat} {A : Addr} {w : World} (hA : w.cell? A = some (.slice q m d)) (hl : Nw w p n c (digs x)) (hk : Nw w q m d (digs y)) :
    Calls Try.prog 77 #[.agg #[.slice p n c], .pointer (some A)] w fun e w' => e = .returned (.bool (!decide (x < y))) ∧ Gr w w' := by
  have G0 := Lib.hid ((Gr.refl w).alloc (.cells #[.slice p n c] 24))
  have HL := Lib.hid hl
  have HK := Lib.hid hk
  have k := G0.out.cell hA
  clear hl hk hA
  go_enter Try.func77, Try.ntmps77
  go_wp2_with fail
  refine (less3_v (HL.out.grow G0.out) (HK.out.grow G0.out)).mono ?_
  rintro e w1 ⟨rfl, hg⟩
  have GG := Lib.hid (G0.out.trans hg)
  clear hg
  go_wp2
  go_ret
  exact ⟨by first | rfl | simp, GG.out⟩

set_option maxHeartbeats 2000000 in
theorem ix_few (A : Addr) (P : Nat → Bool) (b off n c : Nat) (xs : List (Option Addr × Nat × Nat)) (ex : xs.length = n) (hn : n ≤ 1000) (w : World) (h : Nats w b off xs)
    (H : ∀ j, j < n → ∀ W, Gr w W → Calls Try.prog 69 #[.agg #[.slice (xs[j]?.getD (none, 0, 0)).1 (xs[j]?.getD (none, 0, 0)).2.1 (xs[j]?.getD (none, 0, 0)).2.2], .pointer (some A)] W fun e w' => e = .returned (.bool (P j)) ∧ Gr W w') :
    Calls Try.prog 109 #[.slice (some ⟨b, off, none⟩) n c, .func (.func 69) #[] #[.pointer (some A)]] w fun e w' =>
      (∃ i : Int, e = .returned (.int .i64 i) ∧ (0 ≤ i ↔ ∃ j, j < n ∧ P j = true)) ∧ Gr w w' := by
  have HN := Lib.hid h
  have HP := Lib.hid H
  have EX := Lib.hid ex
  clear h ex H
  go_enter Try.func109, Try.ntmps109
  go_wp2
  go_loopw [8] (fun i wr => ∃ k : Nat, k ≤ n ∧ i = .int .i64 k ∧ Hid (∀ j, j < k → P j = false) ∧ Hid (Gr w wr)) (fun i _ => n - (intOf i).toNat)
  case atStart => exact ⟨0, Nat.zero_le _, rfl, fun i hi => absurd hi (Nat.not_lt_zero i), Gr.refl w⟩
  case round =>
    obtain ⟨k, hk, rfl, HS, HG⟩ := hrel
    by_cases hlt : k < n
    · have hc := HG.out.cell (HN.out k (by rw [EX.out]; exact hlt))
      have HC := Lib.hid (HP.out k hlt)
      obtain ⟨x, hx⟩ : ∃ x, xs[k]?.getD (none, 0, 0) = x := ⟨_, rfl⟩
      rw [hx] at hc HC
      clear hx
      obtain ⟨xp, xn, xc⟩ := x
      dsimp only at hc
      have HC2 : Hid (∀ W, Gr w W → Calls Try.prog 69 #[.agg #[.slice xp xn xc], .pointer (some A)] W fun e w' => e = .returned (.bool (P k)) ∧ Gr W w') := HC
      clear HC
      have hk0 : (0 : Int) ≤ (k : Int) := by omega
      have hk1 : (k : Int) < (n : Int) := by omega
      obtain ⟨v, hv⟩ : ∃ v, P k = v := ⟨_, rfl⟩
      rw [hv] at HC2
      have HV := Lib.hid hv
      clear hv
      cases v with
      | true =>
        go_wp2_with fail
        refine (HC2.out _ HG.out).mono ?_
        rintro e w1 ⟨rfl, hg⟩
        have HG1 := Lib.hid (HG.out.trans hg)
        clear hg hc
        go_wp2
        go_ret
        exact ⟨⟨_, rfl, ⟨fun _ => ⟨k, hlt, HV.out⟩, fun _ => by omega⟩⟩, HG1.out⟩
      | false =>
        go_wp2_with fail
        refine (HC2.out _ HG.out).mono ?_
        rintro e w1 ⟨rfl, hg⟩
        have HG1 := Lib.hid (HG.out.trans hg)
        clear hg hc
        go_wp2
        go_roundw
        case rel => exact ⟨k + 1, by omega, by go_num, (fun i hi => by
          by_cases e : i = k
          · subst e; exact HV.out
          · exact HS.out i (by omega)), HG1⟩
        case measure => simp [intOf]; omega
    · obtain rfl : k = n := by omega
      go_wp2
      go_ret
      exact ⟨⟨_, rfl, ⟨fun h => by omega, fun ⟨j, h1, h2⟩ => by rw [HS.out j h1] at h2; cases h2⟩⟩, HG.out⟩
set_option maxHeartbeats 2000000 in
theorem cf_few (A : Addr) (P : Nat → Bool) (b off n c : Nat) (xs : List (Option Addr × Nat × Nat)) (ex : xs.length = n) (hn : n ≤ 1000) (w : World) (h : Nats w b off xs)
    (H : ∀ j, j < n → ∀ W, Gr w W → Calls Try.prog 69 #[.agg #[.slice (xs[j]?.getD (none, 0, 0)).1 (xs[j]?.getD (none, 0, 0)).2.1 (xs[j]?.getD (none, 0, 0)).2.2], .pointer (some A)] W fun e w' => e = .returned (.bool (P j)) ∧ Gr W w') (v : Bool) (hv : v = true ↔ ∃ j, j < n ∧ P j = true) :
    Calls Try.prog 68 #[.slice (some ⟨b, off, none⟩) n c, .func (.func 69) #[] #[.pointer (some A)]] w fun e w' => e = .returned (.bool v) ∧ Gr w w' := by
  have HI := Lib.hid (ix_few A P b off n c xs ex hn w h H)
  have HV := Lib.hid hv
  clear h ex H hv
  go_enter Try.func68, Try.ntmps68
  go_wp2_with fail
  refine HI.out.mono ?_
  rintro e w1 ⟨⟨i, rfl, hi⟩, hg⟩
  have HD : Hid (v = decide (0 ≤ i)) := Lib.hid (by rw [Bool.eq_iff_iff, HV.out, decide_eq_true_iff, hi])
  have HG := Lib.hid hg
  clear hi hg
  go_wp2
  go_ret
  exact ⟨by rw [HD.out]; rfl, HG.out⟩

set_option maxHeartbeats 2000000 in
theorem ix_f1 (P : Nat → Bool) (b off n c : Nat) (xs : List (Option Addr × Nat × Nat)) (ex : xs.length = n) (hn : n ≤ 1000) (w : World) (h : Nats w b off xs)
    (H : ∀ j, j < n → ∀ W, Gr w W → Calls Try.prog 76 #[.agg #[.slice (xs[j]?.getD (none, 0, 0)).1 (xs[j]?.getD (none, 0, 0)).2.1 (xs[j]?.getD (none, 0, 0)).2.2]] W fun e w' => e = .returned (.bool (P j)) ∧ Gr W w') :
    Calls Try.prog 109 #[.slice (some ⟨b, off, none⟩) n c, .func (.func 76) #[] #[]] w fun e w' =>
      (∃ i : Int, e = .returned (.int .i64 i) ∧ (0 ≤ i ↔ ∃ j, j < n ∧ P j = true)) ∧ Gr w w' := by
  have HN := Lib.hid h
  have HP := Lib.hid H
  have EX := Lib.hid ex
  clear h ex H
  go_enter Try.func109, Try.ntmps109
  go_wp2
  go_loopw [8] (fun i wr => ∃ k : Nat, k ≤ n ∧ i = .int .i64 k ∧ Hid (∀ j, j < k → P j = false) ∧ Hid (Gr w wr)) (fun i _ => n - (intOf i).toNat)
  case atStart => exact ⟨0, Nat.zero_le _, rfl, fun i hi => absurd hi (Nat.not_lt_zero i), Gr.refl w⟩
  case round =>
    obtain ⟨k, hk, rfl, HS, HG⟩ := hrel
    by_cases hlt : k < n
    · have hc := HG.out.cell (HN.out k (by rw [EX.out]; exact hlt))
      have HC := Lib.hid (HP.out k hlt)
      obtain ⟨x, hx⟩ : ∃ x, xs[k]?.getD (none, 0, 0) = x := ⟨_, rfl⟩
      rw [hx] at hc HC
      clear hx
      obtain ⟨xp, xn, xc⟩ := x
      dsimp only at hc
      have HC2 : Hid (∀ W, Gr w W → Calls Try.prog 76 #[.agg #[.slice xp xn xc]] W fun e w' => e = .returned (.bool (P k)) ∧ Gr W w') := HC
      clear HC
      have hk0 : (0 : Int) ≤ (k : Int) := by omega
      have hk1 : (k : Int) < (n : Int) := by omega
      obtain ⟨v, hv⟩ : ∃ v, P k = v := ⟨_, rfl⟩
      rw [hv] at HC2
      have HV := Lib.hid hv
      clear hv
      cases v with
      | true =>
        go_wp2_with fail
        refine (HC2.out _ HG.out).mono ?_
        rintro e w1 ⟨rfl, hg⟩
        have HG1 := Lib.hid (HG.out.trans hg)
        clear hg hc
        go_wp2
        go_ret
        exact ⟨⟨_, rfl, ⟨fun _ => ⟨k, hlt, HV.out⟩, fun _ => by omega⟩⟩, HG1.out⟩
      | false =>
        go_wp2_with fail
        refine (HC2.out _ HG.out).mono ?_
        rintro e w1 ⟨rfl, hg⟩
        have HG1 := Lib.hid (HG.out.trans hg)
        clear hg hc
        go_wp2
        go_roundw
        case rel => exact ⟨k + 1, by omega, by go_num, (fun i hi => by
          by_cases e : i = k
          · subst e; exact HV.out
          · exact HS.out i (by omega)), HG1⟩
        case measure => simp [intOf]; omega
    · obtain rfl : k = n := by omega
      go_wp2
      go_ret
      exact ⟨⟨_, rfl, ⟨fun h => by omega, fun ⟨j, h1, h2⟩ => by rw [HS.out j h1] at h2; cases h2⟩⟩, HG.out⟩
set_option maxHeartbeats 2000000 in
theorem cf_f1 (P : Nat → Bool) (b off n c : Nat) (xs : List (Option Addr × Nat × Nat)) (ex : xs.length = n) (hn : n ≤ 1000) (w : World) (h : Nats w b off xs)
    (H : ∀ j, j < n → ∀ W, Gr w W → Calls Try.prog 76 #[.agg #[.slice (xs[j]?.getD (none, 0, 0)).1 (xs[j]?.getD (none, 0, 0)).2.1 (xs[j]?.getD (none, 0, 0)).2.2]] W fun e w' => e = .returned (.bool (P j)) ∧ Gr W w') (v : Bool) (hv : v = true ↔ ∃ j, j < n ∧ P j = true) :
    Calls Try.prog 68 #[.slice (some ⟨b, off, none⟩) n c, .func (.func 76) #[] #[]] w fun e w' => e = .returned (.bool v) ∧ Gr w w' := by
  have HI := Lib.hid (ix_f1 P b off n c xs ex hn w h H)
  have HV := Lib.hid hv
  clear h ex H hv
  go_enter Try.func68, Try.ntmps68
  go_wp2_with fail
  refine HI.out.mono ?_
  rintro e w1 ⟨⟨i, rfl, hi⟩, hg⟩
  have HD : Hid (v = decide (0 ≤ i)) := Lib.hid (by rw [Bool.eq_iff_iff, HV.out, decide_eq_true_iff, hi])
  have HG := Lib.hid hg
  clear hi hg
  go_wp2
  go_ret
  exact ⟨by rw [HD.out]; rfl, HG.out⟩

set_option maxHeartbeats 2000000 in
theorem ix_f2 (A : Addr) (P : Nat → Bool) (b off n c : Nat) (xs : List (Option Addr × Nat × Nat)) (ex : xs.length = n) (hn : n ≤ 1000) (w : World) (h : Nats w b off xs)
    (H : ∀ j, j < n → ∀ W, Gr w W → Calls Try.prog 77 #[.agg #[.slice (xs[j]?.getD (none, 0, 0)).1 (xs[j]?.getD (none, 0, 0)).2.1 (xs[j]?.getD (none, 0, 0)).2.2], .pointer (some A)] W fun e w' => e = .returned (.bool (P j)) ∧ Gr W w') :
    Calls Try.prog 109 #[.slice (some ⟨b, off, none⟩) n c, .func (.func 77) #[] #[.pointer (some A)]] w fun e w' =>
      (∃ i : Int, e = .returned (.int .i64 i) ∧ (0 ≤ i ↔ ∃ j, j < n ∧ P j = true)) ∧ Gr w w' := by
  have HN := Lib.hid h
  have HP := Lib.hid H
  have EX := Lib.hid ex
  clear h ex H
  go_enter Try.func109, Try.ntmps109
  go_wp2
  go_loopw [8] (fun i wr => ∃ k : Nat, k ≤ n ∧ i = .int .i64 k ∧ Hid (∀ j, j < k → P j = false) ∧ Hid (Gr w wr)) (fun i _ => n - (intOf i).toNat)
  case atStart => exact ⟨0, Nat.zero_le _, rfl, fun i hi => absurd hi (Nat.not_lt_zero i), Gr.refl w⟩
  case round =>
    obtain ⟨k, hk, rfl, HS, HG⟩ := hrel
    by_cases hlt : k < n
    · have hc := HG.out.cell (HN.out k (by rw [EX.out]; exact hlt))
      have HC := Lib.hid (HP.out k hlt)
      obtain ⟨x, hx⟩ : ∃ x, xs[k]?.getD (none, 0, 0) = x := ⟨_, rfl⟩
      rw [hx] at hc HC
      clear hx
      obtain ⟨xp, xn, xc⟩ := x
      dsimp only at hc
      have HC2 : Hid (∀ W, Gr w W → Calls Try.prog 77 #[.agg #[.slice xp xn xc], .pointer (some A)] W fun e w' => e = .returned (.bool (P k)) ∧ Gr W w') := HC
      clear HC
      have hk0 : (0 : Int) ≤ (k : Int) := by omega
      have hk1 : (k : Int) < (n : Int) := by omega
      obtain ⟨v, hv⟩ : ∃ v, P k = v := ⟨_, rfl⟩
      rw [hv] at HC2
      have HV := Lib.hid hv
      clear hv
      cases v with
      | true =>
        go_wp2_with fail
        refine (HC2.out _ HG.out).mono ?_
        rintro e w1 ⟨rfl, hg⟩
        have HG1 := Lib.hid (HG.out.trans hg)
        clear hg hc
        go_wp2
        go_ret
        exact ⟨⟨_, rfl, ⟨fun _ => ⟨k, hlt, HV.out⟩, fun _ => by omega⟩⟩, HG1.out⟩
      | false =>
        go_wp2_with fail
        refine (HC2.out _ HG.out).mono ?_
        rintro e w1 ⟨rfl, hg⟩
        have HG1 := Lib.hid (HG.out.trans hg)
        clear hg hc
        go_wp2
        go_roundw
        case rel => exact ⟨k + 1, by omega, by go_num, (fun i hi => by
          by_cases e : i = k
          · subst e; exact HV.out
          · exact HS.out i (by omega)), HG1⟩
        case measure => simp [intOf]; omega
    · obtain rfl : k = n := by omega
      go_wp2
      go_ret
      exact ⟨⟨_, rfl, ⟨fun h => by omega, fun ⟨j, h1, h2⟩ => by rw [HS.out j h1] at h2; cases h2⟩⟩, HG.out⟩
set_option maxHeartbeats 2000000 in
theorem cf_f2 (A : Addr) (P : Nat → Bool) (b off n c : Nat) (xs : List (Option Addr × Nat × Nat)) (ex : xs.length = n) (hn : n ≤ 1000) (w : World) (h : Nats w b off xs)
    (H : ∀ j, j < n → ∀ W, Gr w W → Calls Try.prog 77 #[.agg #[.slice (xs[j]?.getD (none, 0, 0)).1 (xs[j]?.getD (none, 0, 0)).2.1 (xs[j]?.getD (none, 0, 0)).2.2], .pointer (some A)] W fun e w' => e = .returned (.bool (P j)) ∧ Gr W w') (v : Bool) (hv : v = true ↔ ∃ j, j < n ∧ P j = true) :
    Calls Try.prog 68 #[.slice (some ⟨b, off, none⟩) n c, .func (.func 77) #[] #[.pointer (some A)]] w fun e w' => e = .returned (.bool v) ∧ Gr w w' := by
  have HI := Lib.hid (ix_f2 A P b off n c xs ex hn w h H)
  have HV := Lib.hid hv
  clear h ex H hv
  go_enter Try.func68, Try.ntmps68
  go_wp2_with fail
  refine HI.out.mono ?_
  rintro e w1 ⟨⟨i, rfl, hi⟩, hg⟩
  have HD : Hid (v = decide (0 ≤ i)) := Lib.hid (by rw [Bool.eq_iff_iff, HV.out, decide_eq_true_iff, hi])
  have HG := Lib.hid hg
  clear hi hg
  go_wp2
  go_ret
  exact ⟨by rw [HD.out]; rfl, HG.out⟩

end Go.Proofs.Ytlciocebbckdcaa.Mr


/- The contracts of layer 3's few and first. -/
namespace Go.Proofs.Ytlciocebbckdcaa.Mr
open Go.RowKit Go.Shelf Go.Proofs.Ytlciocebbckdcaa.Nm Go.Proofs.Ytlciocebbckdcaa.Ne Go.Proofs.Ytlciocebbckdcaa.Nf Go.Proofs.Ytlciocebbckdcaa.Nk Go.Proofs.Ytlciocebbckdcaa.Nv Go.Proofs.Ytlciocebbckdcaa.Nr2 Go.Proofs.Ytlciocebbckdcaa.Mo

/-- A number of a list. -/
def at3 (xs : List (Option Addr × Nat × Nat)) (j : Nat) : Option Addr × Nat × Nat := xs[j]?.getD (none, 0, 0)
theorem nats_grow {w W : World} {b off : Nat} {xs : List (Option Addr × Nat × Nat)} (h : Nats w b off xs) (g : Gr w W) : Nats W b off xs := fun i hi => g.cell (h i hi)
set_option maxHeartbeats 2000000 in
theorem few_any (N b off n c : Nat) (xs : List (Option Addr × Nat × Nat)) (ex : xs.length = n) (hn : n ≤ 1000) (w : World) (h : Nats w b off xs) (v : Bool) (hv : v = true ↔ ∃ j, j < n ∧ N < (at3 xs j).2.1) :
    Calls Try.prog 19 #[.int .i64 (N : Int), .slice (some ⟨b, off, none⟩) n c] w fun e w' => e = .returned (.bool (!v)) ∧ Gr w w' := by
  have G0 := Lib.hid ((Gr.refl w).alloc (.cells #[.int .i64 (N : Int)] 3))
  have hk : (w.alloc (.cells #[.int .i64 (N : Int)] 3)).cell? ⟨w.heap.size, 0, none⟩ = some (.int .i64 (N : Int)) := by simp [go_sem]
  have HC := Lib.hid (cf_few ⟨w.heap.size, 0, none⟩ (fun j => decide (N < (at3 xs j).2.1)) b off n c xs ex hn _ (nats_grow h G0.out) (fun j _ W hW => few1 (hW.cell hk)) v (by rw [hv]; exact ⟨fun ⟨j, a, b⟩ => ⟨j, a, decide_eq_true b⟩, fun ⟨j, a, b⟩ => ⟨j, a, of_decide_eq_true b⟩⟩))
  clear h hv ex hk
  go_enter Try.func19, Try.ntmps19
  go_wp2_with fail
  refine HC.out.mono ?_
  rintro e w1 ⟨rfl, hg⟩
  have GG := Lib.hid (G0.out.trans hg)
  clear hg
  go_wp2
  go_ret
  exact ⟨rfl, GG.out⟩
section
variable {p : Option Addr} {n c : Nat} {l : List Nat} {w : World}
set_option maxHeartbeats 2000000 in
theorem first_mod (s : Value) (hl : Nw w p n c l) (hi : im l = false) :
    Calls Try.prog 22 #[.agg #[.slice p n c], s] w fun e w' => e = .returned (.int .i64 1) ∧ Gr w w' := by
  have G0 := Lib.hid ((Gr.refl w).alloc (.cells #[.slice p n c] 24))
  have HL := Lib.hid hl
  have HI := Lib.hid hi
  clear hl hi
  go_enter Try.func22, Try.ntmps22
  go_wp2_with fail
  refine (modulus3_any (HL.out.grow G0.out)).mono ?_
  rintro e w1 ⟨rfl, hg⟩
  rw [HI.out]
  have GG := Lib.hid (G0.out.trans hg)
  clear hg
  go_wp2
  go_ret
  exact ⟨rfl, GG.out⟩
set_option maxHeartbeats 2000000 in
theorem first_bad (b off k d : Nat) (xs : List (Option Addr × Nat × Nat)) (ls : Nat → List Nat) (ex : xs.length = k) (hn : k ≤ 1000) (h : Nats w b off xs) (hx : ∀ j, j < k → Nw w (at3 xs j).1 (at3 xs j).2.1 (at3 xs j).2.2 (ls j)) (hl : Nw w p n c l) (hi : im l = true) (hb : ∃ j, j < k ∧ decide (valid (ls j)) = false) :
    Calls Try.prog 22 #[.agg #[.slice p n c], .slice (some ⟨b, off, none⟩) k d] w fun e w' => e = .returned (.int .i64 1) ∧ Gr w w' := by
  have G0 := Lib.hid ((Gr.refl w).alloc (.cells #[.slice p n c] 24))
  have HL := Lib.hid hl
  have HI := Lib.hid hi
  have HC := Lib.hid (fun W (hW : Gr w W) => cf_f1 (fun j => !decide (valid (ls j))) b off k d xs ex hn W (nats_grow h hW) (fun j hj W' hW' => first1 ((hx j hj).grow (hW.trans hW'))) true (by obtain ⟨j, h1, h2⟩ := hb; exact ⟨fun _ => ⟨j, h1, by rw [h2]; rfl⟩, fun _ => rfl⟩))
  clear hl hi h hx hb ex
  go_enter Try.func22, Try.ntmps22
  go_wp2_with fail
  refine (modulus3_any (HL.out.grow G0.out)).mono ?_
  rintro e w1 ⟨rfl, hg⟩
  rw [HI.out]
  have G1 := Lib.hid (G0.out.trans hg)
  clear hg
  go_wp2_with fail
  refine (HC.out _ G1.out).mono ?_
  rintro e w2 ⟨rfl, hg⟩
  have G2 := Lib.hid (G1.out.trans hg)
  clear hg
  go_wp2
  go_ret
  exact ⟨rfl, G2.out⟩
set_option maxHeartbeats 2000000 in
theorem first_v (b off k d m : Nat) (xs : List (Option Addr × Nat × Nat)) (ys : Nat → Nat) (ex : xs.length = k) (hn : k ≤ 1000) (h : Nats w b off xs) (hx : ∀ j, j < k → Nw w (at3 xs j).1 (at3 xs j).2.1 (at3 xs j).2.2 (digs (ys j))) (hy : ∀ j, j < k → ys j < pw 64) (hl : Nw w p n c (digs m)) (h0 : 0 < m) (hm : m < pw 32) (v : Bool) (hv : v = true ↔ ∃ j, j < k ∧ ¬ ys j < m) :
    Calls Try.prog 22 #[.agg #[.slice p n c], .slice (some ⟨b, off, none⟩) k d] w fun e w' => e = .returned (.int .i64 (if v then 2 else 0)) ∧ Gr w w' := by
  have G0 := Lib.hid ((Gr.refl w).alloc (.cells #[.slice p n c] 24))
  have hk : (w.alloc (.cells #[.slice p n c] 24)).cell? ⟨w.heap.size, 0, none⟩ = some (.slice p n c) := by simp [go_sem]
  have HL := Lib.hid hl
  have HI := Lib.hid (im_digs h0 hm)
  have HC := Lib.hid (fun W (hW : Gr w W) => cf_f1 (fun j => !decide (valid (digs (ys j)))) b off k d xs ex hn W (nats_grow h hW) (fun j hj W' hW' => first1 ((hx j hj).grow (hW.trans hW'))) false (by
    refine ⟨fun e => (by cases e), fun ⟨j, h1, h2⟩ => ?_⟩
    rw [dv (hy j h1)] at h2
    cases h2))
  have HE := Lib.hid (fun W (hW : Gr w W) (hA : W.cell? ⟨w.heap.size, 0, none⟩ = some (.slice p n c)) => cf_f2 ⟨w.heap.size, 0, none⟩ (fun j => !decide (ys j < m)) b off k d xs ex hn W (nats_grow h hW) (fun j hj W' hW' => first2 (hW'.cell hA) ((hx j hj).grow (hW.trans hW')) (hl.grow (hW.trans hW'))) v (by
    rw [hv]
    exact ⟨fun ⟨j, a, b⟩ => ⟨j, a, by rw [decide_eq_false b]; rfl⟩, fun ⟨j, a, b⟩ => ⟨j, a, fun hlt => by rw [decide_eq_true hlt] at b; cases b⟩⟩))
  clear hl h0 hm h hx hy hv ex
  cases v with
  | true =>
    go_enter Try.func22, Try.ntmps22
    go_wp2_with fail
    refine (modulus3_any (HL.out.grow G0.out)).mono ?_
    rintro e w1 ⟨rfl, hg⟩
    rw [HI.out]
    replace hk := hg.cell hk
    have G1 := Lib.hid (G0.out.trans hg)
    clear hg
    go_wp2_with fail
    refine (HC.out _ G1.out).mono ?_
    rintro e w2 ⟨rfl, hg⟩
    replace hk := hg.cell hk
    have G2 := Lib.hid (G1.out.trans hg)
    clear hg
    go_wp2_with fail
    refine (HE.out _ G2.out hk).mono ?_
    rintro e w3 ⟨rfl, hg⟩
    have G3 := Lib.hid (G2.out.trans hg)
    clear hg
    go_wp2
    go_ret
    exact ⟨rfl, G3.out⟩
  | false =>
    go_enter Try.func22, Try.ntmps22
    go_wp2_with fail
    refine (modulus3_any (HL.out.grow G0.out)).mono ?_
    rintro e w1 ⟨rfl, hg⟩
    rw [HI.out]
    replace hk := hg.cell hk
    have G1 := Lib.hid (G0.out.trans hg)
    clear hg
    go_wp2_with fail
    refine (HC.out _ G1.out).mono ?_
    rintro e w2 ⟨rfl, hg⟩
    replace hk := hg.cell hk
    have G2 := Lib.hid (G1.out.trans hg)
    clear hg
    go_wp2_with fail
    refine (HE.out _ G2.out hk).mono ?_
    rintro e w3 ⟨rfl, hg⟩
    have G3 := Lib.hid (G2.out.trans hg)
    clear hg
    go_wp2
    go_ret
    exact ⟨rfl, G3.out⟩
end
end Go.Proofs.Ytlciocebbckdcaa.Mr


/- The contract of the third reference's Same. -/
namespace Go.Proofs.Ytlciocebbckdcaa.Mr
open Go.RowKit Go.Shelf Go.Proofs.Ytlciocebbckdcaa.Nm Go.Proofs.Ytlciocebbckdcaa.Ne Go.Proofs.Ytlciocebbckdcaa.Nf Go.Proofs.Ytlciocebbckdcaa.Nk Go.Proofs.Ytlciocebbckdcaa.Nv Go.Proofs.Ytlciocebbckdcaa.Nr2 Go.Proofs.Ytlciocebbckdcaa.Mo

set_option maxHeartbeats 2000000 in
theorem same3r_v {p q : Option Addr} {n m c d x y : Nat} {w : World} (hl : Nw w p n c (digs x)) (hk : Nw w q m d (digs y)) :
    Calls Try.prog 37 #[.agg #[.slice p n c], .agg #[.slice q m d]] w fun e w' => e = .returned (.bool (decide (x = y))) ∧ Gr w w' := by
  have G0 := Lib.hid (((Gr.refl w).alloc (.cells #[.slice p n c] 24)).alloc (.cells #[.slice q m d] 24))
  have HL := Lib.hid hl
  have HK := Lib.hid hk
  have k_a : ((w.alloc (.cells #[.slice p n c] 24)).alloc (.cells #[.slice q m d] 24)).cell? ⟨w.heap.size, 0, none⟩ = some (.slice p n c) := by simp [go_sem]
  have k_b : ((w.alloc (.cells #[.slice p n c] 24)).alloc (.cells #[.slice q m d] 24)).cell? ⟨w.heap.size + 1, 0, none⟩ = some (.slice q m d) := by simp [go_sem]
  clear hl hk
  by_cases h : x < y
  · have H1 := Lib.hid (decide_eq_true h)
    have HE : Hid (decide (x = y) = false) := Lib.hid (decide_eq_false (by omega))
    clear h
    go_enter Try.func37, Try.ntmps37
    go_wp2_with fail
    refine (less3_v (HL.out.grow G0.out) (HK.out.grow G0.out)).mono ?_
    rintro e w1 ⟨rfl, hg⟩
    rw [H1.out]
    have G1 := Lib.hid (G0.out.trans hg)
    clear hg k_a k_b
    go_wp2
    go_ret
    exact ⟨by rw [HE.out]; rfl, G1.out⟩
  · have H1 := Lib.hid (decide_eq_false h)
    have HE : Hid (decide (x = y) = !decide (y < x)) := Lib.hid (by
      by_cases h2 : y < x
      · rw [decide_eq_true h2, decide_eq_false (by omega)]; rfl
      · rw [decide_eq_false h2, decide_eq_true (by omega)]; rfl)
    clear h
    go_enter Try.func37, Try.ntmps37
    go_wp2_with fail
    refine (less3_v (HL.out.grow G0.out) (HK.out.grow G0.out)).mono ?_
    rintro e w1 ⟨rfl, hg⟩
    rw [H1.out]
    replace k_a := hg.cell k_a
    replace k_b := hg.cell k_b
    have G1 := Lib.hid (G0.out.trans hg)
    clear hg
    go_wp2_with fail
    refine (less3_v (HK.out.grow G1.out) (HL.out.grow G1.out)).mono ?_
    rintro e w2 ⟨rfl, hg⟩
    have G2 := Lib.hid (G1.out.trans hg)
    clear hg k_a k_b
    go_wp2
    go_ret
    exact ⟨by rw [HE.out]; first | rfl | simp, G2.out⟩
end Go.Proofs.Ytlciocebbckdcaa.Mr


/- The contracts of the reference's Of, Bit, Bits and Int. -/
namespace Go.Proofs.Ytlciocebbckdcaa.Nr2
open Go.RowKit Go.Shelf Go.Proofs.Ytlciocebbckdcaa.Nm Go.Proofs.Ytlciocebbckdcaa.Ne Go.Proofs.Ytlciocebbckdcaa.Nf Go.Proofs.Ytlciocebbckdcaa.Nk Go.Proofs.Ytlciocebbckdcaa.Nv

theorem rem_two (x t : Nat) : ((x : Int) / 2 ^ t % 2 == 1) = x.testBit t := by
  have e : (x : Int) / 2 ^ t % 2 = ((x / 2 ^ t % 2 : Nat) : Int) := by
    rw [Int.natCast_emod, Int.natCast_ediv, Int.natCast_pow]; rfl
  rw [e, Nat.testBit_eq_decide_div_mod_eq, Bool.eq_iff_iff, beq_iff_eq, decide_eq_true_iff]
  omega

theorem bit_step {x k : Nat} (h : x < 2 ^ (k + 1)) (hb : x.testBit k = false) : x < 2 ^ k := by
  rcases Nat.lt_or_ge x (2 ^ k) with h1 | h1
  · exact h1
  · exfalso
    rw [Nat.testBit_eq_decide_div_mod_eq, decide_eq_false_iff_not] at hb
    apply hb
    have h2 : x / 2 ^ k < 2 := (Nat.div_lt_iff_lt_mul (Nat.pow_pos (by decide))).2 (by rw [Nat.pow_succ, Nat.mul_comm] at h; exact h)
    have h3 : 1 ≤ x / 2 ^ k := (Nat.le_div_iff_mul_le (Nat.pow_pos (by decide))).2 (by rw [Nat.one_mul]; exact h1)
    omega
theorem nb_of_bit {x k : Nat} (h : x < 2 ^ (k + 1)) (hb : x.testBit k = true) : nb x = k + 1 := by
  apply Nat.le_antisymm ((nb_le x (k + 1)).2 h)
  apply Nat.succ_le_of_lt
  apply Nat.lt_of_not_le
  intro hh
  have := (nb_le x k).1 hh
  rw [Nat.testBit_lt_two_pow this] at hb
  cases hb
theorem nb_zero : nb 0 = 0 := Nat.le_zero.1 ((nb_le 0 0).2 (by decide))

end Go.Proofs.Ytlciocebbckdcaa.Nr2


/- The contract of the third reference's Bit. -/
namespace Go.Proofs.Ytlciocebbckdcaa.Mr
open Go.RowKit Go.Shelf Go.Proofs.Ytlciocebbckdcaa.Nm Go.Proofs.Ytlciocebbckdcaa.Ne Go.Proofs.Ytlciocebbckdcaa.Nf Go.Proofs.Ytlciocebbckdcaa.Nk Go.Proofs.Ytlciocebbckdcaa.Nv Go.Proofs.Ytlciocebbckdcaa.Nr2 Go.Proofs.Ytlciocebbckdcaa.Mo

set_option maxRecDepth 100000 in
set_option maxHeartbeats 2000000 in
theorem bit3_in (p : Option Addr) (n c i : Nat) (l : List Nat) (w : World) (h : Nw w p n c l) (hi : i < 32 * n) :
    Calls Try.prog 85 #[.agg #[.slice p n c], .int .i64 (i : Int)] w fun e w' => e = .returned (.bool ((val l).testBit i)) ∧ Gr w w' := by
  have HT := Lib.hid (testBit_val h.ok i)
  have hn := h.small
  obtain ⟨q, hq⟩ : ∃ q, i / 32 = q := ⟨_, rfl⟩
  obtain ⟨t, ht⟩ : ∃ t, i % 32 = t := ⟨_, rfl⟩
  have d1 : (i : Int) / 32 = (q : Int) := by omega
  have d2 : (i : Int) % 32 = (t : Int) := by omega
  have d3 : (i : Int).tdiv 32 = (q : Int) := by rw [Int.tdiv_eq_ediv_of_nonneg (by omega)]; exact d1
  have d4 : (i : Int).tmod 32 = (t : Int) := by rw [Int.tmod_eq_emod_of_nonneg (by omega)]; exact d2
  have w1 : IntKind.i64.wrap (q : Int) = (q : Int) := IntWalk.i64_in _ (by omega)
  have i0 : ¬ (i : Int) < 0 := by omega
  have ht32 : t < 32 := by omega
  have ht0 : ¬ (t : Int) < 0 := by omega
  have hlt : q < n := by omega
  have hq0 : (0 : Int) ≤ (q : Int) := by omega
  have hq1 : (q : Int) < (n : Int) := by omega
  rw [hq] at HT
  rw [ht] at HT
  obtain ⟨b, off, rfl, hc⟩ := h.rd.at (by rw [h.len]; omega)
  have hc1 := ((Gr.refl w).alloc (.cells #[.slice (some ⟨b, off, none⟩) n c] 24)).cell (hc q (by rw [h.len]; omega))
  have G0 := Lib.hid ((Gr.refl w).alloc (.cells #[.slice (some ⟨b, off, none⟩) n c] 24))
  clear hc h hq ht
  generalize l[q]?.getD 0 = x at *
  have E : Hid (((x : Int) / 2 ^ t % 2 == 1) = x.testBit t) := Lib.hid (rem_two x t)
  go_enter Try.func85, Try.ntmps85
  go_wp2
  go_ret
  exact ⟨ret_bool (by rw [HT.out]; exact E.out), G0.out⟩
theorem bit3_out (p : Option Addr) (n c i : Nat) (w : World) (hi : 32 * n ≤ i) (hs : i < 9223372036854775808) :
    Calls Try.prog 85 #[.agg #[.slice p n c], .int .i64 (i : Int)] w fun e w' => e = .returned (.bool false) ∧ Gr w w' := by
  have G0 := Lib.hid ((Gr.refl w).alloc (.cells #[.slice p n c] 24))
  obtain ⟨q, hq⟩ : ∃ q, i / 32 = q := ⟨_, rfl⟩
  have d1 : (i : Int) / 32 = (q : Int) := by omega
  have d3 : (i : Int).tdiv 32 = (q : Int) := by rw [Int.tdiv_eq_ediv_of_nonneg (by omega)]; exact d1
  have w1 : IntKind.i64.wrap (q : Int) = (q : Int) := IntWalk.i64_in _ (by omega)
  have hlt : ¬ q < n := by omega
  have hlt2 : ¬ (q : Int) < (n : Int) := by omega
  clear hi hs hq
  go_enter Try.func85, Try.ntmps85
  go_wp2
  go_ret
  exact ⟨rfl, G0.out⟩
theorem bit3_v (p : Option Addr) (n c i : Nat) (x : Nat) (w : World) (hs : i < 9223372036854775808) (h : Nw w p n c (digs x)) :
    Calls Try.prog 85 #[.agg #[.slice p n c], .int .i64 (i : Int)] w fun e w' => e = .returned (.bool (x.testBit i)) ∧ Gr w w' := by
  rcases Nat.lt_or_ge i (32 * n) with hi | hi
  · have := bit3_in p n c i _ w h hi
    rwa [val_digs] at this
  · have hz : x.testBit i = false := by
      apply Nat.testBit_lt_two_pow
      have h1 : x < pw n := (digs_length_le x n).1 (by rw [h.len]; exact Nat.le_refl _)
      rw [pw_eq] at h1
      exact Nat.lt_of_lt_of_le h1 (Nat.pow_le_pow_right (by decide) hi)
    rw [hz]
    exact bit3_out p n c i w hi hs
end Go.Proofs.Ytlciocebbckdcaa.Mr


/- The contract of the third reference's Bits. -/
namespace Go.Proofs.Ytlciocebbckdcaa.Mr
open Go.RowKit Go.Shelf Go.Proofs.Ytlciocebbckdcaa.Nm Go.Proofs.Ytlciocebbckdcaa.Ne Go.Proofs.Ytlciocebbckdcaa.Nf Go.Proofs.Ytlciocebbckdcaa.Nk Go.Proofs.Ytlciocebbckdcaa.Nv Go.Proofs.Ytlciocebbckdcaa.Nr2 Go.Proofs.Ytlciocebbckdcaa.Mo

set_option maxRecDepth 100000 in
set_option maxHeartbeats 2000000 in
theorem bits3_v (p : Option Addr) (n c x : Nat) (w : World) (h : Nw w p n c (digs x)) :
    Calls Try.prog 84 #[.agg #[.slice p n c]] w fun e w' => e = .returned (.int .i64 (nb x)) ∧ Gr w w' := by
  have hn := h.small
  have G0 := Lib.hid ((Gr.refl w).alloc (.cells #[.slice p n c] 24))
  have HB := Lib.hid (fun i (hi : i < 9223372036854775808) W (hW : Gr w W) => bit3_v p n c i x W hi (h.grow hW))
  have HX : Hid (x < 2 ^ (32 * n)) := Lib.hid (by
    have h1 : x < pw n := (digs_length_le x n).1 (by rw [h.len]; exact Nat.le_refl _)
    rwa [pw_eq] at h1)
  have w2 : IntKind.i64.wrap (32 * (n : Int)) = 32 * (n : Int) := IntWalk.i64_in _ (by omega)
  clear h
  go_enter Try.func84, Try.ntmps84
  go_wp2
  go_loopw [3] (fun i wr => ∃ k : Nat, k ≤ 32 * n ∧ i = .int .i64 (k : Int) ∧ Hid (x < 2 ^ k) ∧ wr.cell? ⟨w.heap.size, 0, none⟩ = some (.slice p n c) ∧ Hid (Gr w wr)) (fun i _ => (intOf i).toNat)
  case atStart => exact ⟨32 * n, Nat.le_refl _, (by congr 1), HX, by simp [go_sem], G0⟩
  case round =>
    clear w2 HX
    obtain ⟨k, hk, rfl, HS, b1, HG⟩ := hrel
    rcases Nat.eq_zero_or_pos k with h0 | h0
    · subst h0
      have HZ : Hid (nb x = 0) := Lib.hid (Nat.le_zero.1 ((nb_le x 0).2 HS.out))
      go_wp2
      go_ret
      exact ⟨by rw [HZ.out]; rfl, HG.out⟩
    · obtain ⟨j, rfl⟩ : ∃ j, k = j + 1 := ⟨k - 1, by omega⟩
      have e : ((j + 1 : Nat) : Int) = (j : Int) + 1 := by omega
      rw [e]
      have q0 : (0 : Int) < (j : Int) + 1 := by omega
      have q1 : IntKind.i64.wrap ((j : Int) + 1 - 1) = (j : Int) := by rw [IntWalk.i64_in _ (by omega)]; omega
      have q2 : IntKind.i64.wrap (j : Int) = (j : Int) := IntWalk.i64_in _ (by omega)
      have HJ := Lib.hid (HB.out j (by omega))
      clear e h0
      cases hb : x.testBit j with
      | true =>
        have HZ : Hid (nb x = j + 1) := Lib.hid (nb_of_bit HS.out hb)
        rw [hb] at HJ
        clear hb
        go_wp2_with fail
        refine (HJ.out _ HG.out).mono ?_
        rintro e w1 ⟨rfl, hg⟩
        have GG := Lib.hid (HG.out.trans hg)
        clear hg b1
        go_wp2
        go_ret
        exact ⟨by rw [HZ.out]; rfl, GG.out⟩
      | false =>
        have HZ : Hid (x < 2 ^ j) := Lib.hid (bit_step HS.out hb)
        rw [hb] at HJ
        clear hb
        go_wp2_with fail
        refine (HJ.out _ HG.out).mono ?_
        rintro e w1 ⟨rfl, hg⟩
        replace b1 := hg.cell b1
        have GG := Lib.hid (HG.out.trans hg)
        clear hg
        go_wp2
        go_roundw
        case rel => exact ⟨j, by omega, by go_num, HZ, b1, GG⟩
        case measure => simp [intOf] <;> omega
end Go.Proofs.Ytlciocebbckdcaa.Mr


/- The contracts of the third reference's trim and Of. -/
namespace Go.Proofs.Ytlciocebbckdcaa.Mr
open Go.RowKit Go.Shelf Go.Proofs.Ytlciocebbckdcaa.Nm Go.Proofs.Ytlciocebbckdcaa.Ne Go.Proofs.Ytlciocebbckdcaa.Nf Go.Proofs.Ytlciocebbckdcaa.Nk Go.Proofs.Ytlciocebbckdcaa.Nv Go.Proofs.Ytlciocebbckdcaa.Nr2 Go.Proofs.Ytlciocebbckdcaa.Mo

set_option maxRecDepth 100000 in
set_option maxHeartbeats 2000000 in
theorem trim3_any (p : Option Addr) (n c : Nat) (l : List Nat) (w : World) (h : Nw w p n c l) :
    Calls Try.prog 91 #[.slice p n c] w fun e w' => ∃ k, e = .returned (.agg #[.slice p k c]) ∧ k ≤ n ∧ l.take k = digs (val l) ∧ Gr w w' := by
  have HL := Lib.hid h
  have hn := h.small
  have hle := h.le
  have G0 := Lib.hid ((Gr.refl w).alloc (.cells #[.slice none 0 0] 24))
  clear h
  go_enter Try.func91, Try.ntmps91
  go_wp2
  go_loopw [0] (fun s wr => ∃ k : Nat, k ≤ n ∧ s = .slice p k c ∧ Hid (∀ i, k ≤ i → l[i]?.getD 0 = 0) ∧ Hid (wr.cell? ⟨w.heap.size, 0, none⟩ = some (.slice none 0 0)) ∧ Hid (wr.frozen? ⟨w.heap.size, 0, none⟩ = false) ∧ Hid (Gr w wr)) (fun s _ => match s with | .slice _ k _ => k | _ => 0)
  case atStart => exact ⟨n, Nat.le_refl _, rfl, (fun i hi => by rw [List.getElem?_eq_none (by rw [HL.out.len]; exact hi)]; rfl), Lib.hid (by simp [go_sem]), Lib.hid (by simp [go_sem]), G0⟩
  case round =>
    obtain ⟨k, hk, rfl, HS, HC, HF, HG⟩ := hrel
    rcases Nat.eq_zero_or_pos k with h0 | h0
    · subst h0
      have HT := Lib.hid (trim_done HL.out.ok (Nat.zero_le _) HS.out (fun h => absurd h (Nat.lt_irrefl 0)))
      have c1 := HC.out
      have f1 := HF.out
      go_wp2
      refine bodyPost_ret (v := .agg #[.slice p 0 c]) (by simp [results, Try.results91, go_sem, c1]) rfl ⟨0, rfl, Nat.zero_le _, HT.out, HG.out.setCell (Nat.le_refl _) _⟩
    · obtain ⟨j, rfl⟩ : ∃ j, k = j + 1 := ⟨k - 1, by omega⟩
      obtain ⟨b, off, rfl, hc⟩ := (HG.out.rd HL.out.rd).at (by rw [HL.out.len]; omega)
      have hc1 := hc j (by rw [HL.out.len]; omega)
      clear hc
      obtain ⟨u, hu⟩ : ∃ u, l[j]?.getD 0 = u := ⟨_, rfl⟩
      rw [hu] at hc1
      have HU := Lib.hid hu
      clear hu h0
      by_cases h0 : u = 0
      · subst h0
        go_wp2
        go_roundw
        case rel =>
          refine ⟨j, by omega, ?_, (fun i hi => by
            by_cases e : i = j
            · subst e; exact HU.out
            · exact HS.out i (by omega)), HC, HF, HG⟩
          first | rfl | (congr 1; omega) | simp
        case measure => first | omega | (simp; done) | (simp <;> omega)
      · have HT := Lib.hid (trim_done HL.out.ok (k := j + 1) (by rw [HL.out.len]; exact hk) HS.out (fun _ => by rw [Nat.add_sub_cancel, HU.out]; exact h0))
        have c1 := HC.out
        have f1 := HF.out
        have hu1 : ¬ (u : Int) = 0 := by omega
        go_wp2
        refine bodyPost_ret (v := .agg #[.slice (some ⟨b, off, none⟩) (j + 1) c]) (by simp [results, Try.results91, go_sem, c1]) rfl ⟨j + 1, rfl, hk, HT.out, HG.out.setCell (Nat.le_refl _) _⟩

/-- What trim has made of words of the call's own. -/
theorem trim_nr {B : Nat} {w' : World} {p : Option Addr} {n c k : Nat} {l : List Nat} (hl : Nr B w' p n c l) (hk : k ≤ n) (ht : l.take k = digs (val l)) : Nr B w' p k c (digs (val l)) := by
  rw [← ht]
  refine ⟨⟨by rw [List.length_take, hl.len]; omega, Nat.le_trans hk hl.le, fun e => ⟨by have := (hl.nil e).1; omega, (hl.nil e).2⟩, hl.rd.take k, ?_, Nat.le_trans hk hl.small⟩, hl.own.take k⟩
  rw [ht]
  exact ok_digs _
set_option maxRecDepth 100000 in
set_option maxHeartbeats 2000000 in
theorem of3_v (x : Nat) (h : x < 18446744073709551616) (w : World) : Calls Try.prog 38 #[.int .u64 (x : Int)] w (Num x w) := by
  obtain ⟨lo, hlo⟩ : ∃ lo, x % 4294967296 = lo := ⟨_, rfl⟩
  obtain ⟨hi, hhi⟩ : ∃ hi, x / 4294967296 = hi := ⟨_, rfl⟩
  have d1 : (x : Int) % 4294967296 = (lo : Int) := by omega
  have d2 : (x : Int) / 4294967296 = (hi : Int) := by omega
  have d3 : (x : Int).tmod 4294967296 = (lo : Int) := by rw [Int.tmod_eq_emod_of_nonneg (by omega)]; exact d1
  have u3 : IntKind.u32.wrap (lo : Int) = (lo : Int) := by rw [IntKind.wrap_u32]; omega
  have u4 : IntKind.u32.wrap (hi : Int) = (hi : Int) := by rw [IntKind.wrap_u32]; omega
  have HX : Hid (val [lo, hi] = x) := Lib.hid (by simp only [val]; omega)
  have HO : Hid (ok [lo, hi]) := Lib.hid (by simp only [ok_cons]; exact ⟨by omega, by omega, ok_nil⟩)
  have G2 := Lib.hid (((Gr.refl w).alloc (.cells #[.slice none 0 0] 24)).alloc (.cells #[.int .u32 lo, .int .u32 hi] 50))
  have HN : Hid (Nr (w.heap.size + 1) ((w.alloc (.cells #[.slice none 0 0] 24)).alloc (.cells #[.int .u32 lo, .int .u32 hi] 50)) (some ⟨w.heap.size + 1, 0, none⟩) 2 2 [lo, hi]) := Lib.hid (by
    refine ⟨nw_lit rfl HO.out (by decide) ?_, .inr ⟨w.heap.size + 1, 0, rfl, Nat.le_refl _, ?_⟩⟩
    · intro i hi
      match i, hi with
      | 0, _ => simp [go_sem]
      | 1, _ => simp [go_sem]
    · intro i hi
      match i, hi with
      | 0, _ => simp [go_sem]
      | 1, _ => simp [go_sem])
  clear hlo hhi h
  go_enter Try.func38, Try.ntmps38
  go_wp2_with fail
  refine (trim3_any (some ⟨w.heap.size + 1, 0, none⟩) 2 2 [lo, hi] _ HN.out.toNw).mono ?_
  rintro e w2 ⟨k, rfl, hk, ht, hg⟩
  have k2 := hg.cell (p := ⟨w.heap.size, 0, none⟩) (v := .slice none 0 0) (by simp [go_sem])
  have f2 := hg.frozen (p := ⟨w.heap.size, 0, none⟩) (v := .slice none 0 0) (by simp [go_sem]) (by simp [go_sem])
  have HR := Lib.hid (trim_nr (HN.out.grow hg) hk ht)
  have GG := Lib.hid (G2.out.trans hg)
  clear hk ht hg
  go_wp2
  refine bodyPost_ret (v := .agg #[.slice (some ⟨w.heap.size + 1, 0, none⟩) k 2]) (by simp [results, Try.results38, go_sem, k2]) rfl ⟨_, _, _, rfl, ?_, GG.out.setCell (Nat.le_refl _) _⟩
  rw [← HX.out]
  exact (HR.out.set' _ _ (fun x e => own_ne HR.out e) (tight_digs _)).mono (Nat.le_succ _)
end Go.Proofs.Ytlciocebbckdcaa.Mr


/- The contract of the laws' equal: a number whose value is that of two words of 64 bits. -/
namespace Go.Proofs.Ytlciocebbckdcaa.Nv
open Go.RowKit Go.Shelf Go.Proofs.Ytlciocebbckdcaa.Nm Go.Proofs.Ytlciocebbckdcaa.Ne Go.Proofs.Ytlciocebbckdcaa.Nf Go.Proofs.Ytlciocebbckdcaa.Nk

theorem digs_get : ∀ (i x : Nat), (digs x)[i]?.getD 0 = x / pw i % 4294967296
  | 0, x => by
    rcases Nat.eq_zero_or_pos x with h | h
    · subst h; rw [digs_zero]; rfl
    · rw [digs_pos (by omega)]; simp [pw]
  | i + 1, x => by
    rcases Nat.eq_zero_or_pos x with h | h
    · subst h; rw [digs_zero]; simp
    · rw [digs_pos (by omega), List.getElem?_cons_succ, digs_get i, Nat.div_div_eq_div_mul]; rfl

/-- The words of two words of 64 bits. -/
def four (lo hi : Nat) (i : Nat) : Nat := match i with
  | 0 => lo % 4294967296
  | 1 => lo / 4294967296
  | 2 => hi % 4294967296
  | _ => hi / 4294967296
theorem four_eq {lo hi x : Nat} (hlo : lo < 18446744073709551616) (hhi : hi < 18446744073709551616) (e : x = lo + 18446744073709551616 * hi) : ∀ i, i < 4 → (digs x)[i]?.getD 0 = four lo hi i := by
  intro i hi4
  rw [digs_get]
  have p0 : pw 0 = 1 := rfl
  have p1 : pw 1 = 4294967296 := rfl
  have p2 : pw 2 = 18446744073709551616 := rfl
  have p3 : pw 3 = 79228162514264337593543950336 := rfl
  match i, hi4 with
  | 0, _ => rw [p0]; show x / 1 % 4294967296 = lo % 4294967296; omega
  | 1, _ => rw [p1]; show x / 4294967296 % 4294967296 = lo / 4294967296; omega
  | 2, _ => rw [p2]; show x / 18446744073709551616 % 4294967296 = hi % 4294967296; omega
  | 3, _ => rw [p3]; show x / 79228162514264337593543950336 % 4294967296 = hi / 4294967296; omega

end Go.Proofs.Ytlciocebbckdcaa.Nv


/- The contracts of the reference's Int, Compare and longer. -/
namespace Go.Proofs.Ytlciocebbckdcaa.Nr2
open Go.RowKit Go.Shelf Go.Proofs.Ytlciocebbckdcaa.Nm Go.Proofs.Ytlciocebbckdcaa.Ne Go.Proofs.Ytlciocebbckdcaa.Nf Go.Proofs.Ytlciocebbckdcaa.Nk Go.Proofs.Ytlciocebbckdcaa.Nv

/-- The digit with an index. -/
def dg (x i : Nat) : Nat := x / pw i % 4294967296
theorem dg_lt (x i : Nat) : dg x i < 4294967296 := Nat.mod_lt _ (by decide)
theorem dg_top {x y j : Nat} (h : x / pw (j + 1) = y / pw (j + 1)) : (dg x j = dg y j → x / pw j = y / pw j) ∧ (dg x j < dg y j → x < y) := by
  have e : pw (j + 1) = pw j * 4294967296 := by rw [pw_add]; rfl
  have ex : x / pw j / 4294967296 = y / pw j / 4294967296 := by rw [Nat.div_div_eq_div_mul, Nat.div_div_eq_div_mul, ← e]; exact h
  unfold dg
  refine ⟨fun hd => by omega, fun hd => ?_⟩
  apply Nat.lt_of_not_le
  intro hh
  have := Nat.div_le_div_right (c := pw j) hh
  omega

end Go.Proofs.Ytlciocebbckdcaa.Nr2


/- A list of words that a loop builds by append: what holds between two rounds. -/
namespace Go.Proofs.Ytlciocebbckdcaa.Nr2
open Go.RowKit Go.Shelf Go.Proofs.Ytlciocebbckdcaa.Nm Go.Proofs.Ytlciocebbckdcaa.Ne Go.Proofs.Ytlciocebbckdcaa.Nf Go.Proofs.Ytlciocebbckdcaa.Nk Go.Proofs.Ytlciocebbckdcaa.Nv

/-- The slice v holds the words r, in a block of its own that is younger than W0; what was in W0 is there. -/
def Bld (W0 : World) (v : Value) (r : List Nat) (w : World) : Prop :=
  (∃ p cap, v = .slice p r.length cap) ∧ w.ownsRow W0.heap.size 50 1 v r.length (cw r) ∧ Below W0.heap.size W0 w
theorem Bld.start (W0 : World) : Bld W0 (.slice none 0 0) [] W0 := ⟨⟨none, 0, rfl⟩, ⟨by simp [cw], .inl ⟨rfl, rfl⟩⟩, Below.refl _ _⟩
theorem ownsRow_below {w w' : World} {B : Nat} {e : TypeId} {s n : Nat} {v : Value} {xs : List Value} (h : w.ownsRow B e s v n xs) (g : Gr w w') : w'.ownsRow B e s v n xs := by
  refine ⟨h.1, ?_⟩
  rcases h.2 with h0 | ⟨b, cap, cur, h1, h2, h3, h4⟩
  · exact .inl h0
  · refine .inr ⟨b, cap, cur, h1, h2, ?_, h4⟩
    rw [g.block b (Array.getElem?_eq_some_iff.1 h3).1]
    exact h3
theorem Bld.grow {W0 w w' : World} {v : Value} {r : List Nat} (h : Bld W0 v r w) (g : Gr w w') : Bld W0 v r w' :=
  ⟨h.1, ownsRow_below h.2.1 g, Below.trans h.2.2 (Below.mono g h.2.2.size)⟩
theorem Bld.cell {W0 w : World} {v : Value} {r : List Nat} (h : Bld W0 v r w) {a : Addr} {u : Value} (hc : W0.cell? a = some u) : w.cell? a = some u :=
  Gr.cell (w := W0) h.2.2 hc
theorem Bld.frozen {W0 w : World} {v : Value} {r : List Nat} (h : Bld W0 v r w) {a : Addr} {u : Value} (hc : W0.cell? a = some u) (hf : W0.frozen? a = false) : w.frozen? a = false :=
  Gr.frozen (w := W0) h.2.2 hc hf
/-- The step: a word has been appended, out of a block that has just been written. -/
theorem Bld.step {W0 w w1 : World} {v v1 : Value} {r : List Nat} {x k : Nat} (hk : r.length = k) (h : Bld W0 v r w) (ho : w1.ownsRow W0.heap.size 50 1 v1 (k + 1) (cw r ++ [.int .u32 (x : Int)])) (hg : w.grownBy w1 v.ownBlock) :
    Bld W0 v1 (r ++ [x]) w1 ∧ ∃ p cap, v1 = .slice p (k + 1) cap := by
  subst hk
  have hl : (r ++ [x]).length = r.length + 1 := by simp
  have hc : cw (r ++ [x]) = cw r ++ [.int .u32 (x : Int)] := by simp [cw]
  have ho' : w1.ownsRow W0.heap.size 50 1 v1 (r ++ [x]).length (cw (r ++ [x])) := by rw [hl, hc]; exact ho
  have hs : ∃ p cap, v1 = .slice p (r ++ [x]).length cap := by
    obtain ⟨p, cap, e, _⟩ := own_row rfl ho'
    exact ⟨p, cap, e⟩
  refine ⟨⟨hs, ho', ?_⟩, by rw [hl] at hs; exact hs⟩
  refine ⟨hg.os.trans h.2.2.os, hg.tape.trans h.2.2.tape, hg.output.trans h.2.2.output, Nat.le_trans h.2.2.size hg.size, fun k hk => ?_⟩
  rw [← h.2.2.block k hk]
  refine hg.block k (Nat.lt_of_lt_of_le hk h.2.2.size) (fun e => ?_)
  rcases h.2.1.2 with ⟨e0, _⟩ | ⟨b, cap, cur, e0, hb, _⟩
  · rw [e0] at e; cases e
  · rw [e0] at e
    have : k = b := Option.some.inj e
    omega
theorem Bld.row {W0 w : World} {v : Value} {r : List Nat} {k : Nat} (hk : r.length = k) (h : Bld W0 v r w) (o : Obj) : (w.alloc o).ownsRow W0.heap.size 50 1 v k (cw r) := by
  subst hk
  exact h.2.1.alloc o
theorem Bld.nw' {W0 w : World} {p : Option Addr} {n cap : Nat} {r : List Nat} (h : Bld W0 (.slice p n cap) r w) (hok : ok r) (hs : r.length ≤ 1048576) : Nw w p n cap r := by
  obtain ⟨p', cap', e, hcap, hpn, ho⟩ := own_row rfl h.2.1
  cases e
  exact ⟨rfl, hcap, fun e => ⟨by rw [(hpn e).1]; rfl, (hpn e).2⟩, ho.rd, hok, hs⟩
theorem one_new (w : World) (x : Nat) : ∀ (j : Nat) (u : Value), ([Value.int .u32 (x : Int)])[j]? = some u → (w.alloc (.cells #[.int .u32 (x : Int)] 50)).cell? ((⟨w.heap.size, 0, none⟩ : Addr).add j) = some u := by
  intro j u hu
  match j, hu with
  | 0, hu =>
    simp at hu
    rw [← hu, addr_add]
    simp [go_sem]
  | j + 1, hu => simp at hu

theorem mod_step (x k : Nat) : x % pw (k + 1) = x % pw k + pw k * dg x k := by
  rw [pw_add, Nat.mod_mul]
  rfl
theorem val_snoc (r : List Nat) (x : Nat) : val (r ++ [x]) = val r + pw r.length * x := by
  rw [val_append]
  simp [val]
end Go.Proofs.Ytlciocebbckdcaa.Nr2


/- The state of a walk: the cells of variables, the facts that last. -/
namespace Go.Proofs.Ytlciocebbckdcaa.Kr
open Go Go.RowKit Go.Proofs.Ytlciocebbckdcaa.Nm Go.Proofs.Ytlciocebbckdcaa.Ne Go.Proofs.Ytlciocebbckdcaa.Nf Go.Proofs.Ytlciocebbckdcaa.Nk Go.Proofs.Ytlciocebbckdcaa.Nr2

/-- A value that no data of words or bytes holds. -/
def noData : Value → Bool
  | .int .u32 _ => false
  | .int .u8 _ => false
  | _ => true
/-- These cells hold these values, and can be written. -/
def Cells (W : World) : List (Nat × Nat × Value) → Prop
  | [] => True
  | x :: r => (W.cell? ⟨x.1, x.2.1, none⟩ = some x.2.2 ∧ W.frozen? ⟨x.1, x.2.1, none⟩ = false) ∧ Cells W r
theorem Cells.grow {W W' : World} (g : Gr W W') : ∀ {cs : List (Nat × Nat × Value)}, Cells W cs → Cells W' cs
  | [], _ => trivial
  | _ :: _, h => ⟨⟨g.cell h.1.1, g.frozen h.1.1 h.1.2⟩, Cells.grow g h.2⟩
theorem Cells.get {W : World} : ∀ {cs : List (Nat × Nat × Value)} (i : Nat) {x : Nat × Nat × Value}, Cells W cs → cs[i]? = some x → W.cell? ⟨x.1, x.2.1, none⟩ = some x.2.2 ∧ W.frozen? ⟨x.1, x.2.1, none⟩ = false
  | [], _, _, _, e => by simp at e
  | y :: _, 0, x, h, e => by
    have e2 : y = x := by simpa using e
    rw [← e2]; exact h.1
  | _ :: _, i + 1, _, h, e => Cells.get i h.2 (by simpa using e)
theorem Cells.sub {W : World} {cs : List (Nat × Nat × Value)} (h : Cells W cs) : ∀ (is : List Nat) {l : List (Nat × Nat × Value)}, is.filterMap (fun i => cs[i]?) = l → Cells W l
  | [], l, e => by
    have : l = [] := by simpa using e.symm
    subst this; trivial
  | i :: is, l, e => by
    cases hi : cs[i]? with
    | none =>
      rw [List.filterMap_cons_none hi] at e
      exact Cells.sub h is e
    | some x =>
      rw [List.filterMap_cons_some hi] at e
      subst e
      exact ⟨Cells.get i h hi, Cells.sub h is rfl⟩
/-- A fact that lasts: what grows, and what is stored into a variable, leave it. -/
structure Keep (F : World → Prop) : Prop where
  grow : ∀ {W W' : World}, F W → Gr W W' → F W'
  off : ∀ {W : World} {a : Addr} {v0 : Value} (v : Value), F W → W.cell? a = some v0 → noData v0 = true → F (W.setCell a v)
/-- A number. -/
def N (p : Option Addr) (n c x : Nat) : World → Prop := fun W => Nw W p n c (digs x)
theorem noInt_of {v : Value} {n : Int} (h : noData v = true) : v ≠ .int .u32 n := by
  rintro rfl
  cases h
theorem nw_offD {W : World} {p : Option Addr} {n c : Nat} {l : List Nat} (h : Nw W p n c l) {a : Addr} {v0 : Value} (hk : W.cell? a = some v0) (hv : noData v0 = true) (v : Value) : Nw (W.setCell a v) p n c l := by
  refine ⟨h.len, h.le, h.nil, ?_, h.ok, h.small⟩
  rcases h.rd with h0 | ⟨b, off, rfl, hc⟩
  · exact .inl h0
  · refine .inr ⟨b, off, rfl, fun i hi => ?_⟩
    rw [World.cell?_setCell_other _ _ _ _ (fun e => ?_)]
    · exact hc i hi
    · have h1 := hc i hi
      rw [← e, hk] at h1
      exact noInt_of hv (Option.some.inj h1)
theorem keepN (p : Option Addr) (n c x : Nat) : Keep (N p n c x) := ⟨fun h g => Nw.grow h g, fun v h hk hv => nw_offD h hk hv v⟩
/-- Words, whatever they are. -/
def Ws (p : Option Addr) (n c : Nat) (l : List Nat) : World → Prop := fun W => Nw W p n c l
theorem keepWs (p : Option Addr) (n c : Nat) (l : List Nat) : Keep (Ws p n c l) := ⟨fun h g => Nw.grow h g, fun v h hk hv => nw_offD h hk hv v⟩

structure Sta (w W : World) (cs : List (Nat × Nat × Value)) (fs : List (World → Prop)) : Prop where
  g : Gr w W
  c : Cells W cs
  low : ∀ x ∈ cs, w.heap.size ≤ x.1 ∧ noData x.2.2 = true
  ne : cs.Pairwise (fun x y => (x.1, x.2.1) ≠ (y.1, y.2.1))
  f : ∀ F ∈ fs, F W
  k : ∀ F ∈ fs, Keep F
variable {w W y : World} {cs : List (Nat × Nat × Value)} {fs : List (World → Prop)}
theorem Sta.start (w : World) : Sta w w [] [] := ⟨Gr.refl w, trivial, fun _ h => (by cases h), List.Pairwise.nil, fun _ h => (by cases h), fun _ h => (by cases h)⟩
theorem Sta.grow (H : Sta w W cs fs) (g : Gr W y) : Sta w y cs fs := ⟨H.g.trans g, H.c.grow g, H.low, H.ne, fun F h => (H.k F h).grow (H.f F h) g, H.k⟩
theorem Sta.add (H : Sta w W cs fs) {F : World → Prop} (k : Keep F) (h : F W) : Sta w W cs (F :: fs) :=
  ⟨H.g, H.c, H.low, H.ne, fun G hG => (List.mem_cons.1 hG).elim (fun e => e ▸ h) (H.f G), fun G hG => (List.mem_cons.1 hG).elim (fun e => e ▸ k) (H.k G)⟩
theorem Sta.num (H : Sta w W cs fs) {p : Option Addr} {n c x : Nat} (h : Nw W p n c (digs x)) : Sta w W cs (N p n c x :: fs) := H.add (keepN p n c x) h
theorem Sta.nw (H : Sta w W cs fs) (i : Nat) {p : Option Addr} {n c x : Nat} (h : fs[i]? = some (N p n c x)) : Nw W p n c (digs x) := H.f _ (List.mem_of_getElem? h)
theorem Sta.ws (H : Sta w W cs fs) (i : Nat) {p : Option Addr} {n c : Nat} {l : List Nat} (h : fs[i]? = some (Ws p n c l)) : Nw W p n c l := H.f _ (List.mem_of_getElem? h)
theorem Sta.fact (H : Sta w W cs fs) (i : Nat) {F : World → Prop} (h : fs[i]? = some F) : F W := H.f _ (List.mem_of_getElem? h)
theorem Sta.at (H : Sta w W cs fs) (i : Nat) {b o : Nat} {v : Value} (h : cs[i]? = some (b, o, v)) : W.cell? ⟨b, o, none⟩ = some v := (H.c.get i h).1
theorem cells_lt : ∀ {cs : List (Nat × Nat × Value)}, Cells W cs → ∀ x ∈ cs, x.1 < W.heap.size
  | [], _, _, h => by cases h
  | y :: _, h, x, hx => by
    rcases List.mem_cons.1 hx with rfl | h'
    · exact World.block_lt_of_cell? _ _ h.1.1
    · exact cells_lt h.2 x h'
theorem Sta.alloc (H : Sta w W cs fs) {v : Value} {T b : Nat} (hy : W.alloc (.cells #[v] T) = y) (hb : W.heap.size = b) (hv : noData v = true) : Sta w y ((b, 0, v) :: cs) fs := by
  have hg : Gr W y := by rw [← hy]; exact (Gr.refl _).alloc _
  refine ⟨H.g.trans hg, ⟨⟨by rw [← hy, ← hb]; simp [go_sem], by rw [← hy, ← hb]; simp [go_sem]⟩, H.c.grow hg⟩, ?_, List.Pairwise.cons ?_ H.ne, fun F h => (H.k F h).grow (H.f F h) hg, H.k⟩
  · intro x hx
    rcases List.mem_cons.1 hx with rfl | h'
    · exact ⟨hb ▸ H.g.le, hv⟩
    · exact H.low x h'
  · intro x hx e
    have := cells_lt H.c x hx
    simp only [Prod.mk.injEq] at e
    omega
theorem Cells.set {a : Addr} {b o : Nat} (ha : a = ⟨b, o, none⟩) (v : Value) : ∀ {cs : List (Nat × Nat × Value)}, Cells W cs → (∀ x ∈ cs, (b, o) ≠ (x.1, x.2.1)) → Cells (W.setCell a v) cs
  | [], _, _ => trivial
  | x :: _, h, hne => by
    subst ha
    refine ⟨⟨?_, setCell_frozen h.1.2⟩, Cells.set rfl v h.2 fun z hz => hne z (List.mem_cons_of_mem _ hz)⟩
    rw [World.cell?_setCell_other _ _ _ _ (fun e => ?_)]
    · exact h.1.1
    · have := hne x (List.mem_cons_self ..)
      cases e
      exact this rfl
theorem Cells.store {b o : Nat} {v0 : Value} (v : Value) : ∀ {cs : List (Nat × Nat × Value)} (i : Nat), Cells W cs → cs.Pairwise (fun x y => (x.1, x.2.1) ≠ (y.1, y.2.1)) → cs[i]? = some (b, o, v0) → Cells (W.setCell ⟨b, o, none⟩ v) (cs.set i (b, o, v))
  | [], _, _, _, e => by simp at e
  | x :: r, 0, h, hp, e => by
    have e2 : x = (b, o, v0) := by simpa using e
    subst e2
    exact ⟨⟨setCell_at h.1.1, setCell_frozen h.1.2⟩, Cells.set rfl v h.2 fun z hz => List.rel_of_pairwise_cons hp hz⟩
  | x :: r, i + 1, h, hp, e => by
    have e2 : r[i]? = some (b, o, v0) := by simpa using e
    refine ⟨⟨?_, setCell_frozen h.1.2⟩, Cells.store v i h.2 (List.Pairwise.of_cons hp) e2⟩
    rw [World.cell?_setCell_other _ _ _ _ (fun e3 => ?_)]
    · exact h.1.1
    · have := List.rel_of_pairwise_cons hp (List.mem_of_getElem? e2)
      cases e3
      exact this rfl
theorem mem_set {x z : Nat × Nat × Value} : ∀ {cs : List (Nat × Nat × Value)} {i : Nat}, z ∈ cs.set i x → z = x ∨ z ∈ cs
  | [], _, h => by simp at h
  | _ :: _, 0, h => (List.mem_cons.1 h).imp id (List.mem_cons_of_mem _)
  | _ :: _, i + 1, h => by
    rcases List.mem_cons.1 h with h | h
    · exact .inr (by rw [h]; exact List.mem_cons_self ..)
    · exact (mem_set h).imp id (List.mem_cons_of_mem _)
theorem pairwise_set {b o : Nat} {v0 v : Value} : ∀ {cs : List (Nat × Nat × Value)} (i : Nat), cs[i]? = some (b, o, v0) → cs.Pairwise (fun x y => (x.1, x.2.1) ≠ (y.1, y.2.1)) → (cs.set i (b, o, v)).Pairwise (fun x y => (x.1, x.2.1) ≠ (y.1, y.2.1))
  | [], _, e, _ => by simp at e
  | x :: r, 0, e, h => by
    have e2 : x = (b, o, v0) := by simpa using e
    subst e2
    exact List.Pairwise.cons (fun z hz => List.rel_of_pairwise_cons h hz) (List.Pairwise.of_cons h)
  | x :: r, i + 1, e, h => by
    have e2 : r[i]? = some (b, o, v0) := by simpa using e
    refine List.Pairwise.cons (fun z hz => ?_) (pairwise_set i e2 (List.Pairwise.of_cons h))
    rcases mem_set hz with rfl | hz
    · have := List.rel_of_pairwise_cons h (List.mem_of_getElem? e2)
      exact this
    · exact List.rel_of_pairwise_cons h hz
theorem Sta.store (H : Sta w W cs fs) (i : Nat) {b o : Nat} {v0 v : Value} (hy : W.setCell ⟨b, o, none⟩ v = y) (h : cs[i]? = some (b, o, v0)) (hv : noData v = true) : Sta w y (cs.set i (b, o, v)) fs := by
  subst hy
  have hx := H.low _ (List.mem_of_getElem? h)
  exact ⟨H.g.setCell hx.1 v, Cells.store v i H.c H.ne h, fun z hz => (mem_set hz).elim (fun e => by rw [e]; exact ⟨hx.1, hv⟩) (H.low z), pairwise_set i h H.ne,
    fun F hF => (H.k F hF).off v (H.f F hF) (H.at i h) hx.2, H.k⟩
theorem Sta.pick (H : Sta w W cs fs) (is : List Nat) {gs : List (World → Prop)} (h : is.filterMap (fun i => fs[i]?) = gs) : Sta w W cs gs := by
  subst h
  have hm : ∀ F ∈ is.filterMap (fun i => fs[i]?), F ∈ fs := fun F hF => by
    obtain ⟨i, _, hi⟩ := List.mem_filterMap.1 hF
    exact List.mem_of_getElem? hi
  exact ⟨H.g, H.c, H.low, H.ne, fun F hF => H.f F (hm F hF), fun F hF => H.k F (hm F hF)⟩
theorem ne_at {cs : List (Nat × Nat × Value)} (h : cs.Pairwise (fun x y => (x.1, x.2.1) ≠ (y.1, y.2.1))) {i j : Nat} {x y : Nat × Nat × Value} (hi : cs[i]? = some x) (hj : cs[j]? = some y) (hne : i ≠ j) : (x.1, x.2.1) ≠ (y.1, y.2.1) := by
  obtain ⟨h1, rfl⟩ := List.getElem?_eq_some_iff.1 hi
  obtain ⟨h2, rfl⟩ := List.getElem?_eq_some_iff.1 hj
  rcases Nat.lt_or_gt_of_ne hne with h3 | h3
  · exact List.pairwise_iff_getElem.1 h i j h1 h2 h3
  · exact fun e => List.pairwise_iff_getElem.1 h j i h2 h1 h3 e.symm
theorem ne_pick {cs : List (Nat × Nat × Value)} (h : cs.Pairwise (fun x y => (x.1, x.2.1) ≠ (y.1, y.2.1))) : ∀ (is : List Nat), is.Nodup → (is.filterMap (fun i => cs[i]?)).Pairwise (fun x y => (x.1, x.2.1) ≠ (y.1, y.2.1))
  | [], _ => List.Pairwise.nil
  | i :: is, hn => by
    cases hi : cs[i]? with
    | none => rw [List.filterMap_cons_none hi]; exact ne_pick h is (List.nodup_cons.1 hn).2
    | some x =>
      rw [List.filterMap_cons_some hi]
      refine List.Pairwise.cons (fun y hy => ?_) (ne_pick h is (List.nodup_cons.1 hn).2)
      obtain ⟨j, hj, hj2⟩ := List.mem_filterMap.1 hy
      exact ne_at h hi hj2 fun e => (List.nodup_cons.1 hn).1 (e ▸ hj)
theorem Sta.pickC (H : Sta w W cs fs) (is : List Nat) (hn : is.Nodup) {ds : List (Nat × Nat × Value)} (h : is.filterMap (fun i => cs[i]?) = ds) : Sta w W ds fs := by
  subst h
  refine ⟨H.g, H.c.sub is rfl, fun x hx => ?_, ne_pick H.ne is hn, H.f, H.k⟩
  obtain ⟨i, _, hi⟩ := List.mem_filterMap.1 hx
  exact H.low x (List.mem_of_getElem? hi)
theorem Cells.drop : ∀ {cs : List (Nat × Nat × Value)} (n : Nat), Cells W cs → Cells W (cs.drop n)
  | _, 0, h => h
  | [], _ + 1, _ => trivial
  | _ :: _, n + 1, h => Cells.drop n h.2
theorem Sta.drop (H : Sta w W cs fs) (n : Nat) : Sta w W (cs.drop n) fs := ⟨H.g, H.c.drop n, fun x hx => H.low x (List.mem_of_mem_drop hx), H.ne.drop, H.f, H.k⟩
theorem Sta.sub (H : Sta w W cs fs) (is : List Nat) {l : List (Nat × Nat × Value)} (h : is.filterMap (fun i => cs[i]?) = l) : Cells W l := H.c.sub is h
theorem ownsRow_at {W0 W : World} {v : Value} {r : List Nat} {k : Nat} (hk : r.length = k) (h : Bld W0 v r W) : W.ownsRow W0.heap.size 50 1 v k (cw r) := by
  subst hk
  exact h.2.1
end Go.Proofs.Ytlciocebbckdcaa.Kr


/- The contracts of natmod's Inverse. -/
namespace Go.Proofs.Ytlciocebbckdcaa.Mo
open Go.RowKit Go.Shelf Go.Proofs.Ytlciocebbckdcaa.Nm Go.Proofs.Ytlciocebbckdcaa.Ne Go.Proofs.Ytlciocebbckdcaa.Nf Go.Proofs.Ytlciocebbckdcaa.Nk Go.Proofs.Ytlciocebbckdcaa.Nv Go.Proofs.Ytlciocebbckdcaa.Nr2 Go.Proofs.Ytlciocebbckdcaa.Mo Go.Proofs.Ytlciocebbckdcaa.Mr Go.Proofs.Ytlciocebbckdcaa.Kr

set_option linter.unusedSimpArgs false in
set_option maxRecDepth 100000 in
set_option maxHeartbeats 16000000 in
theorem mInverse_err1 {pa : Option Addr} {na ca : Nat} {pm : Option Addr} {nm cm : Nat} {w : World} (hC : Chk w (.agg #[.slice pa na ca]) (.agg #[.slice pm nm cm]) (.agg #[.slice none 0 0]) (.agg #[.slice pm nm cm]) 1) :
    Calls Try.prog 32 #[.agg #[.slice pa na ca], .agg #[.slice pm nm cm]] w (HasE 0 1 w) := by
  have HC := Lib.hid hC
  clear hC
  have H := Sta.start w
  go_enter Try.func32, Try.ntmps32
  go_upto_region 0 with fail
  refine Kr.seqStart ?_
  refine Kr.seqS (fun K hK => ?_)
  go_simp
  obtain ⟨y1, hy⟩ : ∃ y, w.alloc (.cells #[.slice pa na ca] 24) = y := ⟨_, rfl⟩
  obtain ⟨ba, hb⟩ : ∃ b, w.heap.size = b := ⟨_, rfl⟩
  rw [hy, hb]
  replace H := H.alloc hy hb rfl
  clear hy hb
  refine hK.out _ _ ?_; clear hK K
  (try simp only [Act.put, List.getElem_toArray, List.getElem_cons_zero, List.getElem_cons_succ, List.setIfInBounds_toArray, List.set_cons_zero, List.set_cons_succ])
  refine Kr.seqS (fun K hK => ?_)
  go_simp
  obtain ⟨y2, hy⟩ : ∃ y, y1.alloc (.cells #[.slice pm nm cm] 24) = y := ⟨_, rfl⟩
  obtain ⟨bm, hb⟩ : ∃ b, y1.heap.size = b := ⟨_, rfl⟩
  rw [hy, hb]
  replace H := H.alloc hy hb rfl
  clear hy hb
  refine hK.out _ _ ?_; clear hK K
  (try simp only [Act.put, List.getElem_toArray, List.getElem_cons_zero, List.getElem_cons_succ, List.setIfInBounds_toArray, List.set_cons_zero, List.set_cons_succ])
  refine Kr.seqS (fun K hK => ?_)
  go_simp
  obtain ⟨y3, hy⟩ : ∃ y, y2.alloc (.cells #[.slice none 0 0] 24) = y := ⟨_, rfl⟩
  obtain ⟨br, hb⟩ : ∃ b, y2.heap.size = b := ⟨_, rfl⟩
  rw [hy, hb]
  replace H := H.alloc hy hb rfl
  clear hy hb
  refine hK.out _ _ ?_; clear hK K
  (try simp only [Act.put, List.getElem_toArray, List.getElem_cons_zero, List.getElem_cons_succ, List.setIfInBounds_toArray, List.set_cons_zero, List.set_cons_succ])
  (refine Kr.seqP (v := ?_) (by rfl) ?_ ?_; rotate_left; (focus (go_simp; first | done | rfl)); (try simp only [Act.put, List.getElem_toArray, List.getElem_cons_zero, List.getElem_cons_succ, List.setIfInBounds_toArray, List.set_cons_zero, List.set_cons_succ]))
  refine Kr.seqDone ?_
  go_upto_region 1 with fail
  refine Kr.seqStart ?_
  have hk := H.c
  simp only [Kr.Cells] at hk
  iterate 4 (refine Kr.seqP (v := ?_) (by rfl) ?_ ?_; rotate_left; (focus (go_simp; first | done | rfl)); (try simp only [Act.put, List.getElem_toArray, List.getElem_cons_zero, List.getElem_cons_succ, List.setIfInBounds_toArray, List.set_cons_zero, List.set_cons_succ]))
  refine Kr.seqS (fun K hK => ?_)
  go_simp
  go_at_call 70
  refine (HC.out _ H.g).mono ?_
  rintro e y4 ⟨rfl, hg⟩
  clear hk
  replace H := H.grow hg
  clear hg
  refine hK.out _ _ ?_; clear hK K
  (try simp only [Act.put, List.getElem_toArray, List.getElem_cons_zero, List.getElem_cons_succ, List.setIfInBounds_toArray, List.set_cons_zero, List.set_cons_succ])
  (refine Kr.seqP (v := ?_) (by rfl) ?_ ?_; rotate_left; (focus (go_simp; first | done | rfl)); (try simp only [Act.put, List.getElem_toArray, List.getElem_cons_zero, List.getElem_cons_succ, List.setIfInBounds_toArray, List.set_cons_zero, List.set_cons_succ]))
  refine Kr.seqDone ?_
  go_upto_region 2 with fail
  refine Kr.seqStart ?_
  iterate 2 (refine Kr.seqP (v := ?_) (by rfl) ?_ ?_; rotate_left; (focus (go_simp; first | done | rfl)); (try simp only [Act.put, List.getElem_toArray, List.getElem_cons_zero, List.getElem_cons_succ, List.setIfInBounds_toArray, List.set_cons_zero, List.set_cons_succ]))
  refine Kr.seqDone ?_
  go_upto_region 3 with fail
  refine Kr.seqStart ?_
  iterate 2 (refine Kr.seqP (v := ?_) (by rfl) ?_ ?_; rotate_left; (focus (go_simp; first | done | rfl)); (try simp only [Act.put, List.getElem_toArray, List.getElem_cons_zero, List.getElem_cons_succ, List.setIfInBounds_toArray, List.set_cons_zero, List.set_cons_succ]))
  have hk := H.c
  simp only [Kr.Cells] at hk
  refine Kr.seqS (fun K hK => ?_)
  go_simp
  clear hk
  obtain ⟨y5, hy⟩ : ∃ y, y4.setCell ⟨br, 0, none⟩ (.slice none 0 0) = y := ⟨_, rfl⟩
  rw [hy]
  replace H := H.store 0 hy rfl rfl
  dsimp only [List.set] at H
  clear hy
  refine hK.out _ _ ?_; clear hK K
  (try simp only [Act.put, List.getElem_toArray, List.getElem_cons_zero, List.getElem_cons_succ, List.setIfInBounds_toArray, List.set_cons_zero, List.set_cons_succ])
  (refine Kr.seqP (v := ?_) (by rfl) ?_ ?_; rotate_left; (focus (go_simp; first | done | rfl)); (try simp only [Act.put, List.getElem_toArray, List.getElem_cons_zero, List.getElem_cons_succ, List.setIfInBounds_toArray, List.set_cons_zero, List.set_cons_succ]))
  refine Kr.seqDone ?_
  have hk := H.c
  simp only [Kr.Cells] at hk
  go_wp2
  refine bodyPost_ret (v := .tuple #[.agg #[.slice none 0 0], .int .i64 1]) (by simp [results, Try.results32, go_sem, hk]) rfl ⟨none, 0, 0, rfl, nw_none _, H.g⟩
set_option linter.unusedSimpArgs false in
set_option maxRecDepth 100000 in
set_option maxHeartbeats 16000000 in
theorem mInverse_err2 {pa : Option Addr} {na ca : Nat} {pm : Option Addr} {nm cm : Nat} {w : World} (hC : Chk w (.agg #[.slice pa na ca]) (.agg #[.slice pm nm cm]) (.agg #[.slice none 0 0]) (.agg #[.slice pm nm cm]) 2) :
    Calls Try.prog 32 #[.agg #[.slice pa na ca], .agg #[.slice pm nm cm]] w (HasE 0 2 w) := by
  have HC := Lib.hid hC
  clear hC
  have H := Sta.start w
  go_enter Try.func32, Try.ntmps32
  go_upto_region 0 with fail
  refine Kr.seqStart ?_
  refine Kr.seqS (fun K hK => ?_)
  go_simp
  obtain ⟨y1, hy⟩ : ∃ y, w.alloc (.cells #[.slice pa na ca] 24) = y := ⟨_, rfl⟩
  obtain ⟨ba, hb⟩ : ∃ b, w.heap.size = b := ⟨_, rfl⟩
  rw [hy, hb]
  replace H := H.alloc hy hb rfl
  clear hy hb
  refine hK.out _ _ ?_; clear hK K
  (try simp only [Act.put, List.getElem_toArray, List.getElem_cons_zero, List.getElem_cons_succ, List.setIfInBounds_toArray, List.set_cons_zero, List.set_cons_succ])
  refine Kr.seqS (fun K hK => ?_)
  go_simp
  obtain ⟨y2, hy⟩ : ∃ y, y1.alloc (.cells #[.slice pm nm cm] 24) = y := ⟨_, rfl⟩
  obtain ⟨bm, hb⟩ : ∃ b, y1.heap.size = b := ⟨_, rfl⟩
  rw [hy, hb]
  replace H := H.alloc hy hb rfl
  clear hy hb
  refine hK.out _ _ ?_; clear hK K
  (try simp only [Act.put, List.getElem_toArray, List.getElem_cons_zero, List.getElem_cons_succ, List.setIfInBounds_toArray, List.set_cons_zero, List.set_cons_succ])
  refine Kr.seqS (fun K hK => ?_)
  go_simp
  obtain ⟨y3, hy⟩ : ∃ y, y2.alloc (.cells #[.slice none 0 0] 24) = y := ⟨_, rfl⟩
  obtain ⟨br, hb⟩ : ∃ b, y2.heap.size = b := ⟨_, rfl⟩
  rw [hy, hb]
  replace H := H.alloc hy hb rfl
  clear hy hb
  refine hK.out _ _ ?_; clear hK K
  (try simp only [Act.put, List.getElem_toArray, List.getElem_cons_zero, List.getElem_cons_succ, List.setIfInBounds_toArray, List.set_cons_zero, List.set_cons_succ])
  (refine Kr.seqP (v := ?_) (by rfl) ?_ ?_; rotate_left; (focus (go_simp; first | done | rfl)); (try simp only [Act.put, List.getElem_toArray, List.getElem_cons_zero, List.getElem_cons_succ, List.setIfInBounds_toArray, List.set_cons_zero, List.set_cons_succ]))
  refine Kr.seqDone ?_
  go_upto_region 1 with fail
  refine Kr.seqStart ?_
  have hk := H.c
  simp only [Kr.Cells] at hk
  iterate 4 (refine Kr.seqP (v := ?_) (by rfl) ?_ ?_; rotate_left; (focus (go_simp; first | done | rfl)); (try simp only [Act.put, List.getElem_toArray, List.getElem_cons_zero, List.getElem_cons_succ, List.setIfInBounds_toArray, List.set_cons_zero, List.set_cons_succ]))
  refine Kr.seqS (fun K hK => ?_)
  go_simp
  go_at_call 70
  refine (HC.out _ H.g).mono ?_
  rintro e y4 ⟨rfl, hg⟩
  clear hk
  replace H := H.grow hg
  clear hg
  refine hK.out _ _ ?_; clear hK K
  (try simp only [Act.put, List.getElem_toArray, List.getElem_cons_zero, List.getElem_cons_succ, List.setIfInBounds_toArray, List.set_cons_zero, List.set_cons_succ])
  (refine Kr.seqP (v := ?_) (by rfl) ?_ ?_; rotate_left; (focus (go_simp; first | done | rfl)); (try simp only [Act.put, List.getElem_toArray, List.getElem_cons_zero, List.getElem_cons_succ, List.setIfInBounds_toArray, List.set_cons_zero, List.set_cons_succ]))
  refine Kr.seqDone ?_
  go_upto_region 2 with fail
  refine Kr.seqStart ?_
  iterate 2 (refine Kr.seqP (v := ?_) (by rfl) ?_ ?_; rotate_left; (focus (go_simp; first | done | rfl)); (try simp only [Act.put, List.getElem_toArray, List.getElem_cons_zero, List.getElem_cons_succ, List.setIfInBounds_toArray, List.set_cons_zero, List.set_cons_succ]))
  refine Kr.seqDone ?_
  go_upto_region 3 with fail
  refine Kr.seqStart ?_
  iterate 2 (refine Kr.seqP (v := ?_) (by rfl) ?_ ?_; rotate_left; (focus (go_simp; first | done | rfl)); (try simp only [Act.put, List.getElem_toArray, List.getElem_cons_zero, List.getElem_cons_succ, List.setIfInBounds_toArray, List.set_cons_zero, List.set_cons_succ]))
  have hk := H.c
  simp only [Kr.Cells] at hk
  refine Kr.seqS (fun K hK => ?_)
  go_simp
  clear hk
  obtain ⟨y5, hy⟩ : ∃ y, y4.setCell ⟨br, 0, none⟩ (.slice none 0 0) = y := ⟨_, rfl⟩
  rw [hy]
  replace H := H.store 0 hy rfl rfl
  dsimp only [List.set] at H
  clear hy
  refine hK.out _ _ ?_; clear hK K
  (try simp only [Act.put, List.getElem_toArray, List.getElem_cons_zero, List.getElem_cons_succ, List.setIfInBounds_toArray, List.set_cons_zero, List.set_cons_succ])
  (refine Kr.seqP (v := ?_) (by rfl) ?_ ?_; rotate_left; (focus (go_simp; first | done | rfl)); (try simp only [Act.put, List.getElem_toArray, List.getElem_cons_zero, List.getElem_cons_succ, List.setIfInBounds_toArray, List.set_cons_zero, List.set_cons_succ]))
  refine Kr.seqDone ?_
  have hk := H.c
  simp only [Kr.Cells] at hk
  go_wp2
  refine bodyPost_ret (v := .tuple #[.agg #[.slice none 0 0], .int .i64 2]) (by simp [results, Try.results32, go_sem, hk]) rfl ⟨none, 0, 0, rfl, nw_none _, H.g⟩
set_option linter.unusedSimpArgs false in
set_option maxRecDepth 100000 in
set_option maxHeartbeats 16000000 in
theorem mInverse_ok {pa : Option Addr} {na ca : Nat} {pm : Option Addr} {nm cm : Nat} {x m : Nat} {w : World} (ha : Nw w pa na ca (digs x)) (hm : Nw w pm nm cm (digs m)) (hx : x < m) (vm : m < pw 32) (hg1 : Nat.gcd x m = 1) (hC : Chk w (.agg #[.slice pa na ca]) (.agg #[.slice pm nm cm]) (.agg #[.slice none 0 0]) (.agg #[.slice pm nm cm]) 0) :
    Calls Try.prog 32 #[.agg #[.slice pa na ca], .agg #[.slice pm nm cm]] w (fun e w' => ∃ z, IsInv x m z ∧ HasE z 0 w e w') := by
  have HC := Lib.hid hC
  clear hC
  have HX := Lib.hid hx
  have VM := Lib.hid vm
  have HG1 := Lib.hid hg1
  clear hx vm hg1
  have H := Sta.start w
  replace H := H.num ha
  replace H := H.num hm
  go_enter Try.func32, Try.ntmps32
  go_upto_region 0 with fail
  refine Kr.seqStart ?_
  refine Kr.seqS (fun K hK => ?_)
  go_simp
  obtain ⟨y1, hy⟩ : ∃ y, w.alloc (.cells #[.slice pa na ca] 24) = y := ⟨_, rfl⟩
  obtain ⟨ba, hb⟩ : ∃ b, w.heap.size = b := ⟨_, rfl⟩
  rw [hy, hb]
  replace H := H.alloc hy hb rfl
  clear hy hb
  refine hK.out _ _ ?_; clear hK K
  (try simp only [Act.put, List.getElem_toArray, List.getElem_cons_zero, List.getElem_cons_succ, List.setIfInBounds_toArray, List.set_cons_zero, List.set_cons_succ])
  refine Kr.seqS (fun K hK => ?_)
  go_simp
  obtain ⟨y2, hy⟩ : ∃ y, y1.alloc (.cells #[.slice pm nm cm] 24) = y := ⟨_, rfl⟩
  obtain ⟨bm, hb⟩ : ∃ b, y1.heap.size = b := ⟨_, rfl⟩
  rw [hy, hb]
  replace H := H.alloc hy hb rfl
  clear hy hb
  refine hK.out _ _ ?_; clear hK K
  (try simp only [Act.put, List.getElem_toArray, List.getElem_cons_zero, List.getElem_cons_succ, List.setIfInBounds_toArray, List.set_cons_zero, List.set_cons_succ])
  refine Kr.seqS (fun K hK => ?_)
  go_simp
  obtain ⟨y3, hy⟩ : ∃ y, y2.alloc (.cells #[.slice none 0 0] 24) = y := ⟨_, rfl⟩
  obtain ⟨br, hb⟩ : ∃ b, y2.heap.size = b := ⟨_, rfl⟩
  rw [hy, hb]
  replace H := H.alloc hy hb rfl
  clear hy hb
  refine hK.out _ _ ?_; clear hK K
  (try simp only [Act.put, List.getElem_toArray, List.getElem_cons_zero, List.getElem_cons_succ, List.setIfInBounds_toArray, List.set_cons_zero, List.set_cons_succ])
  (refine Kr.seqP (v := ?_) (by rfl) ?_ ?_; rotate_left; (focus (go_simp; first | done | rfl)); (try simp only [Act.put, List.getElem_toArray, List.getElem_cons_zero, List.getElem_cons_succ, List.setIfInBounds_toArray, List.set_cons_zero, List.set_cons_succ]))
  refine Kr.seqDone ?_
  go_upto_region 1 with fail
  refine Kr.seqStart ?_
  have hk := H.c
  simp only [Kr.Cells] at hk
  iterate 4 (refine Kr.seqP (v := ?_) (by rfl) ?_ ?_; rotate_left; (focus (go_simp; first | done | rfl)); (try simp only [Act.put, List.getElem_toArray, List.getElem_cons_zero, List.getElem_cons_succ, List.setIfInBounds_toArray, List.set_cons_zero, List.set_cons_succ]))
  refine Kr.seqS (fun K hK => ?_)
  go_simp
  go_at_call 70
  refine (HC.out _ H.g).mono ?_
  rintro e y4 ⟨rfl, hg⟩
  clear hk
  replace H := H.grow hg
  clear hg
  refine hK.out _ _ ?_; clear hK K
  (try simp only [Act.put, List.getElem_toArray, List.getElem_cons_zero, List.getElem_cons_succ, List.setIfInBounds_toArray, List.set_cons_zero, List.set_cons_succ])
  (refine Kr.seqP (v := ?_) (by rfl) ?_ ?_; rotate_left; (focus (go_simp; first | done | rfl)); (try simp only [Act.put, List.getElem_toArray, List.getElem_cons_zero, List.getElem_cons_succ, List.setIfInBounds_toArray, List.set_cons_zero, List.set_cons_succ]))
  refine Kr.seqDone ?_
  go_upto_region 2 with fail
  refine Kr.seqStart ?_
  iterate 2 (refine Kr.seqP (v := ?_) (by rfl) ?_ ?_; rotate_left; (focus (go_simp; first | done | rfl)); (try simp only [Act.put, List.getElem_toArray, List.getElem_cons_zero, List.getElem_cons_succ, List.setIfInBounds_toArray, List.set_cons_zero, List.set_cons_succ]))
  refine Kr.seqDone ?_
  go_upto_region 4 with fail
  refine Kr.seqStart ?_
  have hk := H.c
  simp only [Kr.Cells] at hk
  iterate 2 (refine Kr.seqP (v := ?_) (by rfl) ?_ ?_; rotate_left; (focus (go_simp; first | done | rfl)); (try simp only [Act.put, List.getElem_toArray, List.getElem_cons_zero, List.getElem_cons_succ, List.setIfInBounds_toArray, List.set_cons_zero, List.set_cons_succ]))
  refine Kr.seqS (fun K hK => ?_)
  go_simp
  go_at_call 88
  refine (invert_v (H.nw 1 rfl) (H.nw 0 rfl) HX.out VM.out).mono ?_
  rintro e yi ⟨pi, ni, ci, z, rfl, h1, h2, hr, hg⟩
  rw [decide_eq_true HG1.out]
  have HI := Lib.hid (h1 HG1.out)
  clear hk
  replace H := H.grow hg
  replace H := H.num hr
  clear hr hg h1 h2
  refine hK.out _ _ ?_; clear hK K
  (try simp only [Act.put, List.getElem_toArray, List.getElem_cons_zero, List.getElem_cons_succ, List.setIfInBounds_toArray, List.set_cons_zero, List.set_cons_succ])
  iterate 3 (refine Kr.seqP (v := ?_) (by rfl) ?_ ?_; rotate_left; (focus (go_simp; first | done | rfl)); (try simp only [Act.put, List.getElem_toArray, List.getElem_cons_zero, List.getElem_cons_succ, List.setIfInBounds_toArray, List.set_cons_zero, List.set_cons_succ]))
  refine Kr.seqS (fun K hK => ?_)
  go_simp
  obtain ⟨y5, hy⟩ : ∃ y, yi.alloc (.cells #[.slice none 0 0] 24) = y := ⟨_, rfl⟩
  obtain ⟨bx, hb⟩ : ∃ b, yi.heap.size = b := ⟨_, rfl⟩
  rw [hy, hb]
  replace H := H.alloc hy hb rfl
  clear hy hb
  refine hK.out _ _ ?_; clear hK K
  (try simp only [Act.put, List.getElem_toArray, List.getElem_cons_zero, List.getElem_cons_succ, List.setIfInBounds_toArray, List.set_cons_zero, List.set_cons_succ])
  have hk := H.c
  simp only [Kr.Cells] at hk
  refine Kr.seqS (fun K hK => ?_)
  go_simp
  clear hk
  obtain ⟨y6, hy⟩ : ∃ y, y5.setCell ⟨bx, 0, none⟩ (.slice pi ni ci) = y := ⟨_, rfl⟩
  rw [hy]
  replace H := H.store 0 hy rfl rfl
  dsimp only [List.set] at H
  clear hy
  refine hK.out _ _ ?_; clear hK K
  (try simp only [Act.put, List.getElem_toArray, List.getElem_cons_zero, List.getElem_cons_succ, List.setIfInBounds_toArray, List.set_cons_zero, List.set_cons_succ])
  (refine Kr.seqP (v := ?_) (by rfl) ?_ ?_; rotate_left; (focus (go_simp; first | done | rfl)); (try simp only [Act.put, List.getElem_toArray, List.getElem_cons_zero, List.getElem_cons_succ, List.setIfInBounds_toArray, List.set_cons_zero, List.set_cons_succ]))
  refine Kr.seqDone ?_
  go_upto_region 5 with fail
  refine Kr.seqStart ?_
  iterate 2 (refine Kr.seqP (v := ?_) (by rfl) ?_ ?_; rotate_left; (focus (go_simp; first | done | rfl)); (try simp only [Act.put, List.getElem_toArray, List.getElem_cons_zero, List.getElem_cons_succ, List.setIfInBounds_toArray, List.set_cons_zero, List.set_cons_succ]))
  refine Kr.seqDone ?_
  go_upto_region 7 with fail
  refine Kr.seqStart ?_
  have hk := H.c
  simp only [Kr.Cells] at hk
  (refine Kr.seqP (v := ?_) (by rfl) ?_ ?_; rotate_left; (focus (go_simp; first | done | rfl)); (try simp only [Act.put, List.getElem_toArray, List.getElem_cons_zero, List.getElem_cons_succ, List.setIfInBounds_toArray, List.set_cons_zero, List.set_cons_succ]))
  refine Kr.seqS (fun K hK => ?_)
  go_simp
  clear hk
  obtain ⟨y7, hy⟩ : ∃ y, y6.setCell ⟨br, 0, none⟩ (.slice pi ni ci) = y := ⟨_, rfl⟩
  rw [hy]
  replace H := H.store 1 hy rfl rfl
  dsimp only [List.set] at H
  clear hy
  refine hK.out _ _ ?_; clear hK K
  (try simp only [Act.put, List.getElem_toArray, List.getElem_cons_zero, List.getElem_cons_succ, List.setIfInBounds_toArray, List.set_cons_zero, List.set_cons_succ])
  (refine Kr.seqP (v := ?_) (by rfl) ?_ ?_; rotate_left; (focus (go_simp; first | done | rfl)); (try simp only [Act.put, List.getElem_toArray, List.getElem_cons_zero, List.getElem_cons_succ, List.setIfInBounds_toArray, List.set_cons_zero, List.set_cons_succ]))
  refine Kr.seqDone ?_
  have hk := H.c
  simp only [Kr.Cells] at hk
  go_wp2
  refine bodyPost_ret (v := .tuple #[.agg #[.slice pi ni ci], .int .i64 0]) (by simp [results, Try.results32, go_sem, hk]) rfl ⟨z, HI.out, pi, ni, ci, rfl, H.nw 0 rfl, H.g⟩
set_option linter.unusedSimpArgs false in
set_option maxRecDepth 100000 in
set_option maxHeartbeats 16000000 in
theorem mInverse_no {pa : Option Addr} {na ca : Nat} {pm : Option Addr} {nm cm : Nat} {x m : Nat} {w : World} (ha : Nw w pa na ca (digs x)) (hm : Nw w pm nm cm (digs m)) (hx : x < m) (vm : m < pw 32) (hg1 : Nat.gcd x m ≠ 1) (hC : Chk w (.agg #[.slice pa na ca]) (.agg #[.slice pm nm cm]) (.agg #[.slice none 0 0]) (.agg #[.slice pm nm cm]) 0) :
    Calls Try.prog 32 #[.agg #[.slice pa na ca], .agg #[.slice pm nm cm]] w ((HasE 0 10 w)) := by
  have HC := Lib.hid hC
  clear hC
  have HX := Lib.hid hx
  have VM := Lib.hid vm
  have HG1 := Lib.hid hg1
  clear hx vm hg1
  have H := Sta.start w
  replace H := H.num ha
  replace H := H.num hm
  go_enter Try.func32, Try.ntmps32
  go_upto_region 0 with fail
  refine Kr.seqStart ?_
  refine Kr.seqS (fun K hK => ?_)
  go_simp
  obtain ⟨y1, hy⟩ : ∃ y, w.alloc (.cells #[.slice pa na ca] 24) = y := ⟨_, rfl⟩
  obtain ⟨ba, hb⟩ : ∃ b, w.heap.size = b := ⟨_, rfl⟩
  rw [hy, hb]
  replace H := H.alloc hy hb rfl
  clear hy hb
  refine hK.out _ _ ?_; clear hK K
  (try simp only [Act.put, List.getElem_toArray, List.getElem_cons_zero, List.getElem_cons_succ, List.setIfInBounds_toArray, List.set_cons_zero, List.set_cons_succ])
  refine Kr.seqS (fun K hK => ?_)
  go_simp
  obtain ⟨y2, hy⟩ : ∃ y, y1.alloc (.cells #[.slice pm nm cm] 24) = y := ⟨_, rfl⟩
  obtain ⟨bm, hb⟩ : ∃ b, y1.heap.size = b := ⟨_, rfl⟩
  rw [hy, hb]
  replace H := H.alloc hy hb rfl
  clear hy hb
  refine hK.out _ _ ?_; clear hK K
  (try simp only [Act.put, List.getElem_toArray, List.getElem_cons_zero, List.getElem_cons_succ, List.setIfInBounds_toArray, List.set_cons_zero, List.set_cons_succ])
  refine Kr.seqS (fun K hK => ?_)
  go_simp
  obtain ⟨y3, hy⟩ : ∃ y, y2.alloc (.cells #[.slice none 0 0] 24) = y := ⟨_, rfl⟩
  obtain ⟨br, hb⟩ : ∃ b, y2.heap.size = b := ⟨_, rfl⟩
  rw [hy, hb]
  replace H := H.alloc hy hb rfl
  clear hy hb
  refine hK.out _ _ ?_; clear hK K
  (try simp only [Act.put, List.getElem_toArray, List.getElem_cons_zero, List.getElem_cons_succ, List.setIfInBounds_toArray, List.set_cons_zero, List.set_cons_succ])
  (refine Kr.seqP (v := ?_) (by rfl) ?_ ?_; rotate_left; (focus (go_simp; first | done | rfl)); (try simp only [Act.put, List.getElem_toArray, List.getElem_cons_zero, List.getElem_cons_succ, List.setIfInBounds_toArray, List.set_cons_zero, List.set_cons_succ]))
  refine Kr.seqDone ?_
  go_upto_region 1 with fail
  refine Kr.seqStart ?_
  have hk := H.c
  simp only [Kr.Cells] at hk
  iterate 4 (refine Kr.seqP (v := ?_) (by rfl) ?_ ?_; rotate_left; (focus (go_simp; first | done | rfl)); (try simp only [Act.put, List.getElem_toArray, List.getElem_cons_zero, List.getElem_cons_succ, List.setIfInBounds_toArray, List.set_cons_zero, List.set_cons_succ]))
  refine Kr.seqS (fun K hK => ?_)
  go_simp
  go_at_call 70
  refine (HC.out _ H.g).mono ?_
  rintro e y4 ⟨rfl, hg⟩
  clear hk
  replace H := H.grow hg
  clear hg
  refine hK.out _ _ ?_; clear hK K
  (try simp only [Act.put, List.getElem_toArray, List.getElem_cons_zero, List.getElem_cons_succ, List.setIfInBounds_toArray, List.set_cons_zero, List.set_cons_succ])
  (refine Kr.seqP (v := ?_) (by rfl) ?_ ?_; rotate_left; (focus (go_simp; first | done | rfl)); (try simp only [Act.put, List.getElem_toArray, List.getElem_cons_zero, List.getElem_cons_succ, List.setIfInBounds_toArray, List.set_cons_zero, List.set_cons_succ]))
  refine Kr.seqDone ?_
  go_upto_region 2 with fail
  refine Kr.seqStart ?_
  iterate 2 (refine Kr.seqP (v := ?_) (by rfl) ?_ ?_; rotate_left; (focus (go_simp; first | done | rfl)); (try simp only [Act.put, List.getElem_toArray, List.getElem_cons_zero, List.getElem_cons_succ, List.setIfInBounds_toArray, List.set_cons_zero, List.set_cons_succ]))
  refine Kr.seqDone ?_
  go_upto_region 4 with fail
  refine Kr.seqStart ?_
  have hk := H.c
  simp only [Kr.Cells] at hk
  iterate 2 (refine Kr.seqP (v := ?_) (by rfl) ?_ ?_; rotate_left; (focus (go_simp; first | done | rfl)); (try simp only [Act.put, List.getElem_toArray, List.getElem_cons_zero, List.getElem_cons_succ, List.setIfInBounds_toArray, List.set_cons_zero, List.set_cons_succ]))
  refine Kr.seqS (fun K hK => ?_)
  go_simp
  go_at_call 88
  refine (invert_v (H.nw 1 rfl) (H.nw 0 rfl) HX.out VM.out).mono ?_
  rintro e yi ⟨pi, ni, ci, z, rfl, h1, h2, hr, hg⟩
  rw [decide_eq_false HG1.out]
  clear hk
  replace H := H.grow hg
  replace H := H.num hr
  clear hr hg h1 h2
  refine hK.out _ _ ?_; clear hK K
  (try simp only [Act.put, List.getElem_toArray, List.getElem_cons_zero, List.getElem_cons_succ, List.setIfInBounds_toArray, List.set_cons_zero, List.set_cons_succ])
  iterate 3 (refine Kr.seqP (v := ?_) (by rfl) ?_ ?_; rotate_left; (focus (go_simp; first | done | rfl)); (try simp only [Act.put, List.getElem_toArray, List.getElem_cons_zero, List.getElem_cons_succ, List.setIfInBounds_toArray, List.set_cons_zero, List.set_cons_succ]))
  refine Kr.seqS (fun K hK => ?_)
  go_simp
  obtain ⟨y5, hy⟩ : ∃ y, yi.alloc (.cells #[.slice none 0 0] 24) = y := ⟨_, rfl⟩
  obtain ⟨bx, hb⟩ : ∃ b, yi.heap.size = b := ⟨_, rfl⟩
  rw [hy, hb]
  replace H := H.alloc hy hb rfl
  clear hy hb
  refine hK.out _ _ ?_; clear hK K
  (try simp only [Act.put, List.getElem_toArray, List.getElem_cons_zero, List.getElem_cons_succ, List.setIfInBounds_toArray, List.set_cons_zero, List.set_cons_succ])
  have hk := H.c
  simp only [Kr.Cells] at hk
  refine Kr.seqS (fun K hK => ?_)
  go_simp
  clear hk
  obtain ⟨y6, hy⟩ : ∃ y, y5.setCell ⟨bx, 0, none⟩ (.slice pi ni ci) = y := ⟨_, rfl⟩
  rw [hy]
  replace H := H.store 0 hy rfl rfl
  dsimp only [List.set] at H
  clear hy
  refine hK.out _ _ ?_; clear hK K
  (try simp only [Act.put, List.getElem_toArray, List.getElem_cons_zero, List.getElem_cons_succ, List.setIfInBounds_toArray, List.set_cons_zero, List.set_cons_succ])
  (refine Kr.seqP (v := ?_) (by rfl) ?_ ?_; rotate_left; (focus (go_simp; first | done | rfl)); (try simp only [Act.put, List.getElem_toArray, List.getElem_cons_zero, List.getElem_cons_succ, List.setIfInBounds_toArray, List.set_cons_zero, List.set_cons_succ]))
  refine Kr.seqDone ?_
  go_upto_region 5 with fail
  refine Kr.seqStart ?_
  iterate 2 (refine Kr.seqP (v := ?_) (by rfl) ?_ ?_; rotate_left; (focus (go_simp; first | done | rfl)); (try simp only [Act.put, List.getElem_toArray, List.getElem_cons_zero, List.getElem_cons_succ, List.setIfInBounds_toArray, List.set_cons_zero, List.set_cons_succ]))
  refine Kr.seqDone ?_
  go_upto_region 6 with fail
  refine Kr.seqStart ?_
  (refine Kr.seqP (v := ?_) (by rfl) ?_ ?_; rotate_left; (focus (go_simp; first | done | rfl)); (try simp only [Act.put, List.getElem_toArray, List.getElem_cons_zero, List.getElem_cons_succ, List.setIfInBounds_toArray, List.set_cons_zero, List.set_cons_succ]))
  have hk := H.c
  simp only [Kr.Cells] at hk
  refine Kr.seqS (fun K hK => ?_)
  go_simp
  clear hk
  obtain ⟨y7, hy⟩ : ∃ y, y6.setCell ⟨br, 0, none⟩ (.slice none 0 0) = y := ⟨_, rfl⟩
  rw [hy]
  replace H := H.store 1 hy rfl rfl
  dsimp only [List.set] at H
  clear hy
  refine hK.out _ _ ?_; clear hK K
  (try simp only [Act.put, List.getElem_toArray, List.getElem_cons_zero, List.getElem_cons_succ, List.setIfInBounds_toArray, List.set_cons_zero, List.set_cons_succ])
  (refine Kr.seqP (v := ?_) (by rfl) ?_ ?_; rotate_left; (focus (go_simp; first | done | rfl)); (try simp only [Act.put, List.getElem_toArray, List.getElem_cons_zero, List.getElem_cons_succ, List.setIfInBounds_toArray, List.set_cons_zero, List.set_cons_succ]))
  refine Kr.seqDone ?_
  have hk := H.c
  simp only [Kr.Cells] at hk
  go_wp2
  refine bodyPost_ret (v := .tuple #[.agg #[.slice none 0 0], .int .i64 10]) (by simp [results, Try.results32, go_sem, hk]) rfl ⟨none, 0, 0, rfl, nw_none _, H.g⟩
end Go.Proofs.Ytlciocebbckdcaa.Mo


/- natmod's Add, Sub, Mul for residues, by value. -/
namespace Go.Proofs.Ytlciocebbckdcaa.Mo
open Go.RowKit Go.Shelf Go.Proofs.Ytlciocebbckdcaa.Nm Go.Proofs.Ytlciocebbckdcaa.Ne Go.Proofs.Ytlciocebbckdcaa.Nf Go.Proofs.Ytlciocebbckdcaa.Nk Go.Proofs.Ytlciocebbckdcaa.Nv Go.Proofs.Ytlciocebbckdcaa.Nr2 Go.Proofs.Ytlciocebbckdcaa.Mr Go.Proofs.Ytlciocebbckdcaa.Kr

theorem chk_ok {pa : Option Addr} {na ca : Nat} {pp : Option Addr} {np cp : Nat} {pb : Option Addr} {nb cb : Nat} {pq : Option Addr} {nq cq : Nat} {a p b q : Nat} {w : World} (ha : Nw w pa na ca (digs a)) (hp : Nw w pp np cp (digs p)) (hb : Nw w pb nb cb (digs b)) (hq : Nw w pq nq cq (digs q)) (h1 : a < p) (h2 : b < q) (vp : p < pw 32) (vq : q < pw 32) :
    Chk w (.agg #[.slice pa na ca]) (.agg #[.slice pp np cp]) (.agg #[.slice pb nb cb]) (.agg #[.slice pq nq cq]) 0 := fun W g => by
  have h := check_v (ha.grow g) (hp.grow g) (hb.grow g) (hq.grow g) (lt64 (Nat.lt_trans h1 vp)) (lt64 (Nat.lt_trans h2 vq)) (Nat.lt_of_le_of_lt (Nat.zero_le _) h1) vp (Nat.lt_of_le_of_lt (Nat.zero_le _) h2) vq
  rwa [if_pos ⟨h1, h2⟩] at h
theorem chk_range {pa : Option Addr} {na ca : Nat} {pp : Option Addr} {np cp : Nat} {pb : Option Addr} {nb cb : Nat} {pq : Option Addr} {nq cq : Nat} {a p b q : Nat} {w : World} (ha : Nw w pa na ca (digs a)) (hp : Nw w pp np cp (digs p)) (hb : Nw w pb nb cb (digs b)) (hq : Nw w pq nq cq (digs q)) (va : a < pw 64) (vb : b < pw 64) (h : ¬ (a < p ∧ b < q)) (p0 : 0 < p) (vp : p < pw 32) (q0 : 0 < q) (vq : q < pw 32) :
    Chk w (.agg #[.slice pa na ca]) (.agg #[.slice pp np cp]) (.agg #[.slice pb nb cb]) (.agg #[.slice pq nq cq]) 2 := fun W g => by
  have h := check_v (ha.grow g) (hp.grow g) (hb.grow g) (hq.grow g) va vb p0 vp q0 vq
  rwa [if_neg (by assumption)] at h
theorem chk_arg {pa : Option Addr} {na ca : Nat} {pp : Option Addr} {np cp : Nat} {pb : Option Addr} {nb cb : Nat} {pq : Option Addr} {nq cq : Nat} {la lp lb lq : List Nat} {w : World} (ha : Nw w pa na ca la) (hp : Nw w pp np cp lp) (hb : Nw w pb nb cb lb) (hq : Nw w pq nq cq lq) (hv : (decide (valid la) && (decide (valid lb) && (im lp && im lq))) = false) :
    Chk w (.agg #[.slice pa na ca]) (.agg #[.slice pp np cp]) (.agg #[.slice pb nb cb]) (.agg #[.slice pq nq cq]) 1 := fun _ g => check_arg (ha.grow g) (hp.grow g) (hb.grow g) (hq.grow g) hv
section
variable {pa : Option Addr} {na ca : Nat} {pb : Option Addr} {nb cb : Nat} {pm : Option Addr} {nm cm : Nat} {x y m : Nat} {w : World}
theorem mAdd_v (ha : Nw w pa na ca (digs x)) (hb : Nw w pb nb cb (digs y)) (hm : Nw w pm nm cm (digs m)) (hx : x < m) (hy : y < m) (vm : m < pw 32) :
    Calls Try.prog 20 #[.agg #[.slice pa na ca], .agg #[.slice pb nb cb], .agg #[.slice pm nm cm]] w (Gives ((x + y) % m) 0 w) := mAdd_ok ha hb hm hx hy vm (chk_ok ha hm hb hm hx hy vm vm)
theorem mSub_v (ha : Nw w pa na ca (digs x)) (hb : Nw w pb nb cb (digs y)) (hm : Nw w pm nm cm (digs m)) (hx : x < m) (hy : y < m) (vm : m < pw 32) :
    Calls Try.prog 21 #[.agg #[.slice pa na ca], .agg #[.slice pb nb cb], .agg #[.slice pm nm cm]] w (Gives ((x + m - y) % m) 0 w) := mSub_ok ha hb hm hx hy vm (chk_ok ha hm hb hm hx hy vm vm)
theorem mMul_v (ha : Nw w pa na ca (digs x)) (hb : Nw w pb nb cb (digs y)) (hm : Nw w pm nm cm (digs m)) (hx : x < m) (hy : y < m) (vm : m < pw 32) :
    Calls Try.prog 26 #[.agg #[.slice pa na ca], .agg #[.slice pb nb cb], .agg #[.slice pm nm cm]] w (Gives (x * y % m) 0 w) := mMul_ok ha hb hm hx hy vm (chk_ok ha hm hb hm hx hy vm vm)
end
end Go.Proofs.Ytlciocebbckdcaa.Mo
