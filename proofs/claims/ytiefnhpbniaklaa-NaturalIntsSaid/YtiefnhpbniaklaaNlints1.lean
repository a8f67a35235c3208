/- The walk of NaturalInts: Valid, Of, Int, Bits and Bit return what is specified. -/
import Derived.Test.YtiefnhpbniaklaaNlintm
import Derived.Deep.RegionHeld3
import Derived.Deep.Cut
namespace Go.Proofs.Ytiefnhpbniaklaa.Nlints
open Go.RowKit Go.Shelf Go.Proofs.Ytiefnhpbniaklaa.Nm Go.Proofs.Ytiefnhpbniaklaa.Ne Go.Proofs.Ytiefnhpbniaklaa.Nf Go.Proofs.Ytiefnhpbniaklaa.Nk Go.Proofs.Ytiefnhpbniaklaa.Nv Go.Proofs.Ytiefnhpbniaklaa.Nl Go.Proofs.Ytiefnhpbniaklaa.Nr2

set_option linter.unusedSimpArgs false in
set_option maxRecDepth 100000 in
set_option maxHeartbeats 40000000 in
theorem neg (w : World) (ba : Option Addr) (na ca : Nat) (x i : Int) (hx : x < 0) (l : List Nat) (ha : Nw w ba na ca l) (sa : na ≤ 100) (hi : i < 9223372036854775808) : Calls Try.prog 3 #[.agg #[.slice ba na ca], .int .i64 x, .int .i64 i] w fun e w' => e = .returned (.bool true) ∧ Gr w w' := by
  obtain ⟨v, hv⟩ : ∃ v, decide (valid l) = v := ⟨_, rfl⟩
  obtain ⟨hV1, hV2⟩ := valid_ex ha v hv
  obtain ⟨iv, ie, hr, hI⟩ := int_ex ha
  have HV := Lib.hid hv
  have HV1 := Lib.hid hV1
  have HV2 := Lib.hid hV2
  have HR := Lib.hid hr
  have HI := Lib.hid hI
  have R_a := Lib.hid ha
  have R0 := Lib.hid ha
  have SA := Lib.hid sa
  have HII := Lib.hid hi
  have HX := Lib.hid hx
  have hx1 : ¬ 0 ≤ x := by omega
  have hd0 : decide (x < 0) = true := decide_eq_true hx
  have hd1 : decide (0 ≤ x) = false := decide_eq_false hx1
  have G := Lib.hid (Gr.refl w)
  clear hv hV1 hV2 hr hI ha sa hi
  have k_a : (w.alloc (.cells #[.slice ba na ca] 24)).cell? ⟨w.heap.size, 0, none⟩ = some (.slice ba na ca) := by simp [go_sem]
  go_enter Try.func3, Try.ntmps3
  go_wp2_with fail
  refine (awake_any _).mono ?_
  rintro e w1 ⟨rfl, hg⟩
  replace k_a := hg.cell k_a
  have gg := ((Gr.refl w).alloc (.cells #[.slice ba na ca] 24)).trans hg
  replace R_a := Lib.hid (R_a.out.grow gg)
  replace G := Lib.hid (G.out.trans gg)
  clear hg gg
  have sa := SA.out
  go_wp2_with fail
  replace k_a := ((Gr.refl w1).alloc (.cells #[.slice ba na ca] 24)).cell k_a
  refine (great_no (n := 1) (c := 1) rfl (by decide) (nats1 w1 ba na ca) (le1 sa)).mono ?_
  rintro e w2 ⟨rfl, hg⟩
  replace k_a := hg.cell k_a
  have gg := ((Gr.refl w1).alloc (.cells #[.slice ba na ca] 24)).trans hg
  replace R_a := Lib.hid (R_a.out.grow gg)
  replace G := Lib.hid (G.out.trans gg)
  clear hg gg
  clear sa
  go_wp2_with fail
  refine (HV2.out _ (G.out.trans (Gr.refl w2))).mono ?_
  rintro e w3 ⟨rfl, hg⟩
  replace k_a := hg.cell k_a
  have gg := (Gr.refl w2).trans hg
  replace R_a := Lib.hid (R_a.out.grow gg)
  replace G := Lib.hid (G.out.trans gg)
  clear hg gg
  go_wp2_with fail
  refine (Of_neg x HX.out _).mono ?_
  rintro e w4 ⟨rfl, hg⟩
  replace k_a := hg.cell k_a
  have gg := (Gr.refl w3).trans hg
  replace R_a := Lib.hid (R_a.out.grow gg)
  replace G := Lib.hid (G.out.trans gg)
  clear hg gg
  replace k_a := ((Gr.refl w4).alloc (.cells #[.slice none 0 0] 24)).cell k_a
  have k_o : (w4.alloc (.cells #[.slice none 0 0] 24)).cell? ⟨w4.heap.size, 0, none⟩ = some (.slice none 0 0) := by simp [go_sem]
  go_wp2_with fail
  refine (HI.out _ (G.out.trans ((Gr.refl w4).alloc (.cells #[.slice none 0 0] 24)))).mono ?_
  rintro e w5 ⟨rfl, hg⟩
  replace k_a := hg.cell k_a
  replace k_o := hg.cell k_o
  have gg := ((Gr.refl w4).alloc (.cells #[.slice none 0 0] 24)).trans hg
  replace R_a := Lib.hid (R_a.out.grow gg)
  replace G := Lib.hid (G.out.trans gg)
  clear hg gg
  go_upto_region 8 with fail
  generalize w5 = wE at *
  go_cut [57] from 14 (fun s W => s = .bool false ∧ Gr wE W)
  case first => as_aux_lemma =>
    have GD : Gr wE wE.drew := (Gr.refl wE).drew
    have K0 : wE.drew.cell? ⟨w.heap.size, 0, none⟩ = some (.slice ba na ca) := k_a
    have K1 : wE.drew.cell? ⟨w4.heap.size, 0, none⟩ = some (.slice none 0 0) := k_o
    clear k_a k_o
    clear HV HV2 HR HI R0 SA HII
    refine wp_region_held_drew (S := fun W' => W'.cell? ⟨w.heap.size, 0, none⟩ = some (.slice ba na ca) ∧ W'.cell? ⟨w4.heap.size, 0, none⟩ = some (.slice none 0 0) ∧ Gr wE W') (by kernel_rfl) ⟨K0, K1, GD⟩ (fun hS => ?_)
    refine wpAnyH_take (i := 0) (v := ?_) rfl (by kernel_rfl) (by kernel_rfl) (by kernel_rfl) (fun _ _ _ h => h) (Or.inl ⟨by rfl, ?_⟩) hS ?_
    rotate_left
    · (intro wx hSx; go_simp; rfl)
    (try simp only [Act.put, List.getElem_toArray, List.getElem_cons_zero, List.getElem_cons_succ, List.setIfInBounds_toArray, List.set_cons_zero, List.set_cons_succ])
    refine wpAnyH_take (i := 2) (v := ?_) rfl (by kernel_rfl) (by kernel_rfl) (by kernel_rfl) (fun _ _ _ h => h) (Or.inl ⟨by rfl, ?_⟩) hS ?_
    rotate_left
    · (intro wx hSx; go_simp; rfl)
    (try simp only [Act.put, List.getElem_toArray, List.getElem_cons_zero, List.getElem_cons_succ, List.setIfInBounds_toArray, List.set_cons_zero, List.set_cons_succ])
    refine wpAnyH_ready (rs := [1]) (by kernel_rfl) (by simp) ?_
    refine AllReadyH.cons rfl (fun K hK2 => ?_) AllReadyH.nil
    go_simp
    go_at_call 25
    refine (HV1.out _ (G.out.trans hS.2.2)).mono ?_
    rintro e y0 ⟨rfl, hg0⟩
    have hS0 := (show y0.cell? ⟨w.heap.size, 0, none⟩ = some (.slice ba na ca) ∧ y0.cell? ⟨w4.heap.size, 0, none⟩ = some (.slice none 0 0) ∧ Gr wE y0 from ⟨hg0.cell hS.1, hg0.cell hS.2.1, Gr.trans hS.2.2 hg0⟩)
    clear hS
    have hS := hS0
    clear hS0 hg0
    refine hK2.out _ _ hS (fun _ => ?_)
    clear hK2 K
    (try simp only [Act.put, List.getElem_toArray, List.getElem_cons_zero, List.getElem_cons_succ, List.setIfInBounds_toArray, List.set_cons_zero, List.set_cons_succ])
    refine wpAnyH_take (i := 3) (v := ?_) rfl (by kernel_rfl) (by kernel_rfl) (by kernel_rfl) (fun _ _ _ h => h) (Or.inl ⟨by rfl, ?_⟩) hS ?_
    rotate_left
    · (intro wx hSx; go_simp; rfl)
    (try simp only [Act.put, List.getElem_toArray, List.getElem_cons_zero, List.getElem_cons_succ, List.setIfInBounds_toArray, List.set_cons_zero, List.set_cons_succ])
    refine wpAnyH_take (i := 4) (v := ?_) rfl (by kernel_rfl) (by kernel_rfl) (by kernel_rfl) (fun _ _ _ h => h) (Or.inl ⟨by rfl, ?_⟩) hS ?_
    rotate_left
    · (intro wx hSx; go_simp; rfl)
    (try simp only [Act.put, List.getElem_toArray, List.getElem_cons_zero, List.getElem_cons_succ, List.setIfInBounds_toArray, List.set_cons_zero, List.set_cons_succ])
    refine wpAnyH_take (i := 5) (v := ?_) rfl (by kernel_rfl) (by kernel_rfl) (by kernel_rfl) (fun _ _ _ h => h) (Or.inl ⟨by rfl, ?_⟩) hS ?_
    rotate_left
    · (intro wx hSx; go_simp; rfl)
    (try simp only [Act.put, List.getElem_toArray, List.getElem_cons_zero, List.getElem_cons_succ, List.setIfInBounds_toArray, List.set_cons_zero, List.set_cons_succ])
    refine wpAnyH_take (i := 6) (v := ?_) rfl (by kernel_rfl) (by kernel_rfl) (by kernel_rfl) (fun _ _ _ h => h) (Or.inl ⟨by rfl, ?_⟩) hS ?_
    rotate_left
    · (intro wx hSx; go_simp; rfl)
    (try simp only [Act.put, List.getElem_toArray, List.getElem_cons_zero, List.getElem_cons_succ, List.setIfInBounds_toArray, List.set_cons_zero, List.set_cons_succ])
    refine wpAnyH_take (i := 7) (v := ?_) rfl (by kernel_rfl) (by kernel_rfl) (by kernel_rfl) (fun _ _ _ h => h) (Or.inl ⟨by rfl, ?_⟩) hS ?_
    rotate_left
    · (intro wx hSx; go_simp; rfl)
    (try simp only [Act.put, List.getElem_toArray, List.getElem_cons_zero, List.getElem_cons_succ, List.setIfInBounds_toArray, List.set_cons_zero, List.set_cons_succ])
    refine wpAnyH_take (i := 8) (v := ?_) rfl (by kernel_rfl) (by kernel_rfl) (by kernel_rfl) (fun _ _ _ h => h) (Or.inl ⟨by rfl, ?_⟩) hS ?_
    rotate_left
    · (intro wx hSx; go_simp; rfl)
    (try simp only [Act.put, List.getElem_toArray, List.getElem_cons_zero, List.getElem_cons_succ, List.setIfInBounds_toArray, List.set_cons_zero, List.set_cons_succ])
    refine wpAnyH_take (i := 9) (v := ?_) rfl (by kernel_rfl) (by kernel_rfl) (by kernel_rfl) (fun _ _ _ h => h) (Or.inl ⟨by rfl, ?_⟩) hS ?_
    rotate_left
    · (intro wx hSx; go_simp; rfl)
    (try simp only [Act.put, List.getElem_toArray, List.getElem_cons_zero, List.getElem_cons_succ, List.setIfInBounds_toArray, List.set_cons_zero, List.set_cons_succ])
    refine wpAnyH_take (i := 10) (v := ?_) rfl (by kernel_rfl) (by kernel_rfl) (by kernel_rfl) (fun _ _ _ h => h) (Or.inl ⟨by rfl, ?_⟩) hS ?_
    rotate_left
    · (intro wx hSx; go_simp; rfl)
    (try simp only [Act.put, List.getElem_toArray, List.getElem_cons_zero, List.getElem_cons_succ, List.setIfInBounds_toArray, List.set_cons_zero, List.set_cons_succ])
    refine wpAnyH_ready (rs := [11]) (by kernel_rfl) (by simp) ?_
    refine AllReadyH.cons rfl (fun K hK2 => ?_) AllReadyH.nil
    go_simp
    go_at_call 26
    refine (is_lit (x := 0) 2 2 rfl (by decide) (by rw [digs_zero]; exact Nw.zero _) (by rw [digs_zero]; exact Nw.zero _)).mono ?_
    rintro e y1 ⟨rfl, hg1⟩
    have hS1 := (show y1.cell? ⟨w.heap.size, 0, none⟩ = some (.slice ba na ca) ∧ y1.cell? ⟨w4.heap.size, 0, none⟩ = some (.slice none 0 0) ∧ Gr wE y1 from ⟨hg1.cell hS.1, hg1.cell hS.2.1, Gr.trans hS.2.2 hg1⟩)
    clear hS
    have hS := hS1
    clear hS1 hg1
    refine hK2.out _ _ hS (fun _ => ?_)
    clear hK2 K
    (try simp only [Act.put, List.getElem_toArray, List.getElem_cons_zero, List.getElem_cons_succ, List.setIfInBounds_toArray, List.set_cons_zero, List.set_cons_succ])
    refine wpAnyH_take (i := 12) (v := ?_) rfl (by kernel_rfl) (by kernel_rfl) (by kernel_rfl) (fun _ _ _ h => h) (Or.inl ⟨by rfl, ?_⟩) hS ?_
    rotate_left
    · (intro wx hSx; go_simp; rfl)
    (try simp only [Act.put, List.getElem_toArray, List.getElem_cons_zero, List.getElem_cons_succ, List.setIfInBounds_toArray, List.set_cons_zero, List.set_cons_succ])
    refine wpAnyH_take (i := 13) (v := ?_) rfl (by kernel_rfl) (by kernel_rfl) (by kernel_rfl) (fun _ _ _ h => h) (Or.inl ⟨by rfl, ?_⟩) hS ?_
    rotate_left
    · (intro wx hSx; go_simp; rfl)
    (try simp only [Act.put, List.getElem_toArray, List.getElem_cons_zero, List.getElem_cons_succ, List.setIfInBounds_toArray, List.set_cons_zero, List.set_cons_succ])
    refine wpAnyH_take (i := 14) (v := ?_) rfl (by kernel_rfl) (by kernel_rfl) (by kernel_rfl) (fun _ _ _ h => h) (Or.inl ⟨by rfl, ?_⟩) hS ?_
    rotate_left
    · (intro wx hSx; go_simp; rfl)
    (try simp only [Act.put, List.getElem_toArray, List.getElem_cons_zero, List.getElem_cons_succ, List.setIfInBounds_toArray, List.set_cons_zero, List.set_cons_succ])
    refine wpAnyH_take (i := 15) (v := ?_) rfl (by kernel_rfl) (by kernel_rfl) (by kernel_rfl) (fun _ _ _ h => h) (Or.inl ⟨by rfl, ?_⟩) hS ?_
    rotate_left
    · (intro wx hSx; go_simp; rfl)
    (try simp only [Act.put, List.getElem_toArray, List.getElem_cons_zero, List.getElem_cons_succ, List.setIfInBounds_toArray, List.set_cons_zero, List.set_cons_succ])
    refine wpAnyH_take (i := 16) (v := ?_) rfl (by kernel_rfl) (by kernel_rfl) (by kernel_rfl) (fun _ _ _ h => h) (Or.inl ⟨by rfl, ?_⟩) hS ?_
    rotate_left
    · (intro wx hSx; go_simp; rfl)
    (try simp only [Act.put, List.getElem_toArray, List.getElem_cons_zero, List.getElem_cons_succ, List.setIfInBounds_toArray, List.set_cons_zero, List.set_cons_succ])
    refine wpAnyH_take (i := 17) (v := ?_) rfl (by kernel_rfl) (by kernel_rfl) (by kernel_rfl) (fun _ _ _ h => h) (Or.inl ⟨by rfl, ?_⟩) hS ?_
    rotate_left
    · (intro wx hSx; go_simp; rfl)
    (try simp only [Act.put, List.getElem_toArray, List.getElem_cons_zero, List.getElem_cons_succ, List.setIfInBounds_toArray, List.set_cons_zero, List.set_cons_succ])
    refine wpAnyH_take (i := 18) (v := ?_) rfl (by kernel_rfl) (by kernel_rfl) (by kernel_rfl) (fun _ _ _ h => h) (Or.inl ⟨by rfl, ?_⟩) hS ?_
    rotate_left
    · (intro wx hSx; go_simp; rfl)
    (try simp only [Act.put, List.getElem_toArray, List.getElem_cons_zero, List.getElem_cons_succ, List.setIfInBounds_toArray, List.set_cons_zero, List.set_cons_succ])
    refine wpAnyH_take (i := 19) (v := undef) rfl (by kernel_rfl) (by kernel_rfl) (by kernel_rfl) (fun _ _ _ h => h) (Or.inr ⟨by rfl, rfl⟩) hS ?_
    (try simp only [Act.put, List.getElem_toArray, List.getElem_cons_zero, List.getElem_cons_succ, List.setIfInBounds_toArray, List.set_cons_zero, List.set_cons_succ])
    refine wpAnyH_take (i := 20) (v := undef) rfl (by kernel_rfl) (by kernel_rfl) (by kernel_rfl) (fun _ _ _ h => h) (Or.inr ⟨by rfl, rfl⟩) hS ?_
    (try simp only [Act.put, List.getElem_toArray, List.getElem_cons_zero, List.getElem_cons_succ, List.setIfInBounds_toArray, List.set_cons_zero, List.set_cons_succ])
    refine wpAnyH_take (i := 21) (v := undef) rfl (by kernel_rfl) (by kernel_rfl) (by kernel_rfl) (fun _ _ _ h => h) (Or.inr ⟨by rfl, rfl⟩) hS ?_
    (try simp only [Act.put, List.getElem_toArray, List.getElem_cons_zero, List.getElem_cons_succ, List.setIfInBounds_toArray, List.set_cons_zero, List.set_cons_succ])
    refine wpAnyH_take (i := 22) (v := undef) rfl (by kernel_rfl) (by kernel_rfl) (by kernel_rfl) (fun _ _ _ h => h) (Or.inr ⟨by rfl, rfl⟩) hS ?_
    (try simp only [Act.put, List.getElem_toArray, List.getElem_cons_zero, List.getElem_cons_succ, List.setIfInBounds_toArray, List.set_cons_zero, List.set_cons_succ])
    refine wpAnyH_take (i := 23) (v := undef) rfl (by kernel_rfl) (by kernel_rfl) (by kernel_rfl) (fun _ _ _ h => h) (Or.inr ⟨by rfl, rfl⟩) hS ?_
    (try simp only [Act.put, List.getElem_toArray, List.getElem_cons_zero, List.getElem_cons_succ, List.setIfInBounds_toArray, List.set_cons_zero, List.set_cons_succ])
    refine wpAnyH_take (i := 24) (v := undef) rfl (by kernel_rfl) (by kernel_rfl) (by kernel_rfl) (fun _ _ _ h => h) (Or.inr ⟨by rfl, rfl⟩) hS ?_
    (try simp only [Act.put, List.getElem_toArray, List.getElem_cons_zero, List.getElem_cons_succ, List.setIfInBounds_toArray, List.set_cons_zero, List.set_cons_succ])
    refine wpAnyH_take (i := 25) (v := ?_) rfl (by kernel_rfl) (by kernel_rfl) (by kernel_rfl) (fun _ _ _ h => h) (Or.inl ⟨by rfl, ?_⟩) hS ?_
    rotate_left
    · (intro wx hSx; go_simp; rfl)
    (try simp only [Act.put, List.getElem_toArray, List.getElem_cons_zero, List.getElem_cons_succ, List.setIfInBounds_toArray, List.set_cons_zero, List.set_cons_succ])
    refine wpAnyH_take (i := 26) (v := ?_) rfl (by kernel_rfl) (by kernel_rfl) (by kernel_rfl) (fun _ _ _ h => h) (Or.inl ⟨by rfl, ?_⟩) hS ?_
    rotate_left
    · (intro wx hSx; go_simp; rfl)
    (try simp only [Act.put, List.getElem_toArray, List.getElem_cons_zero, List.getElem_cons_succ, List.setIfInBounds_toArray, List.set_cons_zero, List.set_cons_succ])
    refine wpAnyH_done (by kernel_rfl) ?_ _
    go_wp2_with fail
    go_meet
    exact ⟨rfl, hS.2.2⟩
  case rest => as_aux_lemma =>
    obtain ⟨rfl, hcut⟩ := hcut
    replace k_a := hcut.cell k_a
    replace k_o := hcut.cell k_o
    replace R_a := Lib.hid (R_a.out.grow hcut)
    replace G := Lib.hid (G.out.trans hcut)
    clear hcut
    clear k_o
    rcases HR.out with ⟨ev, rfl, rfl⟩ | ⟨ev, hlt, eiv, rfl⟩ | ⟨ev, hge, rfl, rfl⟩
    · obtain rfl : false = v := ev.symm.trans HV.out
      go_wp2_with fail
      refine (bits_bad (R_a.out.grow (Gr.refl wc)) ev).mono ?_
      rintro e w6 ⟨rfl, hg⟩
      replace k_a := hg.cell k_a
      have gg := (Gr.refl wc).trans hg
      replace R_a := Lib.hid (R_a.out.grow gg)
      replace G := Lib.hid (G.out.trans gg)
      clear hg gg
      go_wp2_with fail
      refine (Bit_bad _ _ _ _ _ _ (R_a.out.grow (Gr.refl w6)) ev).mono ?_
      rintro e w7 ⟨rfl, hg⟩
      replace k_a := hg.cell k_a
      have gg := (Gr.refl w6).trans hg
      replace R_a := Lib.hid (R_a.out.grow gg)
      replace G := Lib.hid (G.out.trans gg)
      clear hg gg
      go_wp2
      go_ret
      exact ⟨rfl, G.out⟩
    · obtain rfl : true = v := ev.symm.trans HV.out
      obtain ⟨y, hy, rfl⟩ := nw_value R0.out ev
      rw [val_digs] at hlt eiv
      have eiv2 := eiv.symm
      subst eiv2
      have HLT := Lib.hid hlt
      clear hlt
      have HY := Lib.hid hy
      obtain ⟨t, ht1, ht2⟩ := bit_any i HII.out R0.out hy
      have HT1 := Lib.hid ht1
      have HT2 := Lib.hid ht2
      clear ht1 ht2 hy ev
      have HB1 := Lib.hid (fun W (hW : Gr w W) => Bits_v (w := W) (R0.out.grow hW) HY.out)
      have HB2 := Lib.hid (fun W (hW : Gr w W) => rbits_v ba na ca y W (R0.out.grow hW))
      obtain ⟨B, hB⟩ : ∃ B, nb y = B := ⟨_, rfl⟩
      rw [hB] at HB1 HB2
      clear hB
      go_upto_region 12 with fail
      go_cut [90] from 14 (fun s W => s = .bool false ∧ Gr wc W)
      case first => as_aux_lemma =>
        have K0 : wc.drew.cell? ⟨w.heap.size, 0, none⟩ = some (.slice ba na ca) := k_a
        have GD : Gr w wc.drew := G.out.drew
        have GC : Gr wc wc.drew := (Gr.refl wc).drew
        clear k_a
        first
        | (go_region_held3 (fun W' => W'.cell? ⟨w.heap.size, 0, none⟩ = some (.slice ba na ca) ∧ Gr w W' ∧ Gr wc W')
            (first | exact ⟨K0, GD, GC⟩ | (refine ⟨?_, ?_, ?_⟩ <;> assumption))
            (first
            | (go_at_call 28; refine (HB1.out _ ?_).mono ?_; assumption; rintro e y0 ⟨rfl, hg0⟩; have z0 := hg0.cell (p := ⟨w.heap.size, 0, none⟩) (v := .slice ba na ca) (by assumption); have g0 : Gr w y0 := Gr.trans (by assumption) hg0; have c0 : Gr wc y0 := Gr.trans (by assumption) hg0)
            | (go_at_call 30; refine (HB2.out _ ?_).mono ?_; assumption; rintro e y1 ⟨rfl, hg1⟩; have z1 := hg1.cell (p := ⟨w.heap.size, 0, none⟩) (v := .slice ba na ca) (by assumption); have g1 : Gr w y1 := Gr.trans (by assumption) hg1; have c1 : Gr wc y1 := Gr.trans (by assumption) hg1)
            | (go_at_call 29; refine (HT1.out _ ?_).mono ?_; assumption; rintro e y2 ⟨rfl, hg2⟩; have z2 := hg2.cell (p := ⟨w.heap.size, 0, none⟩) (v := .slice ba na ca) (by assumption); have g2 : Gr w y2 := Gr.trans (by assumption) hg2; have c2 : Gr wc y2 := Gr.trans (by assumption) hg2)
            | (go_at_call 31; refine (HT2.out _ ?_).mono ?_; assumption; rintro e y3 ⟨rfl, hg3⟩; have z3 := hg3.cell (p := ⟨w.heap.size, 0, none⟩) (v := .slice ba na ca) (by assumption); have g3 : Gr w y3 := Gr.trans (by assumption) hg3; have c3 : Gr wc y3 := Gr.trans (by assumption) hg3)))
        | fail
        all_goals (go_wp2_with fail; go_meet; exact ⟨rfl, by assumption⟩)
      case rest => as_aux_lemma =>
        obtain ⟨rfl, hcut⟩ := hcut
        replace k_a := hcut.cell k_a
        replace R_a := Lib.hid (R_a.out.grow hcut)
        replace G := Lib.hid (G.out.trans hcut)
        clear hcut
        go_wp2_with fail
        refine (rint_small _ _ _ _ HLT.out _ (R_a.out.grow (Gr.refl wc))).mono ?_
        rintro e w6 ⟨rfl, hg⟩
        replace k_a := hg.cell k_a
        have gg := (Gr.refl wc).trans hg
        replace R_a := Lib.hid (R_a.out.grow gg)
        replace G := Lib.hid (G.out.trans gg)
        clear hg gg
        go_wp2
        go_ret
        exact ⟨rfl, G.out⟩
    · obtain rfl : true = v := ev.symm.trans HV.out
      obtain ⟨y, hy, rfl⟩ := nw_value R0.out ev
      rw [val_digs] at hge
      have HGE := Lib.hid hge
      clear hge
      have HY := Lib.hid hy
      obtain ⟨t, ht1, ht2⟩ := bit_any i HII.out R0.out hy
      have HT1 := Lib.hid ht1
      have HT2 := Lib.hid ht2
      clear ht1 ht2 hy ev
      have HB1 := Lib.hid (fun W (hW : Gr w W) => Bits_v (w := W) (R0.out.grow hW) HY.out)
      have HB2 := Lib.hid (fun W (hW : Gr w W) => rbits_v ba na ca y W (R0.out.grow hW))
      obtain ⟨B, hB⟩ : ∃ B, nb y = B := ⟨_, rfl⟩
      rw [hB] at HB1 HB2
      clear hB
      go_upto_region 12 with fail
      go_cut [90] from 14 (fun s W => s = .bool false ∧ Gr wc W)
      case first => as_aux_lemma =>
        have K0 : wc.drew.cell? ⟨w.heap.size, 0, none⟩ = some (.slice ba na ca) := k_a
        have GD : Gr w wc.drew := G.out.drew
        have GC : Gr wc wc.drew := (Gr.refl wc).drew
        clear k_a
        first
        | (go_region_held3 (fun W' => W'.cell? ⟨w.heap.size, 0, none⟩ = some (.slice ba na ca) ∧ Gr w W' ∧ Gr wc W')
            (first | exact ⟨K0, GD, GC⟩ | (refine ⟨?_, ?_, ?_⟩ <;> assumption))
            (first
            | (go_at_call 28; refine (HB1.out _ ?_).mono ?_; assumption; rintro e y0 ⟨rfl, hg0⟩; have z0 := hg0.cell (p := ⟨w.heap.size, 0, none⟩) (v := .slice ba na ca) (by assumption); have g0 : Gr w y0 := Gr.trans (by assumption) hg0; have c0 : Gr wc y0 := Gr.trans (by assumption) hg0)
            | (go_at_call 30; refine (HB2.out _ ?_).mono ?_; assumption; rintro e y1 ⟨rfl, hg1⟩; have z1 := hg1.cell (p := ⟨w.heap.size, 0, none⟩) (v := .slice ba na ca) (by assumption); have g1 : Gr w y1 := Gr.trans (by assumption) hg1; have c1 : Gr wc y1 := Gr.trans (by assumption) hg1)
            | (go_at_call 29; refine (HT1.out _ ?_).mono ?_; assumption; rintro e y2 ⟨rfl, hg2⟩; have z2 := hg2.cell (p := ⟨w.heap.size, 0, none⟩) (v := .slice ba na ca) (by assumption); have g2 : Gr w y2 := Gr.trans (by assumption) hg2; have c2 : Gr wc y2 := Gr.trans (by assumption) hg2)
            | (go_at_call 31; refine (HT2.out _ ?_).mono ?_; assumption; rintro e y3 ⟨rfl, hg3⟩; have z3 := hg3.cell (p := ⟨w.heap.size, 0, none⟩) (v := .slice ba na ca) (by assumption); have g3 : Gr w y3 := Gr.trans (by assumption) hg3; have c3 : Gr wc y3 := Gr.trans (by assumption) hg3)))
        | fail
        all_goals (go_wp2_with fail; go_meet; exact ⟨rfl, by assumption⟩)
      case rest => as_aux_lemma =>
        obtain ⟨rfl, hcut⟩ := hcut
        replace k_a := hcut.cell k_a
        replace R_a := Lib.hid (R_a.out.grow hcut)
        replace G := Lib.hid (G.out.trans hcut)
        clear hcut
        go_wp2_with fail
        refine (rint_big _ _ _ _ HGE.out _ (R_a.out.grow (Gr.refl wc))).mono ?_
        rintro e w6 ⟨rfl, hg⟩
        replace k_a := hg.cell k_a
        have gg := (Gr.refl wc).trans hg
        replace R_a := Lib.hid (R_a.out.grow gg)
        replace G := Lib.hid (G.out.trans gg)
        clear hg gg
        go_wp2
        go_ret
        exact ⟨rfl, G.out⟩

end Go.Proofs.Ytiefnhpbniaklaa.Nlints
