/- The reference's Encode. -/
import Derived.Test.YtcngcdfngifjnaaDoorQCg
import Derived.Deep.Cut
namespace Go.Proofs.YtcngcdfngifjnaaDoor.Dg
open Go Go.RowKit Go.Proofs.YtcngcdfngifjnaaDoor.Ne Go.Proofs.YtcngcdfngifjnaaDoor.Kr

/-- What a call says that encodes. -/
def EnP (w : World) (E : List (BitVec 8)) (e : Ending) (w' : World) : Prop := ∃ p n c, e = .returned (.slice p n c) ∧ E.length = n ∧ (p = none → c = 0) ∧ SrcB p E w' ∧ Gr w w'
theorem enp_of {w W : World} {B : Nat} {v : Value} {E : List (BitVec 8)} (h : RowG 5 B v (E.map w8) W) (g : Gr w W) : EnP w E (.returned v) W := by
  obtain ⟨p, c, e1, h1, h2, h3⟩ := h.src
  exact ⟨p, E.length, c, by rw [e1, List.length_map], rfl, h2, srcB_of h3, g⟩

set_option linter.unusedSimpArgs false in
set_option maxRecDepth 100000 in
set_option maxHeartbeats 16000000 in
theorem rEncode_step {d : Nat} (ih : ∀ e, e + 1 = d → ∀ {k : Nat} {F : Nat → Prop} {v : Value} {t : It} {w : World}, ItV w k F v t → vld e t = true → (enc e t).length ≤ 99999900 → Calls Tryd.prog 15 #[v] w (EnP w (enc e t)))
    {k : Nat} {F : Nat → Prop} {v : Value} {t : It} {w : World} (hI : ItV w k F v t) (hv : vld d t = true) (hb : (enc d t).length ≤ 99999900) :
    Calls Tryd.prog 15 #[v] w (EnP w (enc d t)) := by
  obtain ⟨k0, rfl⟩ : ∃ k0, k = k0 + 1 := by cases k with
    | zero => exact hI.elim
    | succ k0 => exact ⟨k0, rfl⟩
  obtain ⟨pb, cb, pl, cl, hv, hk1, hn1, hpb, hcb, hbl, hll, hB, hL⟩ := hI; subst hv
  obtain ⟨tk, htk⟩ : ∃ z, t.k = z := ⟨_, rfl⟩; obtain ⟨tn, htn⟩ : ∃ z, t.n = z := ⟨_, rfl⟩; obtain ⟨bl, hbl2⟩ : ∃ z, t.b.length = z := ⟨_, rfl⟩; obtain ⟨ll, hll2⟩ : ∃ z, t.l.length = z := ⟨_, rfl⟩
  rw [htk] at hk1; rw [htn] at hn1; rw [hbl2] at hcb hbl; rw [hll2] at hll; have HTK := Lib.hid htk; have HTN := Lib.hid htn; have HBL := Lib.hid hbl2; have HLL := Lib.hid hll2; have HBB := Lib.hid hB; have HLS := Lib.hid hL; have HPB := Lib.hid hpb; have HI1 := Lib.hid hk1; have HI2 := Lib.hid hn1; rw [htk, htn, hbl2, hll2]; clear htk htn hbl2 hll2 hB hL hpb hk1 hn1
  have HVC := Lib.hid (vld_cases hv)
  obtain ⟨E, hE⟩ : ∃ z, enc d t = z := ⟨_, rfl⟩; rw [hE] at hb ⊢; have HE := Lib.hid hE; have HBD := Lib.hid hb; clear hE hv hb
  have H := Ow.start w
  go_enter Tryd.func15, Tryd.ntmps15
  go_upto_region 0 with fail
  refine Kr.seqStartW ?_
  refine Kr.seqR (by rfl) (fun K hK => ?_)
  refine wp_runV rfl boxI ?_
  obtain ⟨y1, hy⟩ : ∃ y, w.alloc (.cells ([.int .i64 tk, .int .i64 tn, .slice pb bl cb, .slice pl ll cl]).toArray 25) = y := ⟨_, rfl⟩
  obtain ⟨ba, hb⟩ : ∃ b, w.heap.size = b := ⟨_, rfl⟩
  rw [hy, hb]
  have hg : Gr w y1 := hy ▸ (Gr.refl _).alloc _
  replace H := H.alloc hy hb
  clear hy hb hg
  (refine Kr.outS hK (a' := ?_) ?_ ?_; rotate_left; (focus ((try simp only [Kr.PT]); first | done | rfl))); clear hK K
  (refine Kr.seqQ (v := ?_) (a' := ?_) (by rfl) ?_ ?_ ?_; rotate_left 2; (focus (go_simp; first | done | rfl)); (focus ((try simp only [Kr.PT]); first | done | rfl)))
  refine Kr.seqDoneW ?_
  go_upto_region 1 with fail
  refine Kr.seqStartW ?_
  (refine Kr.seqQ (v := .pointer (some ⟨ba, 0, none⟩)) (a' := ?_) (by rfl) ?_ ?_ ?_; rotate_left 1; (focus (go_simp; first | done | rfl)); (focus ((try simp only [Kr.PT]); first | done | rfl)))
  (refine Kr.seqQ (v := .int .i64 tk) (a' := ?_) (by rfl) ?_ ?_ ?_; rotate_left 1; (focus (exact Kr.valOf rfl (ldInt (rowCell (j := 0) (H.at 0 rfl) rfl)))); (focus ((try simp only [Kr.PT]); first | done | rfl)))
  refine Kr.seqDoneW ?_
  by_cases k1 : tk = 1
  · have C1 : decide (tk = 1) = true := decide_eq_true (by exact k1)
    have hEE : E = 1#8 :: beI 8 tn := by rw [← HE.out, enc1 (HTK.out.trans k1) d, HTN.out]; rfl
    subst hEE; clear k1
    obtain ⟨m, hm⟩ : ∃ m : Nat, tn % 18446744073709551616 = (m : Int) := ⟨(tn % 18446744073709551616).toNat, by omega⟩; have HM := Lib.hid hm; have hm2 : m < 18446744073709551616 := by omega
    clear hm
    go_upto_region 2 with fail
    refine Kr.seqStartW ?_
    (refine Kr.seqQ (v := .bool true) (a' := ?_) (by rfl) ?_ ?_ ?_; rotate_left 1; (focus (exact Kr.valOf rfl (eqlI C1))); (focus ((try simp only [Kr.PT]); first | done | rfl)))
    (refine Kr.seqQ (v := ?_) (a' := ?_) (by rfl) ?_ ?_ ?_; rotate_left 2; (focus (go_simp; first | done | rfl)); (focus ((try simp only [Kr.PT]); first | done | rfl)))
    refine Kr.seqDoneW ?_
    go_upto_region 3 with fail
    refine Kr.seqStartW ?_
    refine Kr.seqR (by rfl) (fun K hK => ?_)
    go_simp
    have hR0 := rowG_lit (W := y1) (T := 5) (B := y1.heap.size) (xs := [w8 1#8]) (Nat.le_refl _) (by decide)
    have hA0 := apt_rowG H hR0
    obtain ⟨y2, hy⟩ : ∃ y, y1.alloc (.cells #[.int .u8 1] 5) = y := ⟨_, rfl⟩; obtain ⟨bone, hbn⟩ : ∃ b, y1.heap.size = b := ⟨_, rfl⟩; rw [hy, hbn]
    have hR1 : RowG 5 w.heap.size (.slice (some ⟨bone, 0, none⟩) 1 1) [w8 1#8] y2 := by
      have h := rowG_low H.g.size hR0
      rw [show y1.alloc (.cells ([w8 1#8] : List Value).toArray 5) = y2 from hy, hbn] at h; exact h
    rw [hbn] at hA0; have HR := Lib.hid hR1; have HA := Lib.hid hA0; have hg : Gr y1 y2 := hy ▸ (Gr.refl _).alloc _; clear hR0 hR1 hA0
    replace H := H.grow hg
    clear hg hy hbn
    (refine Kr.outS hK (a' := ?_) ?_ ?_; rotate_left; (focus ((try simp only [Kr.PT]); first | done | rfl))); clear hK K
    (refine Kr.seqQ (v := .pointer (some ⟨ba, 1, none⟩)) (a' := ?_) (by rfl) ?_ ?_ ?_; rotate_left 1; (focus (go_simp; first | done | rfl)); (focus ((try simp only [Kr.PT]); first | done | rfl)))
    (refine Kr.seqQ (v := .int .i64 tn) (a' := ?_) (by rfl) ?_ ?_ ?_; rotate_left 1; (focus (exact Kr.valOf rfl (ldInt (rowCell (j := 1) (H.at 0 rfl) rfl)))); (focus ((try simp only [Kr.PT]); first | done | rfl)))
    (refine Kr.seqQ (v := .int .u64 (m : Int)) (a' := ?_) (by rfl) ?_ ?_ ?_; rotate_left 1; (focus (exact Kr.valOf rfl (convNU HM.out))); (focus ((try simp only [Kr.PT]); first | done | rfl)))
    refine Kr.seqR (by rfl) (fun K hK => ?_)
    go_simp
    go_at_call 39
    refine (rnum_v (m := m) (k := 8) (w := y2) (by omega) (by decide)).mono ?_
    rintro e y3 ⟨bq, rfl, _, hsn, hg⟩; rw [beN_int HM.out] at hsn; have HN := Lib.hid hsn; clear hsn
    replace H := H.grow hg
    replace HR := Lib.hid (HR.out.grow hg)
    clear hg
    (refine Kr.outS hK (a' := ?_) ?_ ?_; rotate_left; (focus ((try simp only [Kr.PT]); first | done | rfl))); clear hK K
    refine Kr.seqR (by rfl) (fun K hK => ?_)
    refine wp_appG (T := 5) (TS := 22) Tryd.underlying22 info8 rfl (.tmp 9) (.tmp 13) rfl (v := .slice (some ⟨bone, 0, none⟩) 1 1) (r := [w8 1#8]) (d := ((beI 8 tn).map w8)) (p := (some ⟨bq, 0, none⟩)) (m := 8) (c := 8) (rs := [(ba, 25, [.int .i64 tk, .int .i64 tn, .slice pb bl cb, .slice pl ll cl])]) rfl rfl (by rw [List.length_map, beI_length]) (HN.out.srcG) (one_lit8 _) (fun e => by cases e) H HR.out HA.out (by decide) (by decide) ?_
    intro q5 y4 H3 hR3 hA3
    clear H HR HA; have H := H3; have HR := Lib.hid hR3; have HA := Lib.hid hA3; clear H3 hR3 hA3
    (refine Kr.outS hK (a' := ?_) ?_ ?_; rotate_left; (focus ((try simp only [Kr.PT]); first | done | rfl))); clear hK K
    (refine Kr.seqQ (v := ?_) (a' := ?_) (by rfl) ?_ ?_ ?_; rotate_left 2; (focus (go_simp; first | done | rfl)); (focus ((try simp only [Kr.PT]); first | done | rfl)))
    refine Kr.seqDoneW ?_
    have hk := trivial
    go_wp2
    refine bodyPost_ret (v := q5) (by simp [results, Tryd.results15, go_sem, hk]) rfl (enp_of (E := 1#8 :: beI 8 tn) HR.out H.g)
  by_cases k2 : tk = 2
  · have C1 : decide (tk = 1) = false := decide_eq_false (by exact k1)
    have C2 : decide (tk = 2) = true := decide_eq_true (by exact k2)
    have hEE : E = 2#8 :: (beI 4 (bl : Int) ++ t.b) := by rw [← HE.out, enc2 (HTK.out.trans k2) d, HBL.out]; rfl
    subst hEE; clear k1 k2; have hbd := HBD.out; rw [List.length_cons, List.length_append, beI_length, HBL.out] at hbd
    go_upto_region 2 with fail
    refine Kr.seqStartW ?_
    (refine Kr.seqQ (v := .bool false) (a' := ?_) (by rfl) ?_ ?_ ?_; rotate_left 1; (focus (exact Kr.valOf rfl (eqlI C1))); (focus ((try simp only [Kr.PT]); first | done | rfl)))
    (refine Kr.seqQ (v := ?_) (a' := ?_) (by rfl) ?_ ?_ ?_; rotate_left 2; (focus (go_simp; first | done | rfl)); (focus ((try simp only [Kr.PT]); first | done | rfl)))
    refine Kr.seqDoneW ?_
    go_upto_region 4 with fail
    refine Kr.seqStartW ?_
    (refine Kr.seqQ (v := .bool true) (a' := ?_) (by rfl) ?_ ?_ ?_; rotate_left 1; (focus (exact Kr.valOf rfl (eqlI C2))); (focus ((try simp only [Kr.PT]); first | done | rfl)))
    (refine Kr.seqQ (v := ?_) (a' := ?_) (by rfl) ?_ ?_ ?_; rotate_left 2; (focus (go_simp; first | done | rfl)); (focus ((try simp only [Kr.PT]); first | done | rfl)))
    refine Kr.seqDoneW ?_
    go_upto_region 5 with fail
    refine Kr.startL (fun W' => (W'.heap[ba]? = some (.cells ([.int .i64 tk, .int .i64 tn, .slice pb bl cb, .slice pl ll cl]).toArray 25 (0, 0))) ∧ True) [] (by kernel_rfl) ?_
    have gd : Gr y1 y1.drew := (Gr.refl _).drew
    generalize y1.drew = d6 at gd ⊢
    replace H := H.grow gd
    clear gd
    (refine Kr.tPQ 1 (v := ?_) (a' := ?_) rfl (by kernel_rfl) (fun _ _ _ h => h) (by rfl) (fun _ => ⟨(H.at 0 rfl), trivial⟩) (fun wx => ?_) ?_ ?_; rotate_left 2; (focus (go_simp; first | done | rfl)); (focus ((try simp only [Kr.PT]); first | done | rfl)))
    (refine Kr.tSQ 2 [] (v := .slice pb bl cb) (a' := ?_) rfl (by kernel_rfl) (fun _ _ _ h => h) (by rfl) ⟨(H.at 0 rfl), trivial⟩ (fun wx hSx => ?_) ?_ ?_; rotate_left 1; (focus (exact Kr.valOf rfl (ldSl (rowCell (j := 2) hSx.1 rfl)))); (focus ((try simp only [Kr.PT]); first | done | rfl)))
    (refine Kr.tPQ 3 (v := .int .i64 (bl : Int)) (a' := ?_) rfl (by kernel_rfl) (fun _ _ _ h => h) (by rfl) (fun _ => ⟨(H.at 0 rfl), trivial⟩) (fun wx => ?_) ?_ ?_; rotate_left 1; (focus (exact Kr.valOf rfl ((by go_simp)))); (focus ((try simp only [Kr.PT]); first | done | rfl)))
    (refine Kr.tPQ 4 (v := .int .u64 (bl : Int)) (a' := ?_) rfl (by kernel_rfl) (fun _ _ _ h => h) (by rfl) (fun _ => ⟨(H.at 0 rfl), trivial⟩) (fun wx => ?_) ?_ ?_; rotate_left 1; (focus (exact Kr.valOf rfl (convIU (by omega)))); (focus ((try simp only [Kr.PT]); first | done | rfl)))
    (refine Kr.tPQ 7 (v := ?_) (a' := ?_) rfl (by kernel_rfl) (fun _ _ _ h => h) (by rfl) (fun _ => ⟨(H.at 0 rfl), trivial⟩) (fun wx => ?_) ?_ ?_; rotate_left 2; (focus (go_simp; first | done | rfl)); (focus ((try simp only [Kr.PT]); first | done | rfl)))
    (refine Kr.tSQ 8 [] (v := .slice pb bl cb) (a' := ?_) rfl (by kernel_rfl) (fun _ _ _ h => h) (by rfl) ⟨(H.at 0 rfl), trivial⟩ (fun wx hSx => ?_) ?_ ?_; rotate_left 1; (focus (exact Kr.valOf rfl (ldSl (rowCell (j := 2) hSx.1 rfl)))); (focus ((try simp only [Kr.PT]); first | done | rfl)))
    refine Kr.readyL (rs := [0, 5]) (by kernel_rfl) (by simp) ?_
    refine Kr.AllL.cons rfl (fun K hK => ?_) ?_
    · go_simp
      have hR0 := rowG_lit (W := d6) (T := 5) (B := d6.heap.size) (xs := [w8 2#8]) (Nat.le_refl _) (by decide)
      have hA0 := apt_rowG H hR0
      obtain ⟨y7, hy⟩ : ∃ y, d6.alloc (.cells #[.int .u8 2] 5) = y := ⟨_, rfl⟩; obtain ⟨bone, hbn⟩ : ∃ b, d6.heap.size = b := ⟨_, rfl⟩; rw [hy, hbn]
      have hR1 : RowG 5 w.heap.size (.slice (some ⟨bone, 0, none⟩) 1 1) [w8 2#8] y7 := by
        have h := rowG_low H.g.size hR0
        rw [show d6.alloc (.cells ([w8 2#8] : List Value).toArray 5) = y7 from hy, hbn] at h; exact h
      rw [hbn] at hA0; have HR := Lib.hid hR1; have HA := Lib.hid hA0; have hg : Gr d6 y7 := hy ▸ (Gr.refl _).alloc _; clear hR0 hR1 hA0
      replace H := H.grow hg
      clear hg hy hbn
      (refine Kr.outL hK (a' := ?_) ?_ (fun _ => ⟨(H.at 0 rfl), trivial⟩) ?_; rotate_left; (focus ((try simp only [Kr.PT]); first | done | rfl))); clear hK K
      refine Kr.readyL (rs := [5]) (by kernel_rfl) (by simp) ?_
      refine Kr.AllL.cons rfl (fun K hK => ?_) Kr.AllL.nil
      go_simp
      go_at_call 39
      refine (rnum_v (m := bl) (k := 4) (w := y7) (by omega) (by decide)).mono ?_
      rintro e y8 ⟨bq, rfl, _, hsn, hg⟩; rw [beN_beI] at hsn; have HN := Lib.hid hsn; clear hsn
      replace H := H.grow hg
      replace HR := Lib.hid (HR.out.grow hg)
      clear hg
      (refine Kr.outL hK (a' := ?_) ?_ (fun _ => ⟨(H.at 0 rfl), trivial⟩) ?_; rotate_left; (focus ((try simp only [Kr.PT]); first | done | rfl))); clear hK K
      refine Kr.readyL (rs := [6]) (by kernel_rfl) (by simp) ?_
      refine Kr.AllL.cons rfl (fun K hK => ?_) Kr.AllL.nil
      rw [if_pos (by rfl)]
      refine wp_appG (T := 5) (TS := 22) Tryd.underlying22 info8 rfl (.tmp 17) (.tmp 22) rfl (v := .slice (some ⟨bone, 0, none⟩) 1 1) (r := [w8 2#8]) (d := ((beI 4 (bl : Int)).map w8)) (p := (some ⟨bq, 0, none⟩)) (m := 4) (c := 4) (rs := [(ba, 25, [.int .i64 tk, .int .i64 tn, .slice pb bl cb, .slice pl ll cl])]) rfl rfl (by rw [List.length_map, beI_length]) (HN.out.srcG) (one_lit8 _) (fun e => by cases e) H HR.out HA.out (by decide) (by decide) ?_
      intro q10 y9 H3 hR3 hA3
      clear H HR HA; have H := H3; have HR := Lib.hid hR3; have HA := Lib.hid hA3; clear H3 hR3 hA3
      (refine Kr.outL hK (a' := ?_) ?_ (fun _ => ⟨(H.at 0 rfl), trivial⟩) ?_; rotate_left; (focus ((try simp only [Kr.PT]); first | done | rfl))); clear hK K
      refine Kr.readyL (rs := [9]) (by kernel_rfl) (by simp) ?_
      refine Kr.AllL.cons rfl (fun K hK => ?_) Kr.AllL.nil
      rw [if_pos (by rfl)]
      refine wp_appG (T := 5) (TS := 22) Tryd.underlying22 info8 rfl (.tmp 23) (.tmp 25) rfl (v := q10) (r := ([w8 2#8] ++ (beI 4 (bl : Int)).map w8)) (d := (t.b.map w8)) (p := pb) (m := bl) (c := cb) (rs := [(ba, 25, [.int .i64 tk, .int .i64 tn, .slice pb bl cb, .slice pl ll cl])]) rfl rfl (by rw [List.length_map]; exact HBL.out) (((src_item HBB.out).grow H.g).srcG) (one_lit8 _) (HPB.out) H HR.out HA.out (by simp [beI_length]; omega) (by decide) ?_
      intro q12 y11 H3 hR3 hA3
      clear H HR HA; have H := H3; have HR := Lib.hid hR3; have HA := Lib.hid hA3; clear H3 hR3 hA3
      (refine Kr.outL hK (a' := ?_) ?_ (fun _ => ⟨(H.at 0 rfl), trivial⟩) ?_; rotate_left; (focus ((try simp only [Kr.PT]); first | done | rfl))); clear hK K
      (refine Kr.tPQ 10 (v := ?_) (a' := ?_) rfl (by kernel_rfl) (fun _ _ _ h => h) (by rfl) (fun _ => ⟨(H.at 0 rfl), trivial⟩) (fun wx => ?_) ?_ ?_; rotate_left 2; (focus (go_simp; first | done | rfl)); (focus ((try simp only [Kr.PT]); first | done | rfl)))
      refine Kr.doneL (by kernel_rfl) ?_ _
      have HR2 := Lib.hid (show RowG 5 w.heap.size q12 ((2#8 :: (beI 4 (bl : Int) ++ t.b)).map w8) y11 by have h := HR.out; rw [List.append_assoc, ← List.map_append] at h; exact h); clear HR
      have hk := trivial
      go_wp2
      refine bodyPost_ret (v := q12) (by simp [results, Tryd.results15, go_sem, hk]) rfl (enp_of HR2.out H.g)
    refine Kr.AllL.cons rfl (fun K hK => ?_) Kr.AllL.nil
    go_simp
    go_at_call 39
    refine (rnum_v (m := bl) (k := 4) (w := d6) (by omega) (by decide)).mono ?_
    rintro e y13 ⟨bq, rfl, _, hsn, hg⟩; rw [beN_beI] at hsn; have HN := Lib.hid hsn; clear hsn
    replace H := H.grow hg
    clear hg
    (refine Kr.outL hK (a' := ?_) ?_ (fun _ => ⟨(H.at 0 rfl), trivial⟩) ?_; rotate_left; (focus ((try simp only [Kr.PT]); first | done | rfl))); clear hK K
    refine Kr.readyL (rs := [0]) (by kernel_rfl) (by simp) ?_
    refine Kr.AllL.cons rfl (fun K hK => ?_) Kr.AllL.nil
    go_simp
    have hR0 := rowG_lit (W := y13) (T := 5) (B := y13.heap.size) (xs := [w8 2#8]) (Nat.le_refl _) (by decide)
    have hA0 := apt_rowG H hR0
    obtain ⟨y14, hy⟩ : ∃ y, y13.alloc (.cells #[.int .u8 2] 5) = y := ⟨_, rfl⟩; obtain ⟨bone, hbn⟩ : ∃ b, y13.heap.size = b := ⟨_, rfl⟩; rw [hy, hbn]
    have hR1 : RowG 5 w.heap.size (.slice (some ⟨bone, 0, none⟩) 1 1) [w8 2#8] y14 := by
      have h := rowG_low H.g.size hR0
      rw [show y13.alloc (.cells ([w8 2#8] : List Value).toArray 5) = y14 from hy, hbn] at h; exact h
    rw [hbn] at hA0; have HR := Lib.hid hR1; have HA := Lib.hid hA0; have hg : Gr y13 y14 := hy ▸ (Gr.refl _).alloc _; clear hR0 hR1 hA0
    replace H := H.grow hg
    replace HN := Lib.hid (HN.out.grow hg)
    clear hg hy hbn
    (refine Kr.outL hK (a' := ?_) ?_ (fun _ => ⟨(H.at 0 rfl), trivial⟩) ?_; rotate_left; (focus ((try simp only [Kr.PT]); first | done | rfl))); clear hK K
    refine Kr.readyL (rs := [6]) (by kernel_rfl) (by simp) ?_
    refine Kr.AllL.cons rfl (fun K hK => ?_) Kr.AllL.nil
    rw [if_pos (by rfl)]
    refine wp_appG (T := 5) (TS := 22) Tryd.underlying22 info8 rfl (.tmp 17) (.tmp 22) rfl (v := .slice (some ⟨bone, 0, none⟩) 1 1) (r := [w8 2#8]) (d := ((beI 4 (bl : Int)).map w8)) (p := (some ⟨bq, 0, none⟩)) (m := 4) (c := 4) (rs := [(ba, 25, [.int .i64 tk, .int .i64 tn, .slice pb bl cb, .slice pl ll cl])]) rfl rfl (by rw [List.length_map, beI_length]) (HN.out.srcG) (one_lit8 _) (fun e => by cases e) H HR.out HA.out (by decide) (by decide) ?_
    intro q16 y15 H3 hR3 hA3
    clear H HR HA; have H := H3; have HR := Lib.hid hR3; have HA := Lib.hid hA3; clear H3 hR3 hA3
    (refine Kr.outL hK (a' := ?_) ?_ (fun _ => ⟨(H.at 0 rfl), trivial⟩) ?_; rotate_left; (focus ((try simp only [Kr.PT]); first | done | rfl))); clear hK K
    refine Kr.readyL (rs := [9]) (by kernel_rfl) (by simp) ?_
    refine Kr.AllL.cons rfl (fun K hK => ?_) Kr.AllL.nil
    rw [if_pos (by rfl)]
    refine wp_appG (T := 5) (TS := 22) Tryd.underlying22 info8 rfl (.tmp 23) (.tmp 25) rfl (v := q16) (r := ([w8 2#8] ++ (beI 4 (bl : Int)).map w8)) (d := (t.b.map w8)) (p := pb) (m := bl) (c := cb) (rs := [(ba, 25, [.int .i64 tk, .int .i64 tn, .slice pb bl cb, .slice pl ll cl])]) rfl rfl (by rw [List.length_map]; exact HBL.out) (((src_item HBB.out).grow H.g).srcG) (one_lit8 _) (HPB.out) H HR.out HA.out (by simp [beI_length]; omega) (by decide) ?_
    intro q18 y17 H3 hR3 hA3
    clear H HR HA; have H := H3; have HR := Lib.hid hR3; have HA := Lib.hid hA3; clear H3 hR3 hA3
    (refine Kr.outL hK (a' := ?_) ?_ (fun _ => ⟨(H.at 0 rfl), trivial⟩) ?_; rotate_left; (focus ((try simp only [Kr.PT]); first | done | rfl))); clear hK K
    (refine Kr.tPQ 10 (v := ?_) (a' := ?_) rfl (by kernel_rfl) (fun _ _ _ h => h) (by rfl) (fun _ => ⟨(H.at 0 rfl), trivial⟩) (fun wx => ?_) ?_ ?_; rotate_left 2; (focus (go_simp; first | done | rfl)); (focus ((try simp only [Kr.PT]); first | done | rfl)))
    refine Kr.doneL (by kernel_rfl) ?_ _
    have HR2 := Lib.hid (show RowG 5 w.heap.size q18 ((2#8 :: (beI 4 (bl : Int) ++ t.b)).map w8) y17 by have h := HR.out; rw [List.append_assoc, ← List.map_append] at h; exact h); clear HR
    have hk := trivial
    go_wp2
    refine bodyPost_ret (v := q18) (by simp [results, Tryd.results15, go_sem, hk]) rfl (enp_of HR2.out H.g)
  have hk3 : t.k = 3 ∧ ∃ e, d = e + 1 ∧ t.l.length ≤ 1000 ∧ ∀ x ∈ t.l, vld e x = true := by
    rcases HVC.out with h | h | h
    · exact absurd (HTK.out.symm.trans h) k1
    · exact absurd (HTK.out.symm.trans h) k2
    · exact h
  obtain ⟨hk3, d, rfl, hl1000, hal⟩ := hk3; rw [HLL.out] at hl1000; have k3 : tk = 3 := HTK.out.symm.trans hk3; have HAL := Lib.hid hal; clear hal
  have C1 : decide (tk = 1) = false := decide_eq_false (by exact k1)
  have C2 : decide (tk = 2) = false := decide_eq_false (by exact k2)
  have hEE : E = 3#8 :: (beI 4 (ll : Int) ++ t.l.flatMap (enc d)) := by rw [← HE.out, enc3 hk3 d, HLL.out]; rfl
  subst hEE; clear k1 k2 k3 hk3; have hbd := HBD.out; rw [List.length_cons, List.length_append, beI_length] at hbd
  go_upto_region 2 with fail
  refine Kr.seqStartW ?_
  (refine Kr.seqQ (v := .bool false) (a' := ?_) (by rfl) ?_ ?_ ?_; rotate_left 1; (focus (exact Kr.valOf rfl (eqlI C1))); (focus ((try simp only [Kr.PT]); first | done | rfl)))
  (refine Kr.seqQ (v := ?_) (a' := ?_) (by rfl) ?_ ?_ ?_; rotate_left 2; (focus (go_simp; first | done | rfl)); (focus ((try simp only [Kr.PT]); first | done | rfl)))
  refine Kr.seqDoneW ?_
  go_upto_region 4 with fail
  refine Kr.seqStartW ?_
  (refine Kr.seqQ (v := .bool false) (a' := ?_) (by rfl) ?_ ?_ ?_; rotate_left 1; (focus (exact Kr.valOf rfl (eqlI C2))); (focus ((try simp only [Kr.PT]); first | done | rfl)))
  (refine Kr.seqQ (v := ?_) (a' := ?_) (by rfl) ?_ ?_ ?_; rotate_left 2; (focus (go_simp; first | done | rfl)); (focus ((try simp only [Kr.PT]); first | done | rfl)))
  refine Kr.seqDoneW ?_
  go_upto_region 6 with fail
  refine Kr.seqStartW ?_
  refine Kr.seqR (by rfl) (fun K hK => ?_)
  go_simp
  have hR0 := rowG_lit (W := y1) (T := 5) (B := y1.heap.size) (xs := [w8 3#8]) (Nat.le_refl _) (by decide)
  have hA0 := apt_rowG H hR0
  obtain ⟨y19, hy⟩ : ∃ y, y1.alloc (.cells #[.int .u8 3] 5) = y := ⟨_, rfl⟩; obtain ⟨bone, hbn⟩ : ∃ b, y1.heap.size = b := ⟨_, rfl⟩; rw [hy, hbn]
  have hR1 : RowG 5 w.heap.size (.slice (some ⟨bone, 0, none⟩) 1 1) [w8 3#8] y19 := by
    have h := rowG_low H.g.size hR0
    rw [show y1.alloc (.cells ([w8 3#8] : List Value).toArray 5) = y19 from hy, hbn] at h; exact h
  rw [hbn] at hA0; have HR := Lib.hid hR1; have HA := Lib.hid hA0; have hg : Gr y1 y19 := hy ▸ (Gr.refl _).alloc _; clear hR0 hR1 hA0
  replace H := H.grow hg
  clear hg hy hbn
  (refine Kr.outS hK (a' := ?_) ?_ ?_; rotate_left; (focus ((try simp only [Kr.PT]); first | done | rfl))); clear hK K
  (refine Kr.seqQ (v := .pointer (some ⟨ba, 3, none⟩)) (a' := ?_) (by rfl) ?_ ?_ ?_; rotate_left 1; (focus (go_simp; first | done | rfl)); (focus ((try simp only [Kr.PT]); first | done | rfl)))
  (refine Kr.seqQ (v := .slice pl ll cl) (a' := ?_) (by rfl) ?_ ?_ ?_; rotate_left 1; (focus (exact Kr.valOf rfl (ldLs (rowCell (j := 3) (H.at 0 rfl) rfl)))); (focus ((try simp only [Kr.PT]); first | done | rfl)))
  (refine Kr.seqQ (v := .int .i64 (ll : Int)) (a' := ?_) (by rfl) ?_ ?_ ?_; rotate_left 1; (focus (exact Kr.valOf rfl ((by go_simp)))); (focus ((try simp only [Kr.PT]); first | done | rfl)))
  (refine Kr.seqQ (v := .int .u64 (ll : Int)) (a' := ?_) (by rfl) ?_ ?_ ?_; rotate_left 1; (focus (exact Kr.valOf rfl (convIU (by omega)))); (focus ((try simp only [Kr.PT]); first | done | rfl)))
  refine Kr.seqR (by rfl) (fun K hK => ?_)
  go_simp
  go_at_call 39
  refine (rnum_v (m := ll) (k := 4) (w := y19) (by omega) (by decide)).mono ?_
  rintro e y20 ⟨bq, rfl, _, hsn, hg⟩; rw [beN_beI] at hsn; have HN := Lib.hid hsn; clear hsn
  replace H := H.grow hg
  replace HR := Lib.hid (HR.out.grow hg)
  clear hg
  (refine Kr.outS hK (a' := ?_) ?_ ?_; rotate_left; (focus ((try simp only [Kr.PT]); first | done | rfl))); clear hK K
  refine Kr.seqR (by rfl) (fun K hK => ?_)
  refine wp_appG (T := 5) (TS := 22) Tryd.underlying22 info8 rfl (.tmp 27) (.tmp 32) rfl (v := .slice (some ⟨bone, 0, none⟩) 1 1) (r := [w8 3#8]) (d := ((beI 4 (ll : Int)).map w8)) (p := (some ⟨bq, 0, none⟩)) (m := 4) (c := 4) (rs := [(ba, 25, [.int .i64 tk, .int .i64 tn, .slice pb bl cb, .slice pl ll cl])]) rfl rfl (by rw [List.length_map, beI_length]) (HN.out.srcG) (one_lit8 _) (fun e => by cases e) H HR.out HA.out (by decide) (by decide) ?_
  intro q22 y21 H3 hR3 hA3
  clear H HR HA; have H := H3; have HR := Lib.hid hR3; have HA := Lib.hid hA3; clear H3 hR3 hA3
  (refine Kr.outS hK (a' := ?_) ?_ ?_; rotate_left; (focus ((try simp only [Kr.PT]); first | done | rfl))); clear hK K
  (refine Kr.seqQ (v := ?_) (a' := ?_) (by rfl) ?_ ?_ ?_; rotate_left 2; (focus (go_simp; first | done | rfl)); (focus ((try simp only [Kr.PT]); first | done | rfl)))
  refine Kr.seqDoneW ?_
  go_upto_region 7 with fail
  refine Kr.seqStartW ?_
  (refine Kr.seqQ (v := ?_) (a' := ?_) (by rfl) ?_ ?_ ?_; rotate_left 2; (focus (go_simp; first | done | rfl)); (focus ((try simp only [Kr.PT]); first | done | rfl)))
  refine Kr.seqDoneW ?_
  obtain ⟨P, hP⟩ : ∃ z, [w8 3#8] ++ (beI 4 (ll : Int)).map w8 = z := ⟨_, rfl⟩; have hPl : P.length = 5 := by rw [← hP]; simp [beI_length]
  rw [hP] at HR; have HPP := Lib.hid hP; clear hP C1 C2
  have H2 := Lib.hid H; clear H
  go_wp2_with fail
  go_loopw [3, 4] (fun v iv wr => ∃ (j : Nat), j ≤ ll ∧ iv = .int .i64 (j : Int) ∧ Hid (RowG 5 w.heap.size v (P ++ (fl d t.l j).map w8) wr) ∧ Hid (Apt v [(ba, 25, [.int .i64 tk, .int .i64 tn, .slice pb bl cb, .slice pl ll cl])]) ∧ Hid (Ow w wr [(ba, 25, [.int .i64 tk, .int .i64 tn, .slice pb bl cb, .slice pl ll cl])])) (fun _ iv _ => (ll - (intOf iv).toNat))
  case atStart => exact ⟨0, by omega, rfl, by rw [show (fl d t.l 0).map w8 = [] from rfl, List.append_nil]; exact HR, HA, H2⟩
  case round =>
    clear H2 HR HA; obtain ⟨j, hj, rfl, HR, HA, HH⟩ := hrel; have H := HH.out; clear HH
    by_cases hje : j = ll
    · have C4 : decide ((j : Int) < (ll : Int)) = false := decide_eq_false (by omega)
      rw [fl_all d t.l (by rw [HLL.out]; omega)] at HR; clear hje
      go_upto_region 8 with fail
      refine Kr.seqStartW ?_
      (refine Kr.seqQ (v := ?_) (a' := ?_) (by rfl) ?_ ?_ ?_; rotate_left 2; (focus (go_simp; first | done | rfl)); (focus ((try simp only [Kr.PT]); first | done | rfl)))
      (refine Kr.seqQ (v := .pointer (some ⟨ba, 3, none⟩)) (a' := ?_) (by rfl) ?_ ?_ ?_; rotate_left 1; (focus (go_simp; first | done | rfl)); (focus ((try simp only [Kr.PT]); first | done | rfl)))
      (refine Kr.seqQ (v := .slice pl ll cl) (a' := ?_) (by rfl) ?_ ?_ ?_; rotate_left 1; (focus (exact Kr.valOf rfl (ldLs (rowCell (j := 3) (H.at 0 rfl) rfl)))); (focus ((try simp only [Kr.PT]); first | done | rfl)))
      (refine Kr.seqQ (v := .int .i64 (ll : Int)) (a' := ?_) (by rfl) ?_ ?_ ?_; rotate_left 1; (focus (exact Kr.valOf rfl ((by go_simp)))); (focus ((try simp only [Kr.PT]); first | done | rfl)))
      (refine Kr.seqQ (v := .bool false) (a' := ?_) (by rfl) ?_ ?_ ?_; rotate_left 1; (focus (exact Kr.valOf rfl (lssT C4))); (focus ((try simp only [Kr.PT]); first | done | rfl)))
      refine Kr.seqDoneW ?_
      have HR2 := Lib.hid (show RowG 5 w.heap.size u3 ((3#8 :: (beI 4 (ll : Int) ++ t.l.flatMap (enc d))).map w8) wr by have h := HR.out; rw [← HPP.out, List.append_assoc, ← List.map_append] at h; exact h); clear HR
      go_upto_region 11 with fail
      refine Kr.seqStartW ?_
      (refine Kr.seqQ (v := ?_) (a' := ?_) (by rfl) ?_ ?_ ?_; rotate_left 2; (focus (go_simp; first | done | rfl)); (focus ((try simp only [Kr.PT]); first | done | rfl)))
      (refine Kr.seqQ (v := ?_) (a' := ?_) (by rfl) ?_ ?_ ?_; rotate_left 2; (focus (go_simp; first | done | rfl)); (focus ((try simp only [Kr.PT]); first | done | rfl)))
      refine Kr.seqDoneW ?_
      have hk := trivial
      go_wp2
      refine bodyPost_ret (v := u3) (by simp [results, Tryd.results15, go_sem, hk]) rfl (enp_of HR2.out H.g)
    · have hjl : j < ll := by omega
      have C4 : decide ((j : Int) < (ll : Int)) = true := decide_eq_true (by omega)
      clear hje
      obtain ⟨x, hx⟩ : ∃ x, t.l[j]? = some x := ⟨_, List.getElem?_eq_getElem (by rw [HLL.out]; exact hjl)⟩
      obtain ⟨b, off, v0, v1, v2, v3, hpl, hFb, c0, c1, c2, c3, hch⟩ := HLS.out j x hx
      subst hpl
      have HC0 := Lib.hid c0; have HC1 := Lib.hid c1; have HC2 := Lib.hid c2; have HC3 := Lib.hid c3; have HCH := Lib.hid hch; have HX := Lib.hid hx; clear c0 c1 c2 c3 hch hx hFb
      have HON : Hid (∀ v ∈ ([v0, v1, v2, v3] : List Value), v.oneCell' = true) := Lib.hid (ItV.one HCH.out)
      have HFS := Lib.hid (fl_succ (d := d) HX.out); have hfl1 := fl_le d t.l (j + 1); rw [HFS.out, List.length_append] at hfl1
      have HVX := Lib.hid (HAL.out x (List.mem_of_getElem? HX.out))
      go_upto_region 8 with fail
      refine Kr.seqStartW ?_
      (refine Kr.seqQ (v := ?_) (a' := ?_) (by rfl) ?_ ?_ ?_; rotate_left 2; (focus (go_simp; first | done | rfl)); (focus ((try simp only [Kr.PT]); first | done | rfl)))
      (refine Kr.seqQ (v := .pointer (some ⟨ba, 3, none⟩)) (a' := ?_) (by rfl) ?_ ?_ ?_; rotate_left 1; (focus (go_simp; first | done | rfl)); (focus ((try simp only [Kr.PT]); first | done | rfl)))
      (refine Kr.seqQ (v := .slice (some ⟨b, off, none⟩) ll cl) (a' := ?_) (by rfl) ?_ ?_ ?_; rotate_left 1; (focus (exact Kr.valOf rfl (ldLs (rowCell (j := 3) (H.at 0 rfl) rfl)))); (focus ((try simp only [Kr.PT]); first | done | rfl)))
      (refine Kr.seqQ (v := .int .i64 (ll : Int)) (a' := ?_) (by rfl) ?_ ?_ ?_; rotate_left 1; (focus (exact Kr.valOf rfl ((by go_simp)))); (focus ((try simp only [Kr.PT]); first | done | rfl)))
      (refine Kr.seqQ (v := .bool true) (a' := ?_) (by rfl) ?_ ?_ ?_; rotate_left 1; (focus (exact Kr.valOf rfl (lssT C4))); (focus ((try simp only [Kr.PT]); first | done | rfl)))
      refine Kr.seqDoneW ?_
      go_upto_region 10 with fail
      refine Kr.seqStartW ?_
      (refine Kr.seqQ (v := ?_) (a' := ?_) (by rfl) ?_ ?_ ?_; rotate_left 2; (focus (go_simp; first | done | rfl)); (focus ((try simp only [Kr.PT]); first | done | rfl)))
      (refine Kr.seqQ (v := .pointer (some ⟨ba, 3, none⟩)) (a' := ?_) (by rfl) ?_ ?_ ?_; rotate_left 1; (focus (go_simp; first | done | rfl)); (focus ((try simp only [Kr.PT]); first | done | rfl)))
      (refine Kr.seqQ (v := .slice (some ⟨b, off, none⟩) ll cl) (a' := ?_) (by rfl) ?_ ?_ ?_; rotate_left 1; (focus (exact Kr.valOf rfl (ldLs (rowCell (j := 3) (H.at 0 rfl) rfl)))); (focus ((try simp only [Kr.PT]); first | done | rfl)))
      (refine Kr.seqQ (v := ?_) (a' := ?_) (by rfl) ?_ ?_ ?_; rotate_left 2; (focus (go_simp; first | done | rfl)); (focus ((try simp only [Kr.PT]); first | done | rfl)))
      (refine Kr.seqQ (v := .pointer (some ⟨b, off + j * 4, none⟩)) (a' := ?_) (by rfl) ?_ ?_ ?_; rotate_left 1; (focus (exact Kr.valOf rfl (ixI hjl))); (focus ((try simp only [Kr.PT]); first | done | rfl)))
      (refine Kr.seqQ (v := .agg #[v0, v1, v2, v3]) (a' := ?_) (by rfl) ?_ ?_ ?_; rotate_left 1; (focus (exact Kr.valOf rfl (ldItem (H.g.cell HC0.out) (H.g.cell HC1.out) (H.g.cell HC2.out) (H.g.cell HC3.out)))); (focus ((try simp only [Kr.PT]); first | done | rfl)))
      refine Kr.seqR (by rfl) (fun K hK => ?_)
      go_simp
      go_at_call 15
      refine (ih d rfl (w := wr) (HCH.out.grow H.g) HVX.out (by omega)).mono ?_
      rintro o9 y23 ⟨p9, n9, c9, rfl, hn9, hp9, hs9, hg⟩; have HS9 := Lib.hid hs9; have HP9 := Lib.hid hp9; clear hs9 hp9
      replace H := H.grow hg
      replace HR := Lib.hid (HR.out.grow hg)
      clear hg
      (refine Kr.outS hK (a' := ?_) ?_ ?_; rotate_left; (focus ((try simp only [Kr.PT]); first | done | rfl))); clear hK K
      refine Kr.seqR (by rfl) (fun K hK => ?_)
      refine wp_appG (T := 5) (TS := 22) Tryd.underlying22 info8 rfl (.tmp 41) (.tmp 47) rfl (v := u3) (r := (P ++ (fl d t.l j).map w8)) (d := ((enc d x).map w8)) (p := p9) (m := n9) (c := c9) (rs := [(ba, 25, [.int .i64 tk, .int .i64 tn, .slice pb bl cb, .slice (some ⟨b, off, none⟩) ll cl])]) rfl rfl (by rw [List.length_map]; exact hn9) (HS9.out.srcG) (one_lit8 _) (HP9.out) H HR.out HA.out (by rw [List.length_append, List.length_map, hPl]; omega) (by decide) ?_
      intro q25 y24 H3 hR3 hA3
      clear H HR HA; have H := H3; have HR := Lib.hid hR3; have HA := Lib.hid hA3; clear H3 hR3 hA3
      (refine Kr.outS hK (a' := ?_) ?_ ?_; rotate_left; (focus ((try simp only [Kr.PT]); first | done | rfl))); clear hK K
      (refine Kr.seqQ (v := ?_) (a' := ?_) (by rfl) ?_ ?_ ?_; rotate_left 2; (focus (go_simp; first | done | rfl)); (focus ((try simp only [Kr.PT]); first | done | rfl)))
      refine Kr.seqDoneW ?_
      rw [List.append_assoc, ← List.map_append, ← HFS.out] at HR
      have HADD : IntKind.i64.wrap ((j : Int) + 1) = ((j + 1 : Nat) : Int) := wrap_nat (by omega) (by omega)
      go_upto_region 9 with fail
      refine Kr.seqStartW ?_
      (refine Kr.seqQ (v := ?_) (a' := ?_) (by rfl) ?_ ?_ ?_; rotate_left 2; (focus (go_simp; first | done | rfl)); (focus ((try simp only [Kr.PT]); first | done | rfl)))
      (refine Kr.seqQ (v := .int .i64 ((j + 1 : Nat) : Int)) (a' := ?_) (by rfl) ?_ ?_ ?_; rotate_left 1; (focus (exact Kr.valOf rfl (addI HADD))); (focus ((try simp only [Kr.PT]); first | done | rfl)))
      (refine Kr.seqQ (v := ?_) (a' := ?_) (by rfl) ?_ ?_ ?_; rotate_left 2; (focus (go_simp; first | done | rfl)); (focus ((try simp only [Kr.PT]); first | done | rfl)))
      refine Kr.seqDoneW ?_
      go_wp2; go_roundw
      case rel =>
        first
        | exact ⟨j + 1, by omega, rfl, HR, HA, Lib.hid H⟩
        | (repeat apply Exists.intro); exact ⟨⟨j + 1, by omega, rfl, HR, HA, Lib.hid H⟩, rfl⟩
        | (repeat apply Exists.intro); refine ⟨⟨j + 1, by omega, rfl, HR, HA, Lib.hid H⟩, ?_⟩; refine ⟨?_, ?_⟩ <;> (repeat apply And.intro) <;> rfl
      case measure => simp [intOf]; omega
theorem rEncode_v : ∀ (d : Nat), ∀ {k : Nat} {F : Nat → Prop} {v : Value} {t : It} {w : World}, ItV w k F v t → vld d t = true → (enc d t).length ≤ 99999900 → Calls Tryd.prog 15 #[v] w (EnP w (enc d t))
  | 0, _, _, _, _, _, h1, h2, h3 => rEncode_step (fun e he => by omega) h1 h2 h3
  | d + 1, _, _, _, _, _, h1, h2, h3 => rEncode_step (fun e he => by
      obtain rfl : e = d := by omega
      exact rEncode_v e) h1 h2 h3

end Go.Proofs.YtcngcdfngifjnaaDoor.Dg
