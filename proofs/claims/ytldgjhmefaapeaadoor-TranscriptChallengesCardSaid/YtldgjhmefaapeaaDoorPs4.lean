/- A part of the proofs, joined of smaller texts: Bd, Be. -/
import Derived.Test.YtldgjhmefaapeaaDoorPs3
import Derived.Deep.Cut

/- write. -/
namespace Go.Proofs.YtldgjhmefaapeaaDoor.Dg
open Go Go.RowKit Go.Proofs.YtldgjhmefaapeaaDoor.Ne Go.Proofs.YtldgjhmefaapeaaDoor.Kr

set_option linter.unusedSimpArgs false in
set_option maxRecDepth 100000 in
set_option maxHeartbeats 16000000 in
theorem write_step {d : Nat} (ih : ∀ e, e + 1 = d → ∀ {w0 w : World} {rs : List Blk} {v : Value} {r : List Value} {k : Nat} {F : Nat → Prop} {val : Value} {t : It} (_ : Ow w0 w rs) (_ : RowG 5 w0.heap.size v r w) (_ : Apt v rs) (_ : ItV w0 k F val t) (_ : vld e t = true) (_ : r.length + (enc e t).length ≤ 99999900), Calls Tryd.prog 53 #[v, val] w fun o w' => ∃ v2, o = .returned v2 ∧ RowG 5 w0.heap.size v2 (r ++ (enc e t).map w8) w' ∧ Apt v2 rs ∧ Ow w0 w' rs)
    {w0 w : World} {rs : List Blk} {v : Value} {r : List Value} {k : Nat} {F : Nat → Prop} {val : Value} {t : It} (H : Ow w0 w rs) (HR : RowG 5 w0.heap.size v r w) (HA : Apt v rs) (hI : ItV w0 k F val t) (hv : vld d t = true) (hb : r.length + (enc d t).length ≤ 99999900) :
    Calls Tryd.prog 53 #[v, val] w fun e w' => ∃ v2, e = .returned v2 ∧ RowG 5 w0.heap.size v2 (r ++ (enc d t).map w8) w' ∧ Apt v2 rs ∧ Ow w0 w' rs := by
  obtain ⟨k0, rfl⟩ : ∃ k0, k = k0 + 1 := by cases k with
    | zero => exact hI.elim
    | succ k0 => exact ⟨k0, rfl⟩
  obtain ⟨pb, cb, pl, cl, hv, hk1, hn1, hpb, hcb, hbl, hll, hB, hL⟩ := hI; subst hv
  obtain ⟨tk, htk⟩ : ∃ z, t.k = z := ⟨_, rfl⟩; obtain ⟨tn, htn⟩ : ∃ z, t.n = z := ⟨_, rfl⟩; obtain ⟨bl, hbl2⟩ : ∃ z, t.b.length = z := ⟨_, rfl⟩; obtain ⟨ll, hll2⟩ : ∃ z, t.l.length = z := ⟨_, rfl⟩
  rw [htk] at hk1; rw [htn] at hn1; rw [hbl2] at hcb hbl; rw [hll2] at hll; have HTK := Lib.hid htk; have HTN := Lib.hid htn; have HBL := Lib.hid hbl2; have HLL := Lib.hid hll2; have HBB := Lib.hid hB; have HLS := Lib.hid hL; have HPB := Lib.hid hpb; have HI1 := Lib.hid hk1; have HI2 := Lib.hid hn1; rw [htk, htn, hbl2, hll2]; clear htk htn hbl2 hll2 hB hL hpb hk1 hn1
  replace HR := Lib.hid HR; have HVC := Lib.hid (vld_cases hv)
  obtain ⟨E, hE⟩ : ∃ z, enc d t = z := ⟨_, rfl⟩; rw [hE] at hb ⊢; have HE := Lib.hid hE; clear hE hv
  go_enter Tryd.func53, Tryd.ntmps53
  go_upto_region 0 with fail
  refine Kr.seqStartW ?_
  refine Kr.seqR (by rfl) (fun K hK => ?_)
  refine wp_runV rfl boxI ?_
  obtain ⟨y1, hy⟩ : ∃ y, w.alloc (.cells ([.int .i64 tk, .int .i64 tn, .slice pb bl cb, .slice pl ll cl]).toArray 49) = y := ⟨_, rfl⟩
  obtain ⟨ba, hb⟩ : ∃ b, w.heap.size = b := ⟨_, rfl⟩
  rw [hy, hb]
  replace HA := apt_new (T2 := 49) (l := [.int .i64 tk, .int .i64 tn, .slice pb bl cb, .slice pl ll cl]) HR.out HA hb
  have hg : Gr w y1 := hy ▸ (Gr.refl _).alloc _
  replace H := H.alloc hy hb
  replace HR := Lib.hid (HR.out.grow hg)
  clear hy hb hg
  (refine Kr.outS hK (a' := ?_) ?_ ?_; rotate_left; (focus ((try simp only [Kr.PT]); first | done | rfl))); clear hK K
  (refine Kr.seqQ (v := ?_) (a' := ?_) (by rfl) ?_ ?_ ?_; rotate_left 2; (focus (go_simp; first | done | rfl)); (focus ((try simp only [Kr.PT]); first | done | rfl)))
  refine Kr.seqDoneW ?_
  obtain ⟨z0, hz0⟩ : ∃ z, BitVec.ofInt 8 tk = z := ⟨_, rfl⟩
  have hE1 : 1 ≤ E.length := by
    rw [← HE.out]
    rcases HVC.out with h | h | ⟨h, e, rfl, _⟩
    · rw [enc1 h]; simp
    · rw [enc2 h]; simp
    · rw [enc3 h]; simp
  go_upto_region 1 with fail
  refine Kr.seqStartW ?_
  (refine Kr.seqQ (v := ?_) (a' := ?_) (by rfl) ?_ ?_ ?_; rotate_left 2; (focus (go_simp; first | done | rfl)); (focus ((try simp only [Kr.PT]); first | done | rfl)))
  (refine Kr.seqQ (v := .pointer (some ⟨ba, 0, none⟩)) (a' := ?_) (by rfl) ?_ ?_ ?_; rotate_left 1; (focus (go_simp; first | done | rfl)); (focus ((try simp only [Kr.PT]); first | done | rfl)))
  (refine Kr.seqQ (v := .int .i64 tk) (a' := ?_) (by rfl) ?_ ?_ ?_; rotate_left 1; (focus (exact Kr.valOf rfl (ldInt (rowCell (j := 0) (H.at 0 rfl) rfl)))); (focus ((try simp only [Kr.PT]); first | done | rfl)))
  (refine Kr.seqQ (v := .int .u8 ((z0).toNat : Int)) (a' := ?_) (by rfl) ?_ ?_ ?_; rotate_left 1; (focus (exact Kr.valOf rfl (convZ8 hz0))); (focus ((try simp only [Kr.PT]); first | done | rfl)))
  refine Kr.seqR (by rfl) (fun K hK => ?_)
  go_simp
  obtain ⟨y2, hy⟩ : ∃ y, y1.alloc (.cells #[.int .u8 ((z0).toNat : Int)] 5) = y := ⟨_, rfl⟩
  obtain ⟨bone, hbn⟩ : ∃ b, y1.heap.size = b := ⟨_, rfl⟩
  rw [hy, hbn]
  have hy2 : y1.alloc (.cells ([.int .u8 ((z0).toNat : Int)] : List Value).toArray 5) = y2 := hy
  have hg : Gr y1 y2 := hy ▸ (Gr.refl _).alloc _
  have HLIT := Lib.hid (hbn ▸ hy2 ▸ lit_src (W := y1) (T := 5) [.int .u8 ((z0).toNat : Int)]); clear hy2
  replace H := H.grow hg
  replace HR := Lib.hid (HR.out.grow hg)
  clear hg hy hbn
  (refine Kr.outS hK (a' := ?_) ?_ ?_; rotate_left; (focus ((try simp only [Kr.PT]); first | done | rfl))); clear hK K
  refine Kr.seqR (by rfl) (fun K hK => ?_)
  refine wp_appG (T := 5) (TS := 46) Tryd.underlying46 info8 rfl (.tmp 7) (.tmp 11) rfl (v := v) (r := r) (d := [w8 z0]) (p := (some ⟨bone, 0, none⟩)) (m := 1) (c := 1) (rs := ((ba, 49, [.int .i64 tk, .int .i64 tn, .slice pb bl cb, .slice pl ll cl]) :: rs)) rfl rfl (rfl) (HLIT.out) (one_lit8 [z0]) (fun e => by cases e) H HR.out HA (by omega) (by decide) ?_
  intro q4 y3 H3 hR3 hA3
  clear H HR HA HLIT; have H := H3; have HR := Lib.hid hR3; have HA := hA3; clear H3 hR3 hA3
  (refine Kr.outS hK (a' := ?_) ?_ ?_; rotate_left; (focus ((try simp only [Kr.PT]); first | done | rfl))); clear hK K
  (refine Kr.seqQ (v := ?_) (a' := ?_) (by rfl) ?_ ?_ ?_; rotate_left 2; (focus (go_simp; first | done | rfl)); (focus ((try simp only [Kr.PT]); first | done | rfl)))
  refine Kr.seqDoneW ?_
  go_upto_region 2 with fail
  refine Kr.seqStartW ?_
  (refine Kr.seqQ (v := .pointer (some ⟨ba, 0, none⟩)) (a' := ?_) (by rfl) ?_ ?_ ?_; rotate_left 1; (focus (go_simp; first | done | rfl)); (focus ((try simp only [Kr.PT]); first | done | rfl)))
  (refine Kr.seqQ (v := .int .i64 tk) (a' := ?_) (by rfl) ?_ ?_ ?_; rotate_left 1; (focus (exact Kr.valOf rfl (ldInt (rowCell (j := 0) (H.at 0 rfl) rfl)))); (focus ((try simp only [Kr.PT]); first | done | rfl)))
  refine Kr.seqDoneW ?_
  by_cases k1 : tk = 1
  · have C1 : decide (tk = 1) = true := decide_eq_true (by exact k1)
    have hEE : E = 1#8 :: beI 8 tn := by rw [← HE.out, enc1 (HTK.out.trans k1) d, HTN.out]; rfl
    have hz1 : z0 = 1#8 := by rw [← hz0, k1]; rfl
    subst hEE; rw [hz1] at HR; clear hz0 k1
    have hbl8 : (beI 8 tn).length = 8 := beI_length _ _; rw [List.length_cons] at hb
    go_upto_region 3 with fail
    refine Kr.seqStartW ?_
    (refine Kr.seqQ (v := .bool true) (a' := ?_) (by rfl) ?_ ?_ ?_; rotate_left 1; (focus (exact Kr.valOf rfl (eqlI C1))); (focus ((try simp only [Kr.PT]); first | done | rfl)))
    (refine Kr.seqQ (v := ?_) (a' := ?_) (by rfl) ?_ ?_ ?_; rotate_left 2; (focus (go_simp; first | done | rfl)); (focus ((try simp only [Kr.PT]); first | done | rfl)))
    refine Kr.seqDoneW ?_
    go_upto_region 4 with fail
    refine Kr.seqStartW ?_
    (refine Kr.seqQ (v := ?_) (a' := ?_) (by rfl) ?_ ?_ ?_; rotate_left 2; (focus (go_simp; first | done | rfl)); (focus ((try simp only [Kr.PT]); first | done | rfl)))
    (refine Kr.seqQ (v := .pointer (some ⟨ba, 1, none⟩)) (a' := ?_) (by rfl) ?_ ?_ ?_; rotate_left 1; (focus (go_simp; first | done | rfl)); (focus ((try simp only [Kr.PT]); first | done | rfl)))
    (refine Kr.seqQ (v := .int .i64 tn) (a' := ?_) (by rfl) ?_ ?_ ?_; rotate_left 1; (focus (exact Kr.valOf rfl (ldInt (rowCell (j := 1) (H.at 0 rfl) rfl)))); (focus ((try simp only [Kr.PT]); first | done | rfl)))
    refine Kr.seqR (by rfl) (fun K hK => ?_)
    go_simp
    go_at_call 61
    refine (wnum_v (m := 8) (n := tn) H HR.out HA (by decide) (by simp; omega)).mono ?_
    rintro e y5 ⟨q6, rfl, hR3, hA3, H3⟩
    clear H HR HA; have H := H3; have HR := Lib.hid hR3; have HA := hA3; clear H3 hR3 hA3
    (refine Kr.outS hK (a' := ?_) ?_ ?_; rotate_left; (focus ((try simp only [Kr.PT]); first | done | rfl))); clear hK K
    (refine Kr.seqQ (v := ?_) (a' := ?_) (by rfl) ?_ ?_ ?_; rotate_left 2; (focus (go_simp; first | done | rfl)); (focus ((try simp only [Kr.PT]); first | done | rfl)))
    refine Kr.seqDoneW ?_
    replace HA := apt_tail HA; replace H := H.drop 1; dsimp only [List.drop] at H
    have HR2 := Lib.hid (show RowG 5 w0.heap.size q6 (r ++ (1#8 :: beI 8 tn).map w8) y5 by have := HR.out; rwa [List.append_assoc] at this); clear HR
    go_upto_region 15 with fail
    refine Kr.seqStartW ?_
    (refine Kr.seqQ (v := ?_) (a' := ?_) (by rfl) ?_ ?_ ?_; rotate_left 2; (focus (go_simp; first | done | rfl)); (focus ((try simp only [Kr.PT]); first | done | rfl)))
    (refine Kr.seqQ (v := ?_) (a' := ?_) (by rfl) ?_ ?_ ?_; rotate_left 2; (focus (go_simp; first | done | rfl)); (focus ((try simp only [Kr.PT]); first | done | rfl)))
    refine Kr.seqDoneW ?_
    have hk := trivial
    go_wp2
    refine bodyPost_ret (v := q6) (by simp [results, Tryd.results53, go_sem, hk]) rfl ⟨_, rfl, HR2.out, HA, H⟩
  by_cases k2 : tk = 2
  · have C1 : decide (tk = 1) = false := decide_eq_false (by exact k1)
    have C2 : decide (tk = 2) = true := decide_eq_true (by exact k2)
    have hEE : E = 2#8 :: (beI 4 (bl : Int) ++ t.b) := by rw [← HE.out, enc2 (HTK.out.trans k2) d, HBL.out]; rfl
    have hz1 : z0 = 2#8 := by rw [← hz0, k2]; rfl
    subst hEE; rw [hz1] at HR; clear hz0 k1 k2
    have hbl8 : (beI 4 (bl : Int)).length = 4 := beI_length _ _; rw [List.length_cons, List.length_append, hbl8, HBL.out] at hb
    go_upto_region 3 with fail
    refine Kr.seqStartW ?_
    (refine Kr.seqQ (v := .bool false) (a' := ?_) (by rfl) ?_ ?_ ?_; rotate_left 1; (focus (exact Kr.valOf rfl (eqlI C1))); (focus ((try simp only [Kr.PT]); first | done | rfl)))
    (refine Kr.seqQ (v := ?_) (a' := ?_) (by rfl) ?_ ?_ ?_; rotate_left 2; (focus (go_simp; first | done | rfl)); (focus ((try simp only [Kr.PT]); first | done | rfl)))
    refine Kr.seqDoneW ?_
    go_upto_region 5 with fail
    refine Kr.seqStartW ?_
    (refine Kr.seqQ (v := .bool true) (a' := ?_) (by rfl) ?_ ?_ ?_; rotate_left 1; (focus (exact Kr.valOf rfl (eqlI C2))); (focus ((try simp only [Kr.PT]); first | done | rfl)))
    (refine Kr.seqQ (v := ?_) (a' := ?_) (by rfl) ?_ ?_ ?_; rotate_left 2; (focus (go_simp; first | done | rfl)); (focus ((try simp only [Kr.PT]); first | done | rfl)))
    refine Kr.seqDoneW ?_
    go_upto_region 6 with fail
    refine Kr.seqStartW ?_
    (refine Kr.seqQ (v := ?_) (a' := ?_) (by rfl) ?_ ?_ ?_; rotate_left 2; (focus (go_simp; first | done | rfl)); (focus ((try simp only [Kr.PT]); first | done | rfl)))
    (refine Kr.seqQ (v := .pointer (some ⟨ba, 2, none⟩)) (a' := ?_) (by rfl) ?_ ?_ ?_; rotate_left 1; (focus (go_simp; first | done | rfl)); (focus ((try simp only [Kr.PT]); first | done | rfl)))
    (refine Kr.seqQ (v := .slice pb bl cb) (a' := ?_) (by rfl) ?_ ?_ ?_; rotate_left 1; (focus (exact Kr.valOf rfl (ldSl (rowCell (j := 2) (H.at 0 rfl) rfl)))); (focus ((try simp only [Kr.PT]); first | done | rfl)))
    (refine Kr.seqQ (v := .int .i64 (bl : Int)) (a' := ?_) (by rfl) ?_ ?_ ?_; rotate_left 1; (focus (exact Kr.valOf rfl ((by go_simp)))); (focus ((try simp only [Kr.PT]); first | done | rfl)))
    refine Kr.seqR (by rfl) (fun K hK => ?_)
    go_simp
    go_at_call 61
    refine (wnum_v (m := 4) (n := (bl : Int)) H HR.out HA (by decide) (by simp; omega)).mono ?_
    rintro e y7 ⟨q8, rfl, hR3, hA3, H3⟩
    clear H HR HA; have H := H3; have HR := Lib.hid hR3; have HA := hA3; clear H3 hR3 hA3
    (refine Kr.outS hK (a' := ?_) ?_ ?_; rotate_left; (focus ((try simp only [Kr.PT]); first | done | rfl))); clear hK K
    (refine Kr.seqQ (v := ?_) (a' := ?_) (by rfl) ?_ ?_ ?_; rotate_left 2; (focus (go_simp; first | done | rfl)); (focus ((try simp only [Kr.PT]); first | done | rfl)))
    refine Kr.seqDoneW ?_
    go_upto_region 7 with fail
    refine Kr.seqStartW ?_
    (refine Kr.seqQ (v := ?_) (a' := ?_) (by rfl) ?_ ?_ ?_; rotate_left 2; (focus (go_simp; first | done | rfl)); (focus ((try simp only [Kr.PT]); first | done | rfl)))
    (refine Kr.seqQ (v := .pointer (some ⟨ba, 2, none⟩)) (a' := ?_) (by rfl) ?_ ?_ ?_; rotate_left 1; (focus (go_simp; first | done | rfl)); (focus ((try simp only [Kr.PT]); first | done | rfl)))
    (refine Kr.seqQ (v := .slice pb bl cb) (a' := ?_) (by rfl) ?_ ?_ ?_; rotate_left 1; (focus (exact Kr.valOf rfl (ldSl (rowCell (j := 2) (H.at 0 rfl) rfl)))); (focus ((try simp only [Kr.PT]); first | done | rfl)))
    refine Kr.seqR (by rfl) (fun K hK => ?_)
    refine wp_appG (T := 5) (TS := 46) Tryd.underlying46 info8 rfl (.tmp 28) (.tmp 30) rfl (v := q8) (r := (r ++ [w8 2#8] ++ (beI 4 (bl : Int)).map w8)) (d := (t.b.map w8)) (p := pb) (m := bl) (c := cb) (rs := ((ba, 49, [.int .i64 tk, .int .i64 tn, .slice pb bl cb, .slice pl ll cl]) :: rs)) rfl rfl (by rw [List.length_map]; exact HBL.out) (((src_item HBB.out).grow H.g).srcG) (one_lit8 t.b) (HPB.out) H HR.out HA (by simp [hbl8]; omega) (by decide) ?_
    intro q10 y9 H3 hR3 hA3
    clear H HR HA ; have H := H3; have HR := Lib.hid hR3; have HA := hA3; clear H3 hR3 hA3
    (refine Kr.outS hK (a' := ?_) ?_ ?_; rotate_left; (focus ((try simp only [Kr.PT]); first | done | rfl))); clear hK K
    (refine Kr.seqQ (v := ?_) (a' := ?_) (by rfl) ?_ ?_ ?_; rotate_left 2; (focus (go_simp; first | done | rfl)); (focus ((try simp only [Kr.PT]); first | done | rfl)))
    refine Kr.seqDoneW ?_
    replace HA := apt_tail HA; replace H := H.drop 1; dsimp only [List.drop] at H
    have HR2 := Lib.hid (show RowG 5 w0.heap.size q10 (r ++ (2#8 :: (beI 4 (bl : Int) ++ t.b)).map w8) y9 by have := HR.out; rwa [List.append_assoc, List.append_assoc, ← List.map_append] at this); clear HR
    go_upto_region 15 with fail
    refine Kr.seqStartW ?_
    (refine Kr.seqQ (v := ?_) (a' := ?_) (by rfl) ?_ ?_ ?_; rotate_left 2; (focus (go_simp; first | done | rfl)); (focus ((try simp only [Kr.PT]); first | done | rfl)))
    (refine Kr.seqQ (v := ?_) (a' := ?_) (by rfl) ?_ ?_ ?_; rotate_left 2; (focus (go_simp; first | done | rfl)); (focus ((try simp only [Kr.PT]); first | done | rfl)))
    refine Kr.seqDoneW ?_
    have hk := trivial
    go_wp2
    refine bodyPost_ret (v := q10) (by simp [results, Tryd.results53, go_sem, hk]) rfl ⟨_, rfl, HR2.out, HA, H⟩
  have hk3 : t.k = 3 ∧ ∃ e, d = e + 1 ∧ t.l.length ≤ 1000 ∧ ∀ x ∈ t.l, vld e x = true := by
    rcases HVC.out with h | h | h
    · exact absurd (HTK.out.symm.trans h) k1
    · exact absurd (HTK.out.symm.trans h) k2
    · exact h
  obtain ⟨hk3, d, rfl, hl1000, hal⟩ := hk3; rw [HLL.out] at hl1000; have k3 : tk = 3 := HTK.out.symm.trans hk3; have HAL := Lib.hid hal; clear hal
  have C1 : decide (tk = 1) = false := decide_eq_false (by exact k1)
  have C2 : decide (tk = 2) = false := decide_eq_false (by exact k2)
  have C3 : decide (tk = 3) = true := decide_eq_true (by exact k3)
  have hEE : E = 3#8 :: (beI 4 (ll : Int) ++ t.l.flatMap (enc d)) := by rw [← HE.out, enc3 hk3 d, HLL.out]; rfl
  have hz1 : z0 = 3#8 := by rw [← hz0, k3]; rfl
  subst hEE; rw [hz1] at HR; clear hz0 k1 k2 k3 hk3
  have hbl8 : (beI 4 (ll : Int)).length = 4 := beI_length _ _; rw [List.length_cons, List.length_append, hbl8] at hb
  go_upto_region 3 with fail
  refine Kr.seqStartW ?_
  (refine Kr.seqQ (v := .bool false) (a' := ?_) (by rfl) ?_ ?_ ?_; rotate_left 1; (focus (exact Kr.valOf rfl (eqlI C1))); (focus ((try simp only [Kr.PT]); first | done | rfl)))
  (refine Kr.seqQ (v := ?_) (a' := ?_) (by rfl) ?_ ?_ ?_; rotate_left 2; (focus (go_simp; first | done | rfl)); (focus ((try simp only [Kr.PT]); first | done | rfl)))
  refine Kr.seqDoneW ?_
  go_upto_region 5 with fail
  refine Kr.seqStartW ?_
  (refine Kr.seqQ (v := .bool false) (a' := ?_) (by rfl) ?_ ?_ ?_; rotate_left 1; (focus (exact Kr.valOf rfl (eqlI C2))); (focus ((try simp only [Kr.PT]); first | done | rfl)))
  (refine Kr.seqQ (v := ?_) (a' := ?_) (by rfl) ?_ ?_ ?_; rotate_left 2; (focus (go_simp; first | done | rfl)); (focus ((try simp only [Kr.PT]); first | done | rfl)))
  refine Kr.seqDoneW ?_
  go_upto_region 8 with fail
  refine Kr.seqStartW ?_
  (refine Kr.seqQ (v := .bool true) (a' := ?_) (by rfl) ?_ ?_ ?_; rotate_left 1; (focus (exact Kr.valOf rfl (eqlI C3))); (focus ((try simp only [Kr.PT]); first | done | rfl)))
  (refine Kr.seqQ (v := ?_) (a' := ?_) (by rfl) ?_ ?_ ?_; rotate_left 2; (focus (go_simp; first | done | rfl)); (focus ((try simp only [Kr.PT]); first | done | rfl)))
  refine Kr.seqDoneW ?_
  go_upto_region 9 with fail
  refine Kr.seqStartW ?_
  (refine Kr.seqQ (v := ?_) (a' := ?_) (by rfl) ?_ ?_ ?_; rotate_left 2; (focus (go_simp; first | done | rfl)); (focus ((try simp only [Kr.PT]); first | done | rfl)))
  (refine Kr.seqQ (v := .pointer (some ⟨ba, 3, none⟩)) (a' := ?_) (by rfl) ?_ ?_ ?_; rotate_left 1; (focus (go_simp; first | done | rfl)); (focus ((try simp only [Kr.PT]); first | done | rfl)))
  (refine Kr.seqQ (v := .slice pl ll cl) (a' := ?_) (by rfl) ?_ ?_ ?_; rotate_left 1; (focus (exact Kr.valOf rfl (ldLs (rowCell (j := 3) (H.at 0 rfl) rfl)))); (focus ((try simp only [Kr.PT]); first | done | rfl)))
  (refine Kr.seqQ (v := .int .i64 (ll : Int)) (a' := ?_) (by rfl) ?_ ?_ ?_; rotate_left 1; (focus (exact Kr.valOf rfl ((by go_simp)))); (focus ((try simp only [Kr.PT]); first | done | rfl)))
  refine Kr.seqR (by rfl) (fun K hK => ?_)
  go_simp
  go_at_call 61
  refine (wnum_v (m := 4) (n := (ll : Int)) H HR.out HA (by decide) (by simp; omega)).mono ?_
  rintro e y11 ⟨q12, rfl, hR3, hA3, H3⟩
  clear H HR HA; have H := H3; have HR := Lib.hid hR3; have HA := hA3; clear H3 hR3 hA3
  (refine Kr.outS hK (a' := ?_) ?_ ?_; rotate_left; (focus ((try simp only [Kr.PT]); first | done | rfl))); clear hK K
  (refine Kr.seqQ (v := ?_) (a' := ?_) (by rfl) ?_ ?_ ?_; rotate_left 2; (focus (go_simp; first | done | rfl)); (focus ((try simp only [Kr.PT]); first | done | rfl)))
  refine Kr.seqDoneW ?_
  go_upto_region 10 with fail
  refine Kr.seqStartW ?_
  (refine Kr.seqQ (v := .pointer (some ⟨ba, 3, none⟩)) (a' := ?_) (by rfl) ?_ ?_ ?_; rotate_left 1; (focus (go_simp; first | done | rfl)); (focus ((try simp only [Kr.PT]); first | done | rfl)))
  (refine Kr.seqQ (v := .slice pl ll cl) (a' := ?_) (by rfl) ?_ ?_ ?_; rotate_left 1; (focus (exact Kr.valOf rfl (ldLs (rowCell (j := 3) (H.at 0 rfl) rfl)))); (focus ((try simp only [Kr.PT]); first | done | rfl)))
  (refine Kr.seqQ (v := .int .i64 (ll : Int)) (a' := ?_) (by rfl) ?_ ?_ ?_; rotate_left 1; (focus (exact Kr.valOf rfl ((by go_simp)))); (focus ((try simp only [Kr.PT]); first | done | rfl)))
  (refine Kr.seqQ (v := ?_) (a' := ?_) (by rfl) ?_ ?_ ?_; rotate_left 2; (focus (go_simp; first | done | rfl)); (focus ((try simp only [Kr.PT]); first | done | rfl)))
  refine Kr.seqDoneW ?_
  obtain ⟨P, hP⟩ : ∃ z, r ++ [w8 3#8] ++ (beI 4 (ll : Int)).map w8 = z := ⟨_, rfl⟩; have hPl : P.length = r.length + 5 := by rw [← hP]; simp [hbl8]
  rw [hP] at HR; have HPP := Lib.hid hP; clear hP C1 C2 C3 hE1
  have H2 := Lib.hid H; clear H
  go_wp2_with fail
  go_loopw [0, 42] (fun v iv wr => ∃ (j : Nat), j ≤ ll ∧ iv = .int .i64 (j : Int) ∧ Hid (RowG 5 w0.heap.size v (P ++ (fl d t.l j).map w8) wr) ∧ Hid (Apt v ((ba, 49, [.int .i64 tk, .int .i64 tn, .slice pb bl cb, .slice pl ll cl]) :: rs)) ∧ Hid (Ow w0 wr ((ba, 49, [.int .i64 tk, .int .i64 tn, .slice pb bl cb, .slice pl ll cl]) :: rs))) (fun _ iv _ => (ll - (intOf iv).toNat))
  case atStart => exact ⟨0, by omega, rfl, by rw [show (fl d t.l 0).map w8 = [] from rfl, List.append_nil]; exact HR, Lib.hid HA, H2⟩
  case round =>
    clear H2 HR HA; obtain ⟨j, hj, rfl, HR, HA, HH⟩ := hrel; have H := HH.out; replace HA := HA.out; clear HH
    by_cases hje : j = ll
    · have C4 : decide ((j : Int) < (ll : Int)) = false := decide_eq_false (by omega)
      rw [fl_all d t.l (by rw [HLL.out]; omega)] at HR; clear hje
      go_upto_region 11 with fail
      refine Kr.seqStartW ?_
      (refine Kr.seqQ (v := .bool false) (a' := ?_) (by rfl) ?_ ?_ ?_; rotate_left 1; (focus (exact Kr.valOf rfl (lssT C4))); (focus ((try simp only [Kr.PT]); first | done | rfl)))
      refine Kr.seqDoneW ?_
      replace HA := apt_tail HA; replace H := H.drop 1; dsimp only [List.drop] at H
      have HR2 := Lib.hid (show RowG 5 w0.heap.size u0 (r ++ (3#8 :: (beI 4 (ll : Int) ++ t.l.flatMap (enc d))).map w8) wr by have := HR.out; rwa [← HPP.out, List.append_assoc, List.append_assoc, ← List.map_append] at this); clear HR
      go_upto_region 15 with fail
      refine Kr.seqStartW ?_
      (refine Kr.seqQ (v := ?_) (a' := ?_) (by rfl) ?_ ?_ ?_; rotate_left 2; (focus (go_simp; first | done | rfl)); (focus ((try simp only [Kr.PT]); first | done | rfl)))
      (refine Kr.seqQ (v := ?_) (a' := ?_) (by rfl) ?_ ?_ ?_; rotate_left 2; (focus (go_simp; first | done | rfl)); (focus ((try simp only [Kr.PT]); first | done | rfl)))
      refine Kr.seqDoneW ?_
      have hk := trivial
      go_wp2
      refine bodyPost_ret (v := u0) (by simp [results, Tryd.results53, go_sem, hk]) rfl ⟨_, rfl, HR2.out, HA, H⟩
    · have hjl : j < ll := by omega
      have C4 : decide ((j : Int) < (ll : Int)) = true := decide_eq_true (by omega)
      clear hje
      obtain ⟨x, hx⟩ : ∃ x, t.l[j]? = some x := ⟨_, List.getElem?_eq_getElem (by rw [HLL.out]; exact hjl)⟩
      obtain ⟨b, off, v0, v1, v2, v3, hpl, hFb, c0, c1, c2, c3, hch⟩ := HLS.out j x hx
      subst hpl
      have HC0 := Lib.hid c0; have HC1 := Lib.hid c1; have HC2 := Lib.hid c2; have HC3 := Lib.hid c3; have HCH := Lib.hid hch; have HX := Lib.hid hx; clear c0 c1 c2 c3 hch hx hFb
      have HON : Hid (∀ v ∈ ([v0, v1, v2, v3] : List Value), v.oneCell' = true) := Lib.hid (ItV.one HCH.out)
      have HFS := Lib.hid (fl_succ (d := d) HX.out); have hfl1 := fl_le d t.l (j + 1); rw [HFS.out, List.length_append] at hfl1
      have HVX := Lib.hid (HAL.out x (List.mem_of_getElem? HX.out))
      go_upto_region 11 with fail
      refine Kr.seqStartW ?_
      (refine Kr.seqQ (v := .bool true) (a' := ?_) (by rfl) ?_ ?_ ?_; rotate_left 1; (focus (exact Kr.valOf rfl (lssT C4))); (focus ((try simp only [Kr.PT]); first | done | rfl)))
      refine Kr.seqDoneW ?_
      go_upto_region 12 with fail
      refine Kr.seqStartW ?_
      (refine Kr.seqQ (v := .pointer (some ⟨b, off + j * 4, none⟩)) (a' := ?_) (by rfl) ?_ ?_ ?_; rotate_left 1; (focus (exact Kr.valOf rfl (ixI hjl))); (focus ((try simp only [Kr.PT]); first | done | rfl)))
      (refine Kr.seqQ (v := .agg #[v0, v1, v2, v3]) (a' := ?_) (by rfl) ?_ ?_ ?_; rotate_left 1; (focus (exact Kr.valOf rfl (ldItem (H.g.cell HC0.out) (H.g.cell HC1.out) (H.g.cell HC2.out) (H.g.cell HC3.out)))); (focus ((try simp only [Kr.PT]); first | done | rfl)))
      refine Kr.seqR (by rfl) (fun K hK => ?_)
      refine wp_runV rfl newI ?_
      obtain ⟨y13, hy⟩ : ∃ y, wr.alloc (.cells ([.int .i64 0, .int .i64 0, .slice none 0 0, .slice none 0 0]).toArray 49) = y := ⟨_, rfl⟩
      obtain ⟨bx, hb⟩ : ∃ b, wr.heap.size = b := ⟨_, rfl⟩
      rw [hy, hb]
      replace HA := apt_new (T2 := 49) (l := [.int .i64 0, .int .i64 0, .slice none 0 0, .slice none 0 0]) HR.out HA hb
      have hg : Gr wr y13 := hy ▸ (Gr.refl _).alloc _
      replace H := H.alloc hy hb
      replace HR := Lib.hid (HR.out.grow hg)
      clear hy hb hg
      (refine Kr.outS hK (a' := ?_) ?_ ?_; rotate_left; (focus ((try simp only [Kr.PT]); first | done | rfl))); clear hK K
      refine Kr.seqR (by rfl) (fun K hK => ?_)
      refine wp_run rfl (stI (H.at 0 rfl) HON.out) ?_
      have hRp := rowG_putA (cs := ([v0, v1, v2, v3] : List Value).toArray) HR.out HA 0 rfl; replace HA := apt_set (l2 := [v0, v1, v2, v3]) HA 0 rfl; dsimp only [List.set] at HA
      obtain ⟨y14, hy⟩ : ∃ y, y13.setRow bx ([v0, v1, v2, v3] : List Value).toArray = y := ⟨_, rfl⟩; rw [hy]; rw [hy] at hRp; replace HR := Lib.hid hRp; clear hRp
      replace H := H.put 0 hy rfl; dsimp only [List.set] at H; clear hy
      (refine Kr.outS hK (a' := ?_) ?_ ?_; rotate_left; (focus ((try simp only [Kr.PT]); first | done | rfl))); clear hK K
      refine Kr.seqDoneW ?_
      go_upto_region 13 with fail
      refine Kr.seqStartW ?_
      (refine Kr.seqQ (v := ?_) (a' := ?_) (by rfl) ?_ ?_ ?_; rotate_left 2; (focus (go_simp; first | done | rfl)); (focus ((try simp only [Kr.PT]); first | done | rfl)))
      (refine Kr.seqQ (v := .agg #[v0, v1, v2, v3]) (a' := ?_) (by rfl) ?_ ?_ ?_; rotate_left 1; (focus (exact Kr.valOf rfl (ldI (H.at 0 rfl)))); (focus ((try simp only [Kr.PT]); first | done | rfl)))
      refine Kr.seqR (by rfl) (fun K hK => ?_)
      go_simp
      go_at_call 53
      refine (ih d rfl H HR.out HA HCH.out HVX.out (by rw [List.length_append, List.length_map, hPl]; omega)).mono ?_
      rintro e y15 ⟨q16, rfl, hR3, hA3, H3⟩
      clear H HR HA; have H := H3; have HR := Lib.hid hR3; have HA := hA3; clear H3 hR3 hA3
      (refine Kr.outS hK (a' := ?_) ?_ ?_; rotate_left; (focus ((try simp only [Kr.PT]); first | done | rfl))); clear hK K
      (refine Kr.seqQ (v := ?_) (a' := ?_) (by rfl) ?_ ?_ ?_; rotate_left 2; (focus (go_simp; first | done | rfl)); (focus ((try simp only [Kr.PT]); first | done | rfl)))
      refine Kr.seqDoneW ?_
      rw [List.append_assoc, ← List.map_append, ← HFS.out] at HR
      replace HA := apt_tail HA
      replace H := H.drop 1; dsimp only [List.drop] at H
      have HADD : IntKind.i64.wrap ((j : Int) + 1) = ((j + 1 : Nat) : Int) := wrap_nat (by omega) (by omega)
      go_upto_region 14 with fail
      refine Kr.seqStartW ?_
      (refine Kr.seqQ (v := .int .i64 ((j + 1 : Nat) : Int)) (a' := ?_) (by rfl) ?_ ?_ ?_; rotate_left 1; (focus (exact Kr.valOf rfl (addI HADD))); (focus ((try simp only [Kr.PT]); first | done | rfl)))
      (refine Kr.seqQ (v := ?_) (a' := ?_) (by rfl) ?_ ?_ ?_; rotate_left 2; (focus (go_simp; first | done | rfl)); (focus ((try simp only [Kr.PT]); first | done | rfl)))
      refine Kr.seqDoneW ?_
      go_wp2; go_roundw
      case rel =>
        first
        | exact ⟨j + 1, by omega, rfl, HR, Lib.hid HA, Lib.hid H⟩
        | (repeat apply Exists.intro); exact ⟨⟨j + 1, by omega, rfl, HR, Lib.hid HA, Lib.hid H⟩, rfl⟩
        | (repeat apply Exists.intro); refine ⟨⟨j + 1, by omega, rfl, HR, Lib.hid HA, Lib.hid H⟩, ?_⟩; refine ⟨?_, ?_⟩ <;> (repeat apply And.intro) <;> rfl
      case measure => simp [intOf]; omega
theorem write_v : ∀ (d : Nat), ∀ {w0 w : World} {rs : List Blk} {v : Value} {r : List Value} {k : Nat} {F : Nat → Prop} {val : Value} {t : It} (_ : Ow w0 w rs) (_ : RowG 5 w0.heap.size v r w) (_ : Apt v rs) (_ : ItV w0 k F val t) (_ : vld d t = true) (_ : r.length + (enc d t).length ≤ 99999900), Calls Tryd.prog 53 #[v, val] w fun o w' => ∃ v2, o = .returned v2 ∧ RowG 5 w0.heap.size v2 (r ++ (enc d t).map w8) w' ∧ Apt v2 rs ∧ Ow w0 w' rs
  | 0, _, _, _, _, _, _, _, _, _, h1, h2, h3, h4, h5, h6 => write_step (fun e he => by omega) h1 h2 h3 h4 h5 h6
  | d + 1, _, _, _, _, _, _, _, _, _, h1, h2, h3, h4, h5, h6 => write_step (fun e he => by
      obtain rfl : e = d := by omega
      exact write_v e) h1 h2 h3 h4 h5 h6

end Go.Proofs.YtldgjhmefaapeaaDoor.Dg


/- size, Encode. -/
namespace Go.Proofs.YtldgjhmefaapeaaDoor.Dg
open Go Go.RowKit Go.Proofs.YtldgjhmefaapeaaDoor.Ne Go.Proofs.YtldgjhmefaapeaaDoor.Kr

/-- What size says of an encoding of this length. -/
def Szd (L d : Nat) (m : Nat) : Prop := (L ≤ 16384 → m = L) ∧ (16384 < L → 16384 < m) ∧ m ≤ 4611686018427387904 + 20000 * (d + 1)
theorem slice_of {T : TypeId} {B : Nat} {v : Value} {xs : List Value} {W : World} (h : RowG T B v xs W) : ∃ p c, v = .slice p xs.length c := by
  obtain ⟨p, c, e, _⟩ := h.src
  exact ⟨p, c, e⟩

set_option linter.unusedSimpArgs false in
set_option maxRecDepth 100000 in
set_option maxHeartbeats 16000000 in
theorem size_step {d : Nat} (hd : d ≤ 8) (ih : ∀ e, e + 1 = d → ∀ {k : Nat} {F : Nat → Prop} {v : Value} {t : It} {w : World}, ItV w k F v t → vld e t = true → Calls Tryd.prog 52 #[v] w fun o w' => ∃ m : Nat, o = .returned (.int .i64 (m : Int)) ∧ Szd (enc e t).length e m ∧ Gr w w')
    {k : Nat} {F : Nat → Prop} {v : Value} {t : It} {w : World} (hI : ItV w k F v t) (hv : vld d t = true) :
    Calls Tryd.prog 52 #[v] w fun o w' => ∃ m : Nat, o = .returned (.int .i64 (m : Int)) ∧ Szd (enc d t).length d m ∧ Gr w w' := by
  obtain ⟨k0, rfl⟩ : ∃ k0, k = k0 + 1 := by cases k with
    | zero => exact hI.elim
    | succ k0 => exact ⟨k0, rfl⟩
  obtain ⟨pb, cb, pl, cl, hv, hk1, hn1, hpb, hcb, hbl, hll, hB, hL⟩ := hI; subst hv
  obtain ⟨tk, htk⟩ : ∃ z, t.k = z := ⟨_, rfl⟩; obtain ⟨tn, htn⟩ : ∃ z, t.n = z := ⟨_, rfl⟩; obtain ⟨bl, hbl2⟩ : ∃ z, t.b.length = z := ⟨_, rfl⟩; obtain ⟨ll, hll2⟩ : ∃ z, t.l.length = z := ⟨_, rfl⟩
  rw [htk] at hk1; rw [htn] at hn1; rw [hbl2] at hcb hbl; rw [hll2] at hll; have HTK := Lib.hid htk; have HTN := Lib.hid htn; have HBL := Lib.hid hbl2; have HLL := Lib.hid hll2; have HBB := Lib.hid hB; have HLS := Lib.hid hL; have HPB := Lib.hid hpb; have HI1 := Lib.hid hk1; have HI2 := Lib.hid hn1; rw [htk, htn, hbl2, hll2]; clear htk htn hbl2 hll2 hB hL hpb hk1 hn1
  have HD8 := Lib.hid hd; clear hd
  have HVC := Lib.hid (vld_cases hv)
  obtain ⟨L, hLn⟩ : ∃ z, (enc d t).length = z := ⟨_, rfl⟩; rw [hLn]; have HLN := Lib.hid hLn; clear hLn hv
  have H := Ow.start w
  go_enter Tryd.func52, Tryd.ntmps52
  go_upto_region 0 with fail
  refine Kr.seqStartW ?_
  refine Kr.seqR (by rfl) (fun K hK => ?_)
  refine wp_runV rfl boxI ?_
  obtain ⟨y1, hy⟩ : ∃ y, w.alloc (.cells ([.int .i64 tk, .int .i64 tn, .slice pb bl cb, .slice pl ll cl]).toArray 49) = y := ⟨_, rfl⟩
  obtain ⟨ba, hb⟩ : ∃ b, w.heap.size = b := ⟨_, rfl⟩
  rw [hy, hb]
  have hg : Gr w y1 := hy ▸ (Gr.refl _).alloc _
  replace H := H.alloc hy hb
  clear hy hb hg
  (refine Kr.outS hK (a' := ?_) ?_ ?_; rotate_left; (focus ((try simp only [Kr.PT]); first | done | rfl))); clear hK K
  (refine Kr.seqQ (v := ?_) (a' := ?_) (by rfl) ?_ ?_ ?_; rotate_left 2; (focus (go_simp; first | done | rfl)); (focus ((try simp only [Kr.PT]); first | done | rfl)))
  refine Kr.seqDoneW ?_
  go_upto_region 1 with fail
  refine Kr.seqStartW ?_
  (refine Kr.seqQ (v := .pointer (some ⟨ba, 0, none⟩)) (a' := ?_) (by rfl) ?_ ?_ ?_; rotate_left 1; (focus (go_simp; first | done | rfl)); (focus ((try simp only [Kr.PT]); first | done | rfl)))
  (refine Kr.seqQ (v := .int .i64 tk) (a' := ?_) (by rfl) ?_ ?_ ?_; rotate_left 1; (focus (exact Kr.valOf rfl (ldInt (rowCell (j := 0) (H.at 0 rfl) rfl)))); (focus ((try simp only [Kr.PT]); first | done | rfl)))
  refine Kr.seqDoneW ?_
  by_cases k1 : tk = 1
  · have C1 : decide (tk = 1) = true := decide_eq_true (by exact k1)
    have hEE : L = 9 := by rw [← HLN.out, enc1 (HTK.out.trans k1) d, List.length_cons, beI_length]
    subst hEE; clear k1
    go_upto_region 2 with fail
    refine Kr.seqStartW ?_
    (refine Kr.seqQ (v := .bool true) (a' := ?_) (by rfl) ?_ ?_ ?_; rotate_left 1; (focus (exact Kr.valOf rfl (eqlI C1))); (focus ((try simp only [Kr.PT]); first | done | rfl)))
    (refine Kr.seqQ (v := ?_) (a' := ?_) (by rfl) ?_ ?_ ?_; rotate_left 2; (focus (go_simp; first | done | rfl)); (focus ((try simp only [Kr.PT]); first | done | rfl)))
    refine Kr.seqDoneW ?_
    go_upto_region 3 with fail
    refine Kr.seqStartW ?_
    (refine Kr.seqQ (v := ?_) (a' := ?_) (by rfl) ?_ ?_ ?_; rotate_left 2; (focus (go_simp; first | done | rfl)); (focus ((try simp only [Kr.PT]); first | done | rfl)))
    refine Kr.seqDoneW ?_
    have hk := trivial
    go_wp2
    refine bodyPost_ret (v := .int .i64 9) (by simp [results, Tryd.results52, go_sem, hk]) rfl ⟨9, rfl, ⟨fun _ => rfl, fun h => absurd h (by decide), by omega⟩, H.g⟩
  by_cases k2 : tk = 2
  · have C1 : decide (tk = 1) = false := decide_eq_false (by exact k1)
    have C2 : decide (tk = 2) = true := decide_eq_true (by exact k2)
    have hEE : 5 + bl = L := by rw [← HLN.out, enc2 (HTK.out.trans k2) d, List.length_cons, List.length_append, beI_length, HBL.out]; omega
    clear k1 k2; have hadd : IntKind.i64.wrap ((5 : Int) + (bl : Int)) = (L : Int) := wrap_nat (by omega) (by omega)
    go_upto_region 2 with fail
    refine Kr.seqStartW ?_
    (refine Kr.seqQ (v := .bool false) (a' := ?_) (by rfl) ?_ ?_ ?_; rotate_left 1; (focus (exact Kr.valOf rfl (eqlI C1))); (focus ((try simp only [Kr.PT]); first | done | rfl)))
    (refine Kr.seqQ (v := ?_) (a' := ?_) (by rfl) ?_ ?_ ?_; rotate_left 2; (focus (go_simp; first | done | rfl)); (focus ((try simp only [Kr.PT]); first | done | rfl)))
    refine Kr.seqDoneW ?_
    go_upto_region 4 with fail
    refine Kr.seqStartW ?_
    (refine Kr.seqQ (v := .bool true) (a' := ?_) (by rfl) ?_ ?_ ?_; rotate_left 1; (focus (exact Kr.valOf rfl (eqlI C2))); (focus ((try simp only [Kr.PT]); first | done | rfl)))
    (refine Kr.seqQ (v := ?_) (a' := ?_) (by rfl) ?_ ?_ ?_; rotate_left 2; (focus (go_simp; first | done | rfl)); (focus ((try simp only [Kr.PT]); first | done | rfl)))
    refine Kr.seqDoneW ?_
    go_upto_region 5 with fail
    refine Kr.seqStartW ?_
    (refine Kr.seqQ (v := .pointer (some ⟨ba, 2, none⟩)) (a' := ?_) (by rfl) ?_ ?_ ?_; rotate_left 1; (focus (go_simp; first | done | rfl)); (focus ((try simp only [Kr.PT]); first | done | rfl)))
    (refine Kr.seqQ (v := .slice pb bl cb) (a' := ?_) (by rfl) ?_ ?_ ?_; rotate_left 1; (focus (exact Kr.valOf rfl (ldSl (rowCell (j := 2) (H.at 0 rfl) rfl)))); (focus ((try simp only [Kr.PT]); first | done | rfl)))
    (refine Kr.seqQ (v := .int .i64 (bl : Int)) (a' := ?_) (by rfl) ?_ ?_ ?_; rotate_left 1; (focus (exact Kr.valOf rfl ((by go_simp)))); (focus ((try simp only [Kr.PT]); first | done | rfl)))
    (refine Kr.seqQ (v := .int .i64 (L : Int)) (a' := ?_) (by rfl) ?_ ?_ ?_; rotate_left 1; (focus (exact Kr.valOf rfl (addI hadd))); (focus ((try simp only [Kr.PT]); first | done | rfl)))
    (refine Kr.seqQ (v := ?_) (a' := ?_) (by rfl) ?_ ?_ ?_; rotate_left 2; (focus (go_simp; first | done | rfl)); (focus ((try simp only [Kr.PT]); first | done | rfl)))
    refine Kr.seqDoneW ?_
    have hk := trivial
    go_wp2
    refine bodyPost_ret (v := .int .i64 (L : Int)) (by simp [results, Tryd.results52, go_sem, hk]) rfl ⟨L, rfl, ⟨fun _ => rfl, fun h => h, by omega⟩, H.g⟩
  have hk3 : t.k = 3 ∧ ∃ e, d = e + 1 ∧ t.l.length ≤ 1000 ∧ ∀ x ∈ t.l, vld e x = true := by
    rcases HVC.out with h | h | h
    · exact absurd (HTK.out.symm.trans h) k1
    · exact absurd (HTK.out.symm.trans h) k2
    · exact h
  obtain ⟨hk3, d, rfl, hl1000, hal⟩ := hk3; rw [HLL.out] at hl1000; have k3 : tk = 3 := HTK.out.symm.trans hk3; have HAL := Lib.hid hal; clear hal
  have C1 : decide (tk = 1) = false := decide_eq_false (by exact k1)
  have C2 : decide (tk = 2) = false := decide_eq_false (by exact k2)
  have HEE : Hid (5 + (t.l.flatMap (enc d)).length = L) := Lib.hid (by rw [← HLN.out, enc3 hk3 d, List.length_cons, List.length_append, beI_length]; omega)
  clear k1 k2 k3 hk3
  go_upto_region 2 with fail
  refine Kr.seqStartW ?_
  (refine Kr.seqQ (v := .bool false) (a' := ?_) (by rfl) ?_ ?_ ?_; rotate_left 1; (focus (exact Kr.valOf rfl (eqlI C1))); (focus ((try simp only [Kr.PT]); first | done | rfl)))
  (refine Kr.seqQ (v := ?_) (a' := ?_) (by rfl) ?_ ?_ ?_; rotate_left 2; (focus (go_simp; first | done | rfl)); (focus ((try simp only [Kr.PT]); first | done | rfl)))
  refine Kr.seqDoneW ?_
  go_upto_region 4 with fail
  refine Kr.seqStartW ?_
  (refine Kr.seqQ (v := .bool false) (a' := ?_) (by rfl) ?_ ?_ ?_; rotate_left 1; (focus (exact Kr.valOf rfl (eqlI C2))); (focus ((try simp only [Kr.PT]); first | done | rfl)))
  (refine Kr.seqQ (v := ?_) (a' := ?_) (by rfl) ?_ ?_ ?_; rotate_left 2; (focus (go_simp; first | done | rfl)); (focus ((try simp only [Kr.PT]); first | done | rfl)))
  refine Kr.seqDoneW ?_
  go_upto_region 6 with fail
  refine Kr.seqStartW ?_
  (refine Kr.seqQ (v := ?_) (a' := ?_) (by rfl) ?_ ?_ ?_; rotate_left 2; (focus (go_simp; first | done | rfl)); (focus ((try simp only [Kr.PT]); first | done | rfl)))
  refine Kr.seqDoneW ?_
  go_upto_region 7 with fail
  refine Kr.seqStartW ?_
  (refine Kr.seqQ (v := .pointer (some ⟨ba, 3, none⟩)) (a' := ?_) (by rfl) ?_ ?_ ?_; rotate_left 1; (focus (go_simp; first | done | rfl)); (focus ((try simp only [Kr.PT]); first | done | rfl)))
  (refine Kr.seqQ (v := .slice pl ll cl) (a' := ?_) (by rfl) ?_ ?_ ?_; rotate_left 1; (focus (exact Kr.valOf rfl (ldLs (rowCell (j := 3) (H.at 0 rfl) rfl)))); (focus ((try simp only [Kr.PT]); first | done | rfl)))
  (refine Kr.seqQ (v := .int .i64 (ll : Int)) (a' := ?_) (by rfl) ?_ ?_ ?_; rotate_left 1; (focus (exact Kr.valOf rfl ((by go_simp)))); (focus ((try simp only [Kr.PT]); first | done | rfl)))
  (refine Kr.seqQ (v := ?_) (a' := ?_) (by rfl) ?_ ?_ ?_; rotate_left 2; (focus (go_simp; first | done | rfl)); (focus ((try simp only [Kr.PT]); first | done | rfl)))
  refine Kr.seqDoneW ?_
  have H2 := Lib.hid H; clear H C1 C2
  go_wp2_with fail
  go_loopw [3, 19] (fun nv iv wr => ∃ (j n : Nat), j ≤ ll ∧ iv = .int .i64 (j : Int) ∧ nv = .int .i64 (n : Int) ∧ Hid (Szd (5 + (fl d t.l j).length) (d + 1) n) ∧ Hid (Ow w wr [(ba, 49, [.int .i64 tk, .int .i64 tn, .slice pb bl cb, .slice pl ll cl])])) (fun _ iv _ => (ll - (intOf iv).toNat))
  case atStart => exact ⟨0, 5, by omega, rfl, rfl, Lib.hid ⟨fun _ => rfl, fun h => absurd h (by show ¬ 16384 < 5; decide), by omega⟩, H2⟩
  case round =>
    clear H2; obtain ⟨j, n, hj, rfl, rfl, HS, HH⟩ := hrel; have H := HH.out; clear HH
    by_cases hje : j = ll
    · have C4 : decide ((j : Int) < (ll : Int)) = false := decide_eq_false (by omega)
      have hs := HS.out; rw [fl_all d t.l (by rw [HLL.out]; omega), HEE.out] at hs; have HSS := Lib.hid hs; clear hs hje
      go_upto_region 8 with fail
      refine Kr.seqStartW ?_
      (refine Kr.seqQ (v := .bool false) (a' := ?_) (by rfl) ?_ ?_ ?_; rotate_left 1; (focus (exact Kr.valOf rfl (lssT C4))); (focus ((try simp only [Kr.PT]); first | done | rfl)))
      refine Kr.seqDoneW ?_
      go_upto_region 13 with fail
      refine Kr.seqStartW ?_
      (refine Kr.seqQ (v := ?_) (a' := ?_) (by rfl) ?_ ?_ ?_; rotate_left 2; (focus (go_simp; first | done | rfl)); (focus ((try simp only [Kr.PT]); first | done | rfl)))
      (refine Kr.seqQ (v := ?_) (a' := ?_) (by rfl) ?_ ?_ ?_; rotate_left 2; (focus (go_simp; first | done | rfl)); (focus ((try simp only [Kr.PT]); first | done | rfl)))
      refine Kr.seqDoneW ?_
      have hk := trivial
      go_wp2
      refine bodyPost_ret (v := .int .i64 (n : Int)) (by simp [results, Tryd.results52, go_sem, hk]) rfl ⟨n, rfl, HSS.out, H.g⟩
    · have hjl : j < ll := by omega
      have C4 : decide ((j : Int) < (ll : Int)) = true := decide_eq_true (by omega)
      clear hje
      obtain ⟨x, hx⟩ : ∃ x, t.l[j]? = some x := ⟨_, List.getElem?_eq_getElem (by rw [HLL.out]; exact hjl)⟩
      obtain ⟨b, off, v0, v1, v2, v3, hpl, hFb, c0, c1, c2, c3, hch⟩ := HLS.out j x hx
      subst hpl
      have HC0 := Lib.hid c0; have HC1 := Lib.hid c1; have HC2 := Lib.hid c2; have HC3 := Lib.hid c3; have HCH := Lib.hid hch; have HX := Lib.hid hx; clear c0 c1 c2 c3 hch hx hFb
      have HON : Hid (∀ v ∈ ([v0, v1, v2, v3] : List Value), v.oneCell' = true) := Lib.hid (ItV.one HCH.out)
      have HFS := Lib.hid (fl_succ (d := d) HX.out); have HFL := Lib.hid (fl_le d t.l j)
      have HVX := Lib.hid (HAL.out x (List.mem_of_getElem? HX.out))
      go_upto_region 8 with fail
      refine Kr.seqStartW ?_
      (refine Kr.seqQ (v := .bool true) (a' := ?_) (by rfl) ?_ ?_ ?_; rotate_left 1; (focus (exact Kr.valOf rfl (lssT C4))); (focus ((try simp only [Kr.PT]); first | done | rfl)))
      refine Kr.seqDoneW ?_
      go_upto_region 9 with fail
      refine Kr.seqStartW ?_
      (refine Kr.seqQ (v := .pointer (some ⟨b, off + j * 4, none⟩)) (a' := ?_) (by rfl) ?_ ?_ ?_; rotate_left 1; (focus (exact Kr.valOf rfl (ixI hjl))); (focus ((try simp only [Kr.PT]); first | done | rfl)))
      (refine Kr.seqQ (v := .agg #[v0, v1, v2, v3]) (a' := ?_) (by rfl) ?_ ?_ ?_; rotate_left 1; (focus (exact Kr.valOf rfl (ldItem (H.g.cell HC0.out) (H.g.cell HC1.out) (H.g.cell HC2.out) (H.g.cell HC3.out)))); (focus ((try simp only [Kr.PT]); first | done | rfl)))
      refine Kr.seqR (by rfl) (fun K hK => ?_)
      refine wp_runV rfl newI ?_
      obtain ⟨y2, hy⟩ : ∃ y, wr.alloc (.cells ([.int .i64 0, .int .i64 0, .slice none 0 0, .slice none 0 0]).toArray 49) = y := ⟨_, rfl⟩
      obtain ⟨bx, hb⟩ : ∃ b, wr.heap.size = b := ⟨_, rfl⟩
      rw [hy, hb]
      have hg : Gr wr y2 := hy ▸ (Gr.refl _).alloc _
      replace H := H.alloc hy hb
      clear hy hb hg
      (refine Kr.outS hK (a' := ?_) ?_ ?_; rotate_left; (focus ((try simp only [Kr.PT]); first | done | rfl))); clear hK K
      refine Kr.seqR (by rfl) (fun K hK => ?_)
      refine wp_run rfl (stI (H.at 0 rfl) HON.out) ?_
      obtain ⟨y3, hy⟩ : ∃ y, y2.setRow bx ([v0, v1, v2, v3]).toArray = y := ⟨_, rfl⟩
      rw [hy]
      replace H := H.put 0 hy rfl
      dsimp only [List.set] at H
      clear hy
      (refine Kr.outS hK (a' := ?_) ?_ ?_; rotate_left; (focus ((try simp only [Kr.PT]); first | done | rfl))); clear hK K
      refine Kr.seqDoneW ?_
      by_cases hbig : 16384 < n
      · have C5 : decide ((16384 : Int) < (n : Int)) = true := decide_eq_true (by omega)
        have HSS : Hid (Szd L (d + 1) n) := Lib.hid (by
          have h1 := HS.out; have h2 := HFL.out; have h3 := HEE.out
          refine ⟨fun h => ?_, fun _ => hbig, h1.2.2⟩
          have := h1.1 (by omega); omega)
        clear hbig
        go_upto_region 10 with fail
        refine Kr.seqStartW ?_
        (refine Kr.seqQ (v := ?_) (a' := ?_) (by rfl) ?_ ?_ ?_; rotate_left 2; (focus (go_simp; first | done | rfl)); (focus ((try simp only [Kr.PT]); first | done | rfl)))
        (refine Kr.seqQ (v := .bool true) (a' := ?_) (by rfl) ?_ ?_ ?_; rotate_left 1; (focus (exact Kr.valOf rfl (gtrI C5))); (focus ((try simp only [Kr.PT]); first | done | rfl)))
        refine Kr.seqDoneW ?_
        go_upto_region 13 with fail
        refine Kr.seqStartW ?_
        (refine Kr.seqQ (v := ?_) (a' := ?_) (by rfl) ?_ ?_ ?_; rotate_left 2; (focus (go_simp; first | done | rfl)); (focus ((try simp only [Kr.PT]); first | done | rfl)))
        (refine Kr.seqQ (v := ?_) (a' := ?_) (by rfl) ?_ ?_ ?_; rotate_left 2; (focus (go_simp; first | done | rfl)); (focus ((try simp only [Kr.PT]); first | done | rfl)))
        refine Kr.seqDoneW ?_
        have hk := trivial
        go_wp2
        refine bodyPost_ret (v := .int .i64 (n : Int)) (by simp [results, Tryd.results52, go_sem, hk]) rfl ⟨n, rfl, HSS.out, H.g⟩
      · have C5 : decide ((16384 : Int) < (n : Int)) = false := decide_eq_false (by omega)
        go_upto_region 10 with fail
        refine Kr.seqStartW ?_
        (refine Kr.seqQ (v := ?_) (a' := ?_) (by rfl) ?_ ?_ ?_; rotate_left 2; (focus (go_simp; first | done | rfl)); (focus ((try simp only [Kr.PT]); first | done | rfl)))
        (refine Kr.seqQ (v := .bool false) (a' := ?_) (by rfl) ?_ ?_ ?_; rotate_left 1; (focus (exact Kr.valOf rfl (gtrI C5))); (focus ((try simp only [Kr.PT]); first | done | rfl)))
        refine Kr.seqDoneW ?_
        go_upto_region 11 with fail
        refine Kr.seqStartW ?_
        (refine Kr.seqQ (v := ?_) (a' := ?_) (by rfl) ?_ ?_ ?_; rotate_left 2; (focus (go_simp; first | done | rfl)); (focus ((try simp only [Kr.PT]); first | done | rfl)))
        (refine Kr.seqQ (v := .agg #[v0, v1, v2, v3]) (a' := ?_) (by rfl) ?_ ?_ ?_; rotate_left 1; (focus (exact Kr.valOf rfl (ldI (H.at 0 rfl)))); (focus ((try simp only [Kr.PT]); first | done | rfl)))
        refine Kr.seqR (by rfl) (fun K hK => ?_)
        go_simp
        go_at_call 52
        refine (ih d rfl (w := y3) (HCH.out.grow H.g) HVX.out).mono ?_
        rintro e y4 ⟨m, rfl, hm, hg⟩
        replace H := H.grow hg
        clear hg
        have hmb := hm.2.2; have HM := Lib.hid hm; clear hm
        obtain ⟨n2, hn2⟩ : ∃ z, n + m = z := ⟨_, rfl⟩; have hadd : IntKind.i64.wrap ((n : Int) + (m : Int)) = (n2 : Int) := wrap_nat (by omega) (by have := HD8.out; omega)
        (refine Kr.outS hK (a' := ?_) ?_ ?_; rotate_left; (focus ((try simp only [Kr.PT]); first | done | rfl))); clear hK K
        (refine Kr.seqQ (v := .int .i64 (n2 : Int)) (a' := ?_) (by rfl) ?_ ?_ ?_; rotate_left 1; (focus (exact Kr.valOf rfl (addI hadd))); (focus ((try simp only [Kr.PT]); first | done | rfl)))
        (refine Kr.seqQ (v := ?_) (a' := ?_) (by rfl) ?_ ?_ ?_; rotate_left 2; (focus (go_simp; first | done | rfl)); (focus ((try simp only [Kr.PT]); first | done | rfl)))
        refine Kr.seqDoneW ?_
        have HS2 : Hid (Szd (5 + (fl d t.l (j + 1)).length) (d + 1) n2) := Lib.hid (by
          have h1 := HS.out; have h2 := HM.out; have h3 := HFS.out
          rw [h3, List.length_append]
          unfold Szd at *
          refine ⟨fun h => ?_, fun h => ?_, by omega⟩
          · have a1 := h1.1 (by omega); have a2 := h2.1 (by omega); omega
          · by_cases h5 : (enc d x).length ≤ 16384
            · have a2 := h2.1 h5
              by_cases h6 : 5 + (fl d t.l j).length ≤ 16384
              · have a1 := h1.1 h6; omega
              · have a1 := h1.2.1 (by omega); omega
            · have a2 := h2.2.1 (by omega); omega)
        replace H := H.drop 1; dsimp only [List.drop] at H
        have HADD : IntKind.i64.wrap ((j : Int) + 1) = ((j + 1 : Nat) : Int) := wrap_nat (by omega) (by omega)
        go_upto_region 12 with fail
        refine Kr.seqStartW ?_
        (refine Kr.seqQ (v := .int .i64 ((j + 1 : Nat) : Int)) (a' := ?_) (by rfl) ?_ ?_ ?_; rotate_left 1; (focus (exact Kr.valOf rfl (addI HADD))); (focus ((try simp only [Kr.PT]); first | done | rfl)))
        (refine Kr.seqQ (v := ?_) (a' := ?_) (by rfl) ?_ ?_ ?_; rotate_left 2; (focus (go_simp; first | done | rfl)); (focus ((try simp only [Kr.PT]); first | done | rfl)))
        refine Kr.seqDoneW ?_
        go_wp2; go_roundw
        case rel =>
          first
          | exact ⟨j + 1, n2, by omega, rfl, rfl, HS2, Lib.hid H⟩
          | (repeat apply Exists.intro); exact ⟨⟨j + 1, n2, by omega, rfl, rfl, HS2, Lib.hid H⟩, rfl⟩
          | (repeat apply Exists.intro); refine ⟨⟨j + 1, n2, by omega, rfl, rfl, HS2, Lib.hid H⟩, ?_⟩; refine ⟨?_, ?_⟩ <;> (repeat apply And.intro) <;> rfl
        case measure => simp [intOf]; omega
theorem size_v : ∀ (d : Nat), d ≤ 8 → ∀ {k : Nat} {F : Nat → Prop} {v : Value} {t : It} {w : World}, ItV w k F v t → vld d t = true → Calls Tryd.prog 52 #[v] w fun o w' => ∃ m : Nat, o = .returned (.int .i64 (m : Int)) ∧ Szd (enc d t).length d m ∧ Gr w w'
  | 0, h, _, _, _, _, _, h1, h2 => size_step h (fun e he => by omega) h1 h2
  | d + 1, h, _, _, _, _, _, h1, h2 => size_step h (fun e he => by
      obtain rfl : e = d := by omega
      exact size_v e (by omega)) h1 h2

set_option linter.unusedSimpArgs false in
set_option maxRecDepth 100000 in
set_option maxHeartbeats 16000000 in
theorem Encode_bad {k : Nat} {F : Nat → Prop} {v : Value} {t : It} {w : World} (hI : ItV w k F v t) (hv : vld 8 t = false) :
    Calls Tryd.prog 40 #[v] w fun e w' => e = .returned (.tuple #[.slice none 0 0, .int .i64 1]) ∧ Gr w w' := by
  have hI0 := hI
  obtain ⟨k0, rfl⟩ : ∃ k0, k = k0 + 1 := by cases k with
    | zero => exact hI.elim
    | succ k0 => exact ⟨k0, rfl⟩
  obtain ⟨pb, cb, pl, cl, hv, hk1, hn1, hpb, hcb, hbl, hll, hB, hL⟩ := hI; subst hv
  obtain ⟨tk, htk⟩ : ∃ z, t.k = z := ⟨_, rfl⟩; obtain ⟨tn, htn⟩ : ∃ z, t.n = z := ⟨_, rfl⟩; obtain ⟨bl, hbl2⟩ : ∃ z, t.b.length = z := ⟨_, rfl⟩; obtain ⟨ll, hll2⟩ : ∃ z, t.l.length = z := ⟨_, rfl⟩
  rw [htk] at hk1; rw [htn] at hn1; rw [hbl2] at hcb hbl; rw [hll2] at hll; have HTK := Lib.hid htk; have HTN := Lib.hid htn; have HBL := Lib.hid hbl2; have HLL := Lib.hid hll2; have HBB := Lib.hid hB; have HLS := Lib.hid hL; have HPB := Lib.hid hpb; have HI1 := Lib.hid hk1; have HI2 := Lib.hid hn1; rw [htk, htn, hbl2, hll2]; clear htk htn hbl2 hll2 hB hL hpb hk1 hn1
  have hI1 : ItV w (k0 + 1) F (.agg #[.int .i64 tk, .int .i64 tn, .slice pb bl cb, .slice pl ll cl]) t := by rw [HTK.out, HTN.out, HBL.out, HLL.out] at hI0; exact hI0
  have HI := Lib.hid hI1; clear hI0 hI1
  have HV := Lib.hid hv; clear hv
  have H := Ow.start w
  go_enter Tryd.func40, Tryd.ntmps40
  go_upto_region 0 with fail
  refine Kr.seqStartW ?_
  refine Kr.seqR (by rfl) (fun K hK => ?_)
  refine wp_runV rfl boxI ?_
  obtain ⟨y1, hy⟩ : ∃ y, w.alloc (.cells ([.int .i64 tk, .int .i64 tn, .slice pb bl cb, .slice pl ll cl]).toArray 49) = y := ⟨_, rfl⟩
  obtain ⟨ba, hb⟩ : ∃ b, w.heap.size = b := ⟨_, rfl⟩
  rw [hy, hb]
  have hg : Gr w y1 := hy ▸ (Gr.refl _).alloc _
  replace H := H.alloc hy hb
  clear hy hb hg
  (refine Kr.outS hK (a' := ?_) ?_ ?_; rotate_left; (focus ((try simp only [Kr.PT]); first | done | rfl))); clear hK K
  (refine Kr.seqQ (v := ?_) (a' := ?_) (by rfl) ?_ ?_ ?_; rotate_left 2; (focus (go_simp; first | done | rfl)); (focus ((try simp only [Kr.PT]); first | done | rfl)))
  (refine Kr.seqQ (v := ?_) (a' := ?_) (by rfl) ?_ ?_ ?_; rotate_left 2; (focus (go_simp; first | done | rfl)); (focus ((try simp only [Kr.PT]); first | done | rfl)))
  refine Kr.seqDoneW ?_
  go_upto_region 1 with fail
  refine Kr.seqStartW ?_
  (refine Kr.seqQ (v := .agg #[.int .i64 tk, .int .i64 tn, .slice pb bl cb, .slice pl ll cl]) (a' := ?_) (by rfl) ?_ ?_ ?_; rotate_left 1; (focus (exact Kr.valOf rfl (ldI (H.at 0 rfl)))); (focus ((try simp only [Kr.PT]); first | done | rfl)))
  refine Kr.seqR (by rfl) (fun K hK => ?_)
  go_simp
  go_at_call 51
  have hP := Valid_v (w := y1) (HI.out.grow H.g); rw [HV.out] at hP
  refine (hP).mono ?_
  rintro e y2 ⟨rfl, hg⟩
  replace H := H.grow hg
  clear hg
  clear hP
  (refine Kr.outS hK (a' := ?_) ?_ ?_; rotate_left; (focus ((try simp only [Kr.PT]); first | done | rfl))); clear hK K
  (refine Kr.seqQ (v := ?_) (a' := ?_) (by rfl) ?_ ?_ ?_; rotate_left 2; (focus (go_simp; first | done | rfl)); (focus ((try simp only [Kr.PT]); first | done | rfl)))
  (refine Kr.seqQ (v := ?_) (a' := ?_) (by rfl) ?_ ?_ ?_; rotate_left 2; (focus (go_simp; first | done | rfl)); (focus ((try simp only [Kr.PT]); first | done | rfl)))
  refine Kr.seqDoneW ?_
  go_upto_region 2 with fail
  refine Kr.seqStartW ?_
  (refine Kr.seqQ (v := ?_) (a' := ?_) (by rfl) ?_ ?_ ?_; rotate_left 2; (focus (go_simp; first | done | rfl)); (focus ((try simp only [Kr.PT]); first | done | rfl)))
  (refine Kr.seqQ (v := ?_) (a' := ?_) (by rfl) ?_ ?_ ?_; rotate_left 2; (focus (go_simp; first | done | rfl)); (focus ((try simp only [Kr.PT]); first | done | rfl)))
  refine Kr.seqDoneW ?_
  have hk := trivial
  go_wp2
  refine bodyPost_ret (v := .tuple #[.slice none 0 0, .int .i64 1]) (by simp [results, Tryd.results40, go_sem, hk]) rfl ⟨rfl, H.g⟩
set_option linter.unusedSimpArgs false in
set_option maxRecDepth 100000 in
set_option maxHeartbeats 16000000 in
theorem Encode_big {k : Nat} {F : Nat → Prop} {v : Value} {t : It} {w : World} (hI : ItV w k F v t) (hv : vld 8 t = true) (hL16 : 16384 < (enc 8 t).length) :
    Calls Tryd.prog 40 #[v] w fun e w' => e = .returned (.tuple #[.slice none 0 0, .int .i64 5]) ∧ Gr w w' := by
  have hI0 := hI
  obtain ⟨k0, rfl⟩ : ∃ k0, k = k0 + 1 := by cases k with
    | zero => exact hI.elim
    | succ k0 => exact ⟨k0, rfl⟩
  obtain ⟨pb, cb, pl, cl, hv, hk1, hn1, hpb, hcb, hbl, hll, hB, hL⟩ := hI; subst hv
  obtain ⟨tk, htk⟩ : ∃ z, t.k = z := ⟨_, rfl⟩; obtain ⟨tn, htn⟩ : ∃ z, t.n = z := ⟨_, rfl⟩; obtain ⟨bl, hbl2⟩ : ∃ z, t.b.length = z := ⟨_, rfl⟩; obtain ⟨ll, hll2⟩ : ∃ z, t.l.length = z := ⟨_, rfl⟩
  rw [htk] at hk1; rw [htn] at hn1; rw [hbl2] at hcb hbl; rw [hll2] at hll; have HTK := Lib.hid htk; have HTN := Lib.hid htn; have HBL := Lib.hid hbl2; have HLL := Lib.hid hll2; have HBB := Lib.hid hB; have HLS := Lib.hid hL; have HPB := Lib.hid hpb; have HI1 := Lib.hid hk1; have HI2 := Lib.hid hn1; rw [htk, htn, hbl2, hll2]; clear htk htn hbl2 hll2 hB hL hpb hk1 hn1
  have hI1 : ItV w (k0 + 1) F (.agg #[.int .i64 tk, .int .i64 tn, .slice pb bl cb, .slice pl ll cl]) t := by rw [HTK.out, HTN.out, HBL.out, HLL.out] at hI0; exact hI0
  have HI := Lib.hid hI1; clear hI0 hI1
  have HV := Lib.hid hv; clear hv
  obtain ⟨L, hLn⟩ : ∃ z, (enc 8 t).length = z := ⟨_, rfl⟩; rw [hLn] at hL16; have HLN := Lib.hid hLn; clear hLn
  have H := Ow.start w
  go_enter Tryd.func40, Tryd.ntmps40
  go_upto_region 0 with fail
  refine Kr.seqStartW ?_
  refine Kr.seqR (by rfl) (fun K hK => ?_)
  refine wp_runV rfl boxI ?_
  obtain ⟨y1, hy⟩ : ∃ y, w.alloc (.cells ([.int .i64 tk, .int .i64 tn, .slice pb bl cb, .slice pl ll cl]).toArray 49) = y := ⟨_, rfl⟩
  obtain ⟨ba, hb⟩ : ∃ b, w.heap.size = b := ⟨_, rfl⟩
  rw [hy, hb]
  have hg : Gr w y1 := hy ▸ (Gr.refl _).alloc _
  replace H := H.alloc hy hb
  clear hy hb hg
  (refine Kr.outS hK (a' := ?_) ?_ ?_; rotate_left; (focus ((try simp only [Kr.PT]); first | done | rfl))); clear hK K
  (refine Kr.seqQ (v := ?_) (a' := ?_) (by rfl) ?_ ?_ ?_; rotate_left 2; (focus (go_simp; first | done | rfl)); (focus ((try simp only [Kr.PT]); first | done | rfl)))
  (refine Kr.seqQ (v := ?_) (a' := ?_) (by rfl) ?_ ?_ ?_; rotate_left 2; (focus (go_simp; first | done | rfl)); (focus ((try simp only [Kr.PT]); first | done | rfl)))
  refine Kr.seqDoneW ?_
  go_upto_region 1 with fail
  refine Kr.seqStartW ?_
  (refine Kr.seqQ (v := .agg #[.int .i64 tk, .int .i64 tn, .slice pb bl cb, .slice pl ll cl]) (a' := ?_) (by rfl) ?_ ?_ ?_; rotate_left 1; (focus (exact Kr.valOf rfl (ldI (H.at 0 rfl)))); (focus ((try simp only [Kr.PT]); first | done | rfl)))
  refine Kr.seqR (by rfl) (fun K hK => ?_)
  go_simp
  go_at_call 51
  have hP := Valid_v (w := y1) (HI.out.grow H.g); rw [HV.out] at hP
  refine (hP).mono ?_
  rintro e y2 ⟨rfl, hg⟩
  replace H := H.grow hg
  clear hg
  clear hP
  (refine Kr.outS hK (a' := ?_) ?_ ?_; rotate_left; (focus ((try simp only [Kr.PT]); first | done | rfl))); clear hK K
  (refine Kr.seqQ (v := ?_) (a' := ?_) (by rfl) ?_ ?_ ?_; rotate_left 2; (focus (go_simp; first | done | rfl)); (focus ((try simp only [Kr.PT]); first | done | rfl)))
  (refine Kr.seqQ (v := ?_) (a' := ?_) (by rfl) ?_ ?_ ?_; rotate_left 2; (focus (go_simp; first | done | rfl)); (focus ((try simp only [Kr.PT]); first | done | rfl)))
  refine Kr.seqDoneW ?_
  go_upto_region 3 with fail
  refine Kr.seqStartW ?_
  (refine Kr.seqQ (v := .agg #[.int .i64 tk, .int .i64 tn, .slice pb bl cb, .slice pl ll cl]) (a' := ?_) (by rfl) ?_ ?_ ?_; rotate_left 1; (focus (exact Kr.valOf rfl (ldI (H.at 0 rfl)))); (focus ((try simp only [Kr.PT]); first | done | rfl)))
  refine Kr.seqR (by rfl) (fun K hK => ?_)
  go_simp
  go_at_call 52
  refine (size_v 8 (Nat.le_refl _) (w := y2) (HI.out.grow H.g) HV.out).mono ?_
  rintro e y3 ⟨m, rfl, hm, hg⟩
  replace H := H.grow hg
  rw [HLN.out] at hm; clear hg
  have hm2 := hm.2.1 hL16; clear hm
  have C1 : decide ((16384 : Int) < (m : Int)) = true := decide_eq_true (by omega)
  clear hm2
  (refine Kr.outS hK (a' := ?_) ?_ ?_; rotate_left; (focus ((try simp only [Kr.PT]); first | done | rfl))); clear hK K
  (refine Kr.seqQ (v := .bool true) (a' := ?_) (by rfl) ?_ ?_ ?_; rotate_left 1; (focus (exact Kr.valOf rfl (gtrI C1))); (focus ((try simp only [Kr.PT]); first | done | rfl)))
  (refine Kr.seqQ (v := ?_) (a' := ?_) (by rfl) ?_ ?_ ?_; rotate_left 2; (focus (go_simp; first | done | rfl)); (focus ((try simp only [Kr.PT]); first | done | rfl)))
  refine Kr.seqDoneW ?_
  go_upto_region 4 with fail
  refine Kr.seqStartW ?_
  (refine Kr.seqQ (v := ?_) (a' := ?_) (by rfl) ?_ ?_ ?_; rotate_left 2; (focus (go_simp; first | done | rfl)); (focus ((try simp only [Kr.PT]); first | done | rfl)))
  (refine Kr.seqQ (v := ?_) (a' := ?_) (by rfl) ?_ ?_ ?_; rotate_left 2; (focus (go_simp; first | done | rfl)); (focus ((try simp only [Kr.PT]); first | done | rfl)))
  refine Kr.seqDoneW ?_
  have hk := trivial
  go_wp2
  refine bodyPost_ret (v := .tuple #[.slice none 0 0, .int .i64 5]) (by simp [results, Tryd.results40, go_sem, hk]) rfl ⟨rfl, H.g⟩
set_option linter.unusedSimpArgs false in
set_option maxRecDepth 100000 in
set_option maxHeartbeats 16000000 in
theorem Encode_ok {k : Nat} {F : Nat → Prop} {v : Value} {t : It} {w : World} (hI : ItV w k F v t) (hv : vld 8 t = true) (hL16 : (enc 8 t).length ≤ 16384) :
    Calls Tryd.prog 40 #[v] w fun e w' => ∃ p c, e = .returned (.tuple #[.slice p (enc 8 t).length c, .int .i64 0]) ∧ RowG 5 w.heap.size (.slice p (enc 8 t).length c) ((enc 8 t).map w8) w' ∧ Gr w w' := by
  have hI0 := hI
  obtain ⟨k0, rfl⟩ : ∃ k0, k = k0 + 1 := by cases k with
    | zero => exact hI.elim
    | succ k0 => exact ⟨k0, rfl⟩
  obtain ⟨pb, cb, pl, cl, hv, hk1, hn1, hpb, hcb, hbl, hll, hB, hL⟩ := hI; subst hv
  obtain ⟨tk, htk⟩ : ∃ z, t.k = z := ⟨_, rfl⟩; obtain ⟨tn, htn⟩ : ∃ z, t.n = z := ⟨_, rfl⟩; obtain ⟨bl, hbl2⟩ : ∃ z, t.b.length = z := ⟨_, rfl⟩; obtain ⟨ll, hll2⟩ : ∃ z, t.l.length = z := ⟨_, rfl⟩
  rw [htk] at hk1; rw [htn] at hn1; rw [hbl2] at hcb hbl; rw [hll2] at hll; have HTK := Lib.hid htk; have HTN := Lib.hid htn; have HBL := Lib.hid hbl2; have HLL := Lib.hid hll2; have HBB := Lib.hid hB; have HLS := Lib.hid hL; have HPB := Lib.hid hpb; have HI1 := Lib.hid hk1; have HI2 := Lib.hid hn1; rw [htk, htn, hbl2, hll2]; clear htk htn hbl2 hll2 hB hL hpb hk1 hn1
  have hI1 : ItV w (k0 + 1) F (.agg #[.int .i64 tk, .int .i64 tn, .slice pb bl cb, .slice pl ll cl]) t := by rw [HTK.out, HTN.out, HBL.out, HLL.out] at hI0; exact hI0
  have HI := Lib.hid hI1; clear hI0 hI1
  have HV := Lib.hid hv; clear hv
  obtain ⟨L, hLn⟩ : ∃ z, (enc 8 t).length = z := ⟨_, rfl⟩; rw [hLn] at hL16 ⊢; have HLN := Lib.hid hLn; clear hLn
  have H := Ow.start w
  go_enter Tryd.func40, Tryd.ntmps40
  go_upto_region 0 with fail
  refine Kr.seqStartW ?_
  refine Kr.seqR (by rfl) (fun K hK => ?_)
  refine wp_runV rfl boxI ?_
  obtain ⟨y1, hy⟩ : ∃ y, w.alloc (.cells ([.int .i64 tk, .int .i64 tn, .slice pb bl cb, .slice pl ll cl]).toArray 49) = y := ⟨_, rfl⟩
  obtain ⟨ba, hb⟩ : ∃ b, w.heap.size = b := ⟨_, rfl⟩
  rw [hy, hb]
  have hg : Gr w y1 := hy ▸ (Gr.refl _).alloc _
  replace H := H.alloc hy hb
  clear hy hb hg
  (refine Kr.outS hK (a' := ?_) ?_ ?_; rotate_left; (focus ((try simp only [Kr.PT]); first | done | rfl))); clear hK K
  (refine Kr.seqQ (v := ?_) (a' := ?_) (by rfl) ?_ ?_ ?_; rotate_left 2; (focus (go_simp; first | done | rfl)); (focus ((try simp only [Kr.PT]); first | done | rfl)))
  (refine Kr.seqQ (v := ?_) (a' := ?_) (by rfl) ?_ ?_ ?_; rotate_left 2; (focus (go_simp; first | done | rfl)); (focus ((try simp only [Kr.PT]); first | done | rfl)))
  refine Kr.seqDoneW ?_
  go_upto_region 1 with fail
  refine Kr.seqStartW ?_
  (refine Kr.seqQ (v := .agg #[.int .i64 tk, .int .i64 tn, .slice pb bl cb, .slice pl ll cl]) (a' := ?_) (by rfl) ?_ ?_ ?_; rotate_left 1; (focus (exact Kr.valOf rfl (ldI (H.at 0 rfl)))); (focus ((try simp only [Kr.PT]); first | done | rfl)))
  refine Kr.seqR (by rfl) (fun K hK => ?_)
  go_simp
  go_at_call 51
  have hP := Valid_v (w := y1) (HI.out.grow H.g); rw [HV.out] at hP
  refine (hP).mono ?_
  rintro e y2 ⟨rfl, hg⟩
  replace H := H.grow hg
  clear hg
  clear hP
  (refine Kr.outS hK (a' := ?_) ?_ ?_; rotate_left; (focus ((try simp only [Kr.PT]); first | done | rfl))); clear hK K
  (refine Kr.seqQ (v := ?_) (a' := ?_) (by rfl) ?_ ?_ ?_; rotate_left 2; (focus (go_simp; first | done | rfl)); (focus ((try simp only [Kr.PT]); first | done | rfl)))
  (refine Kr.seqQ (v := ?_) (a' := ?_) (by rfl) ?_ ?_ ?_; rotate_left 2; (focus (go_simp; first | done | rfl)); (focus ((try simp only [Kr.PT]); first | done | rfl)))
  refine Kr.seqDoneW ?_
  go_upto_region 3 with fail
  refine Kr.seqStartW ?_
  (refine Kr.seqQ (v := .agg #[.int .i64 tk, .int .i64 tn, .slice pb bl cb, .slice pl ll cl]) (a' := ?_) (by rfl) ?_ ?_ ?_; rotate_left 1; (focus (exact Kr.valOf rfl (ldI (H.at 0 rfl)))); (focus ((try simp only [Kr.PT]); first | done | rfl)))
  refine Kr.seqR (by rfl) (fun K hK => ?_)
  go_simp
  go_at_call 52
  refine (size_v 8 (Nat.le_refl _) (w := y2) (HI.out.grow H.g) HV.out).mono ?_
  rintro e y3 ⟨m, rfl, hm, hg⟩
  replace H := H.grow hg
  rw [HLN.out] at hm; clear hg
  have hm2 := hm.1 hL16; clear hm
  have C1 : decide ((16384 : Int) < (m : Int)) = false := decide_eq_false (by omega)
  clear hm2
  (refine Kr.outS hK (a' := ?_) ?_ ?_; rotate_left; (focus ((try simp only [Kr.PT]); first | done | rfl))); clear hK K
  (refine Kr.seqQ (v := .bool false) (a' := ?_) (by rfl) ?_ ?_ ?_; rotate_left 1; (focus (exact Kr.valOf rfl (gtrI C1))); (focus ((try simp only [Kr.PT]); first | done | rfl)))
  (refine Kr.seqQ (v := ?_) (a' := ?_) (by rfl) ?_ ?_ ?_; rotate_left 2; (focus (go_simp; first | done | rfl)); (focus ((try simp only [Kr.PT]); first | done | rfl)))
  refine Kr.seqDoneW ?_
  go_upto_region 5 with fail
  refine Kr.seqStartW ?_
  (refine Kr.seqQ (v := .agg #[.int .i64 tk, .int .i64 tn, .slice pb bl cb, .slice pl ll cl]) (a' := ?_) (by rfl) ?_ ?_ ?_; rotate_left 1; (focus (exact Kr.valOf rfl (ldI (H.at 0 rfl)))); (focus ((try simp only [Kr.PT]); first | done | rfl)))
  refine Kr.seqR (by rfl) (fun K hK => ?_)
  go_simp
  go_at_call 53
  refine (write_v 8 (Ow.start y3) (RowG.nil 5 _ _) (Apt.none _) (HI.out.grow H.g) HV.out (by rw [HLN.out]; show 0 + L ≤ _; omega)).mono ?_
  rintro e y4 ⟨v2, rfl, hR, hA, hO⟩
  rw [List.nil_append] at hR; obtain ⟨p, c, hsl⟩ := slice_of hR; rw [List.length_map, HLN.out] at hsl; subst hsl
  have HR := Lib.hid (rowG_low H.g.le hR); have hg := hO.g; clear hR hA hO
  replace H := H.grow hg
  clear hg
  (refine Kr.outS hK (a' := ?_) ?_ ?_; rotate_left; (focus ((try simp only [Kr.PT]); first | done | rfl))); clear hK K
  (refine Kr.seqQ (v := ?_) (a' := ?_) (by rfl) ?_ ?_ ?_; rotate_left 2; (focus (go_simp; first | done | rfl)); (focus ((try simp only [Kr.PT]); first | done | rfl)))
  (refine Kr.seqQ (v := ?_) (a' := ?_) (by rfl) ?_ ?_ ?_; rotate_left 2; (focus (go_simp; first | done | rfl)); (focus ((try simp only [Kr.PT]); first | done | rfl)))
  refine Kr.seqDoneW ?_
  have hk := trivial
  go_wp2
  refine bodyPost_ret (v := .tuple #[.slice p L c, .int .i64 0]) (by simp [results, Tryd.results40, go_sem, hk]) rfl ⟨p, c, rfl, HR.out, H.g⟩
end Go.Proofs.YtldgjhmefaapeaaDoor.Dg
