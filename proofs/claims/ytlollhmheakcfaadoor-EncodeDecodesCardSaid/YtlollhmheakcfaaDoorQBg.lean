/- writeText, Text. -/
import Derived.Test.YtlollhmheakcfaaDoorQBf
import Derived.Deep.Cut
namespace Go.Proofs.YtlollhmheakcfaaDoor.Dg
open Go Go.RowKit Go.Proofs.YtlollhmheakcfaaDoor.Ne Go.Proofs.YtlollhmheakcfaaDoor.Kr

set_option linter.unusedSimpArgs false in
set_option maxRecDepth 100000 in
set_option maxHeartbeats 16000000 in
theorem wtext_step {d : Nat} (ih : ∀ e, e + 1 = d → ∀ {w0 w : World} {rs : List Blk} {v : Value} {r : List Value} {k : Nat} {F : Nat → Prop} {val : Value} {t : It} (_ : Ow w0 w rs) (_ : RowG 5 w0.heap.size v r w) (_ : Apt v rs) (_ : ∀ x ∈ rs, x.2.1 ≠ 5) (_ : Tab w0) (_ : ItV w0 k F val t) (_ : vld e t = true) (_ : r.length + (txt e t).length ≤ 99999900), Calls Tryd.prog 43 #[v, val] w fun o w' => ∃ v2, o = .returned v2 ∧ RowG 5 w0.heap.size v2 (r ++ (txt e t).map w8) w' ∧ Apt v2 rs ∧ Ow w0 w' rs)
    {w0 w : World} {rs : List Blk} {v : Value} {r : List Value} {k : Nat} {F : Nat → Prop} {val : Value} {t : It} (H : Ow w0 w rs) (HR : RowG 5 w0.heap.size v r w) (HA : Apt v rs) (hrs : ∀ x ∈ rs, x.2.1 ≠ 5) (hT : Tab w0) (hI : ItV w0 k F val t) (hv : vld d t = true) (hb : r.length + (txt d t).length ≤ 99999900) :
    Calls Tryd.prog 43 #[v, val] w fun e w' => ∃ v2, e = .returned v2 ∧ RowG 5 w0.heap.size v2 (r ++ (txt d t).map w8) w' ∧ Apt v2 rs ∧ Ow w0 w' rs := by
  obtain ⟨k0, rfl⟩ : ∃ k0, k = k0 + 1 := by cases k with
    | zero => exact hI.elim
    | succ k0 => exact ⟨k0, rfl⟩
  obtain ⟨pb, cb, pl, cl, hv, hk1, hn1, hpb, hcb, hbl, hll, hB, hL⟩ := hI; subst hv
  obtain ⟨tk, htk⟩ : ∃ z, t.k = z := ⟨_, rfl⟩; obtain ⟨tn, htn⟩ : ∃ z, t.n = z := ⟨_, rfl⟩; obtain ⟨bl, hbl2⟩ : ∃ z, t.b.length = z := ⟨_, rfl⟩; obtain ⟨ll, hll2⟩ : ∃ z, t.l.length = z := ⟨_, rfl⟩
  rw [htk] at hk1; rw [htn] at hn1; rw [hbl2] at hcb hbl; rw [hll2] at hll; have HTK := Lib.hid htk; have HTN := Lib.hid htn; have HBL := Lib.hid hbl2; have HLL := Lib.hid hll2; have HBB := Lib.hid hB; have HLS := Lib.hid hL; have HPB := Lib.hid hpb; have HI1 := Lib.hid hk1; have HI2 := Lib.hid hn1; rw [htk, htn, hbl2, hll2]; clear htk htn hbl2 hll2 hB hL hpb hk1 hn1
  replace HR := Lib.hid HR; have HVC := Lib.hid (vld_cases hv); have HTAB := Lib.hid hT; clear hT
  obtain ⟨E, hE⟩ : ∃ z, txt d t = z := ⟨_, rfl⟩; rw [hE] at hb ⊢; have HE := Lib.hid hE; clear hE hv
  have hrs2 : ∀ T (b : Nat) (l : List Value), T ≠ 5 → ∀ x ∈ (b, T, l) :: rs, x.2.1 ≠ 5 := fun T b l hT x hx => by
    rcases List.mem_cons.1 hx with rfl | hx
    · exact hT
    · exact hrs x hx
  have HRS := Lib.hid hrs2; have HRS0 := Lib.hid hrs; clear hrs2 hrs
  go_enter Tryd.func43, Tryd.ntmps43
  go_upto_region 0 with fail
  refine Kr.seqStartW ?_
  refine Kr.seqR (by rfl) (fun K hK => ?_)
  refine wp_runV rfl boxI ?_
  obtain ⟨y1, hy⟩ : ∃ y, w.alloc (.cells ([.int .i64 tk, .int .i64 tn, .slice pb bl cb, .slice pl ll cl]).toArray 25) = y := ⟨_, rfl⟩
  obtain ⟨ba, hb⟩ : ∃ b, w.heap.size = b := ⟨_, rfl⟩
  rw [hy, hb]
  replace HA := apt_new (T2 := 25) (l := [.int .i64 tk, .int .i64 tn, .slice pb bl cb, .slice pl ll cl]) HR.out HA hb
  have hg : Gr w y1 := hy ▸ (Gr.refl _).alloc _
  replace H := H.alloc hy hb
  replace HR := Lib.hid (HR.out.grow hg)
  clear hy hb hg
  (refine Kr.outS hK (a' := ?_) ?_ ?_; rotate_left; (focus ((try simp only [Kr.PT]); first | done | rfl))); clear hK K
  (refine Kr.seqQ (v := ?_) (a' := ?_) (by rfl) ?_ ?_ ?_; rotate_left 2; (focus (go_simp; first | done | rfl)); (focus ((try simp only [Kr.PT]); first | done | rfl)))
  refine Kr.seqDoneW ?_
  go_upto_region 1 with fail
  refine Kr.seqStartW ?_
  (refine Kr.seqQ (v := .pointer (some ⟨ba, 0, none⟩)) (a' := ?_) (by rfl) ?_ ?_ ?_; rotate_left 1; (focus (go_simp; first | done | rfl)); (focus ((try simp only [Kr.PT]); first | done | rfl)))
  (refine Kr.seqQ (v := .int .i64 tk) (a' := ?_) (by rfl) ?_ ?_ ?_; rotate_left 1; (focus (exact Kr.valOf rfl (ldInt (rowCell (j := 0) (H.at 0 rfl) rfl)))); (focus ((try simp only [Kr.PT]); first | done | rfl)))
  refine Kr.seqDoneW ?_
  by_cases k1 : tk = 1
  · have C1 : decide (tk = 1) = true := decide_eq_true (by exact k1)
    have hEE : E = itB tn := by rw [← HE.out, txt1 (HTK.out.trans k1) d, HTN.out]
    subst hEE; clear k1
    go_upto_region 2 with fail
    refine Kr.seqStartW ?_
    (refine Kr.seqQ (v := .bool true) (a' := ?_) (by rfl) ?_ ?_ ?_; rotate_left 1; (focus (exact Kr.valOf rfl (eqlI C1))); (focus ((try simp only [Kr.PT]); first | done | rfl)))
    (refine Kr.seqQ (v := ?_) (a' := ?_) (by rfl) ?_ ?_ ?_; rotate_left 2; (focus (go_simp; first | done | rfl)); (focus ((try simp only [Kr.PT]); first | done | rfl)))
    refine Kr.seqDoneW ?_
    go_upto_region 3 with fail
    refine Kr.seqStartW ?_
    (refine Kr.seqQ (v := ?_) (a' := ?_) (by rfl) ?_ ?_ ?_; rotate_left 2; (focus (go_simp; first | done | rfl)); (focus ((try simp only [Kr.PT]); first | done | rfl)))
    (refine Kr.seqQ (v := .pointer (some ⟨ba, 1, none⟩)) (a' := ?_) (by rfl) ?_ ?_ ?_; rotate_left 1; (focus (go_simp; first | done | rfl)); (focus ((try simp only [Kr.PT]); first | done | rfl)))
    (refine Kr.seqQ (v := .int .i64 tn) (a' := ?_) (by rfl) ?_ ?_ ?_; rotate_left 1; (focus (exact Kr.valOf rfl (ldInt (rowCell (j := 1) (H.at 0 rfl) rfl)))); (focus ((try simp only [Kr.PT]); first | done | rfl)))
    refine Kr.seqR (by rfl) (fun K hK => ?_)
    go_simp
    go_at_call 52
    refine (appendInt_v H HR.out (HRS.out _ _ _ (by decide)) HTAB.out HI2.out (by omega)).mono ?_
    rintro e y2 ⟨q3, rfl, hR3, hA3, H3⟩
    clear H HR HA; have H := H3; have HR := Lib.hid hR3; have HA := hA3; clear H3 hR3 hA3
    (refine Kr.outS hK (a' := ?_) ?_ ?_; rotate_left; (focus ((try simp only [Kr.PT]); first | done | rfl))); clear hK K
    (refine Kr.seqQ (v := ?_) (a' := ?_) (by rfl) ?_ ?_ ?_; rotate_left 2; (focus (go_simp; first | done | rfl)); (focus ((try simp only [Kr.PT]); first | done | rfl)))
    refine Kr.seqDoneW ?_
    replace HA := apt_tail HA; replace H := H.drop 1; dsimp only [List.drop] at H
    have hk := trivial
    go_wp2
    refine bodyPost_ret (v := q3) (by simp [results, Tryd.results43, go_sem, hk]) rfl ⟨_, rfl, HR.out, HA, H⟩
  by_cases k2 : tk = 2
  · have C1 : decide (tk = 1) = false := decide_eq_false (by exact k1)
    have C2 : decide (tk = 2) = true := decide_eq_true (by exact k2)
    have hEE : E = 120#8 :: hexL t.b := by rw [← HE.out, txt2 (HTK.out.trans k2) d]; rfl
    subst hEE; clear k1 k2; rw [List.length_cons, hexL_length, HBL.out] at hb
    go_upto_region 2 with fail
    refine Kr.seqStartW ?_
    (refine Kr.seqQ (v := .bool false) (a' := ?_) (by rfl) ?_ ?_ ?_; rotate_left 1; (focus (exact Kr.valOf rfl (eqlI C1))); (focus ((try simp only [Kr.PT]); first | done | rfl)))
    (refine Kr.seqQ (v := ?_) (a' := ?_) (by rfl) ?_ ?_ ?_; rotate_left 2; (focus (go_simp; first | done | rfl)); (focus ((try simp only [Kr.PT]); first | done | rfl)))
    refine Kr.seqDoneW ?_
    go_upto_region 4 with fail
    refine Kr.seqStartW ?_
    (refine Kr.seqQ (v := .bool true) (a' := ?_) (by rfl) ?_ ?_ ?_; rotate_left 1; (focus (exact Kr.valOf rfl (eqlI C2))); (focus ((try simp only [Kr.PT]); first | done | rfl)))
    (refine Kr.seqQ (v := ?_) (a' := ?_) (by rfl) ?_ ?_ ?_; rotate_left 2; (focus (go_simp; first | done | rfl)); (focus ((try simp only [Kr.PT]); first | done | rfl)))
    refine Kr.seqDoneW ?_
    go_upto_region 5 with fail
    refine Kr.seqStartW ?_
    (refine Kr.seqQ (v := ?_) (a' := ?_) (by rfl) ?_ ?_ ?_; rotate_left 2; (focus (go_simp; first | done | rfl)); (focus ((try simp only [Kr.PT]); first | done | rfl)))
    refine Kr.seqR (by rfl) (fun K hK => ?_)
    go_simp
    obtain ⟨y4, hy⟩ : ∃ y, y1.alloc (.cells #[.int .u8 120] 5) = y := ⟨_, rfl⟩
    obtain ⟨bone, hbn⟩ : ∃ b, y1.heap.size = b := ⟨_, rfl⟩
    rw [hy, hbn]
    have hy2 : y1.alloc (.cells ([.int .u8 120] : List Value).toArray 5) = y4 := hy
    have hg : Gr y1 y4 := hy ▸ (Gr.refl _).alloc _
    have HLIT := Lib.hid (hbn ▸ hy2 ▸ lit_src (W := y1) (T := 5) [.int .u8 120]); clear hy2
    replace H := H.grow hg
    replace HR := Lib.hid (HR.out.grow hg)
    clear hg hy hbn
    (refine Kr.outS hK (a' := ?_) ?_ ?_; rotate_left; (focus ((try simp only [Kr.PT]); first | done | rfl))); clear hK K
    refine Kr.seqR (by rfl) (fun K hK => ?_)
    refine wp_appG (T := 5) (TS := 22) Tryd.underlying22 info8 rfl (.tmp 19) (.tmp 20) rfl (v := v) (r := r) (d := [w8 120#8]) (p := (some ⟨bone, 0, none⟩)) (m := 1) (c := 1) (rs := ((ba, 25, [.int .i64 tk, .int .i64 tn, .slice pb bl cb, .slice pl ll cl]) :: rs)) rfl rfl (rfl) (HLIT.out) (one_lit8 [120#8]) (fun e => by cases e) H HR.out HA (by omega) (by decide) ?_
    intro q6 y5 H3 hR3 hA3
    clear H HR HA HLIT; have H := H3; have HR := Lib.hid hR3; have HA := hA3; clear H3 hR3 hA3
    (refine Kr.outS hK (a' := ?_) ?_ ?_; rotate_left; (focus ((try simp only [Kr.PT]); first | done | rfl))); clear hK K
    (refine Kr.seqQ (v := ?_) (a' := ?_) (by rfl) ?_ ?_ ?_; rotate_left 2; (focus (go_simp; first | done | rfl)); (focus ((try simp only [Kr.PT]); first | done | rfl)))
    refine Kr.seqDoneW ?_
    go_upto_region 6 with fail
    refine Kr.seqStartW ?_
    (refine Kr.seqQ (v := .pointer (some ⟨ba, 2, none⟩)) (a' := ?_) (by rfl) ?_ ?_ ?_; rotate_left 1; (focus (go_simp; first | done | rfl)); (focus ((try simp only [Kr.PT]); first | done | rfl)))
    (refine Kr.seqQ (v := .slice pb bl cb) (a' := ?_) (by rfl) ?_ ?_ ?_; rotate_left 1; (focus (exact Kr.valOf rfl (ldSl (rowCell (j := 2) (H.at 0 rfl) rfl)))); (focus ((try simp only [Kr.PT]); first | done | rfl)))
    (refine Kr.seqQ (v := .int .i64 (bl : Int)) (a' := ?_) (by rfl) ?_ ?_ ?_; rotate_left 1; (focus (exact Kr.valOf rfl ((by go_simp)))); (focus ((try simp only [Kr.PT]); first | done | rfl)))
    (refine Kr.seqQ (v := ?_) (a' := ?_) (by rfl) ?_ ?_ ?_; rotate_left 2; (focus (go_simp; first | done | rfl)); (focus ((try simp only [Kr.PT]); first | done | rfl)))
    refine Kr.seqDoneW ?_
    have h0 : r ++ [w8 120#8] = r ++ [w8 120#8] ++ (hexL (t.b.take 0)).map w8 := by rw [List.take_zero]; exact (List.append_nil _).symm
    rw [h0] at HR; clear h0 C1 C2
    have H2 := Lib.hid H; clear H
    go_wp2_with fail
    go_loopw [0, 25] (fun v iv wr => ∃ (j : Nat), j ≤ bl ∧ iv = .int .i64 (j : Int) ∧ Hid (RowG 5 w0.heap.size v (r ++ [w8 120#8] ++ (hexL (t.b.take j)).map w8) wr) ∧ Hid (Apt v ((ba, 25, [.int .i64 tk, .int .i64 tn, .slice pb bl cb, .slice pl ll cl]) :: rs)) ∧ Hid (Ow w0 wr ((ba, 25, [.int .i64 tk, .int .i64 tn, .slice pb bl cb, .slice pl ll cl]) :: rs))) (fun _ iv _ => (bl - (intOf iv).toNat))
    case atStart => exact ⟨0, by omega, rfl, HR, Lib.hid HA, H2⟩
    case round =>
      clear H2 HR HA; obtain ⟨j, hj, rfl, HR, HA, HH⟩ := hrel; have H := HH.out; replace HA := HA.out; clear HH
      by_cases hje : j = bl
      · have C4 : decide ((j : Int) < (bl : Int)) = false := decide_eq_false (by omega)
        rw [show t.b.take j = t.b from List.take_of_length_le (by rw [HBL.out]; omega)] at HR; clear hje
        go_upto_region 7 with fail
        refine Kr.seqStartW ?_
        (refine Kr.seqQ (v := .bool false) (a' := ?_) (by rfl) ?_ ?_ ?_; rotate_left 1; (focus (exact Kr.valOf rfl (lssT C4))); (focus ((try simp only [Kr.PT]); first | done | rfl)))
        refine Kr.seqDoneW ?_
        replace HA := apt_tail HA; replace H := H.drop 1; dsimp only [List.drop] at H
        have HR2 := Lib.hid (show RowG 5 w0.heap.size u0 (r ++ (120#8 :: hexL t.b).map w8) wr by have := HR.out; rwa [List.append_assoc] at this); clear HR
        go_upto_region 11 with fail
        refine Kr.seqStartW ?_
        (refine Kr.seqQ (v := ?_) (a' := ?_) (by rfl) ?_ ?_ ?_; rotate_left 2; (focus (go_simp; first | done | rfl)); (focus ((try simp only [Kr.PT]); first | done | rfl)))
        (refine Kr.seqQ (v := ?_) (a' := ?_) (by rfl) ?_ ?_ ?_; rotate_left 2; (focus (go_simp; first | done | rfl)); (focus ((try simp only [Kr.PT]); first | done | rfl)))
        refine Kr.seqDoneW ?_
        have hk := trivial
        go_wp2
        refine bodyPost_ret (v := u0) (by simp [results, Tryd.results43, go_sem, hk]) rfl ⟨_, rfl, HR2.out, HA, H⟩
      · have hjl : j < bl := by omega
        have C4 : decide ((j : Int) < (bl : Int)) = true := decide_eq_true (by omega)
        obtain ⟨x0, hx0⟩ : ∃ x, t.b[j]? = some x := ⟨_, List.getElem?_eq_getElem (by rw [HBL.out]; exact hjl)⟩
        obtain ⟨b, off, hpb, hbytes⟩ := src_some (src_item HBB.out) (by rw [HBL.out]; omega); subst hpb; have HC0 := Lib.hid (hbytes j x0 hx0); clear hbytes
        obtain ⟨q0, hq0⟩ : ∃ q, x0.toNat / 16 = q := ⟨_, rfl⟩
        obtain ⟨q1, hq1⟩ : ∃ q, x0.toNat % 16 = q := ⟨_, rfl⟩
        have hq0l : q0 < 16 := by have := x0.isLt; omega
        have hq1l : q1 < 16 := by omega
        obtain ⟨d0, hd0⟩ : ∃ d, dig q0 = d := ⟨_, rfl⟩
        obtain ⟨d1, hd1⟩ : ∃ d, dig q1 = d := ⟨_, rfl⟩
        have HTK2 : Hid (r ++ [w8 120#8] ++ (hexL (t.b.take (j + 1))).map w8 = (r ++ [w8 120#8] ++ (hexL (t.b.take j)).map w8) ++ [d0, d1].map w8) := Lib.hid (by rw [hexL_take hx0, two, hq0, hq1, hd0, hd1, List.map_append, List.append_assoc (r ++ [w8 120#8])])
        have hrl : (r ++ [w8 120#8] ++ (hexL (t.b.take j)).map w8).length = r.length + 1 + 2 * j := by rw [List.length_append, List.length_append, List.length_map, hexL_length, List.length_take, HBL.out, Nat.min_eq_left (by omega)]; rfl
        clear hx0 hje
        go_upto_region 7 with fail
        refine Kr.seqStartW ?_
        (refine Kr.seqQ (v := .bool true) (a' := ?_) (by rfl) ?_ ?_ ?_; rotate_left 1; (focus (exact Kr.valOf rfl (lssT C4))); (focus ((try simp only [Kr.PT]); first | done | rfl)))
        refine Kr.seqDoneW ?_
        go_upto_region 8 with fail
        refine Kr.seqStartW ?_
        (refine Kr.seqQ (v := .pointer (some ⟨b, off + j, none⟩)) (a' := ?_) (by rfl) ?_ ?_ ?_; rotate_left 1; (focus (exact Kr.valOf rfl (ixB hjl))); (focus ((try simp only [Kr.PT]); first | done | rfl)))
        (refine Kr.seqQ (v := .int .u8 ((x0).toNat : Int)) (a' := ?_) (by rfl) ?_ ?_ ?_; rotate_left 1; (focus (exact Kr.valOf rfl (ldE8 (H.g.cell HC0.out)))); (focus ((try simp only [Kr.PT]); first | done | rfl)))
        (refine Kr.seqQ (v := ?_) (a' := ?_) (by rfl) ?_ ?_ ?_; rotate_left 2; (focus (go_simp; first | done | rfl)); (focus ((try simp only [Kr.PT]); first | done | rfl)))
        refine Kr.seqDoneW ?_
        go_upto_region 9 with fail
        refine Kr.startL (fun W' => True) [] (by kernel_rfl) ?_
        have gd : Gr wr wr.drew := (Gr.refl _).drew
        generalize wr.drew = d7 at gd ⊢
        replace H := H.grow gd
        replace HR := Lib.hid (HR.out.grow gd)
        clear gd
        (refine Kr.tPQ 0 (v := ?_) (a' := ?_) rfl (by kernel_rfl) (fun _ _ _ h => h) (by rfl) (fun _ => trivial) (fun wx => ?_) ?_ ?_; rotate_left 2; (focus (go_simp; first | done | rfl)); (focus ((try simp only [Kr.PT]); first | done | rfl)))
        (refine Kr.tPQ 1 (v := ?_) (a' := ?_) rfl (by kernel_rfl) (fun _ _ _ h => h) (by rfl) (fun _ => trivial) (fun wx => ?_) ?_ ?_; rotate_left 2; (focus (go_simp; first | done | rfl)); (focus ((try simp only [Kr.PT]); first | done | rfl)))
        (refine Kr.tPQ 2 (v := .int .u8 (q0 : Int)) (a' := ?_) rfl (by kernel_rfl) (fun _ _ _ h => h) (by rfl) (fun _ => trivial) (fun wx => ?_) ?_ ?_; rotate_left 1; (focus (exact Kr.valOf rfl (shr4B hq0))); (focus ((try simp only [Kr.PT]); first | done | rfl)))
        (refine Kr.tPQ 3 (v := .int .u8 ((d0).toNat : Int)) (a' := ?_) rfl (by kernel_rfl) (fun _ _ _ h => h) (by rfl) (fun _ => trivial) (fun wx => ?_) ?_ ?_; rotate_left 1; (focus (exact Kr.valOf rfl ((by rw [← hd0]; exact atHex q0 hq0l _)))); (focus ((try simp only [Kr.PT]); first | done | rfl)))
        (refine Kr.tPQ 4 (v := ?_) (a' := ?_) rfl (by kernel_rfl) (fun _ _ _ h => h) (by rfl) (fun _ => trivial) (fun wx => ?_) ?_ ?_; rotate_left 2; (focus (go_simp; first | done | rfl)); (focus ((try simp only [Kr.PT]); first | done | rfl)))
        (refine Kr.tPQ 5 (v := .int .u8 (q1 : Int)) (a' := ?_) rfl (by kernel_rfl) (fun _ _ _ h => h) (by rfl) (fun _ => trivial) (fun wx => ?_) ?_ ?_; rotate_left 1; (focus (exact Kr.valOf rfl (and15B hq1))); (focus ((try simp only [Kr.PT]); first | done | rfl)))
        (refine Kr.tPQ 6 (v := .int .u8 ((d1).toNat : Int)) (a' := ?_) rfl (by kernel_rfl) (fun _ _ _ h => h) (by rfl) (fun _ => trivial) (fun wx => ?_) ?_ ?_; rotate_left 1; (focus (exact Kr.valOf rfl ((by rw [← hd1]; exact atHex q1 hq1l _)))); (focus ((try simp only [Kr.PT]); first | done | rfl)))
        refine Kr.readyL (rs := [7]) (by kernel_rfl) (by simp) ?_
        refine Kr.AllL.cons rfl (fun K hK => ?_) Kr.AllL.nil
        go_simp
        obtain ⟨y8, hy⟩ : ∃ y, d7.alloc (.cells #[.int .u8 ((d0).toNat : Int), .int .u8 ((d1).toNat : Int)] 5) = y := ⟨_, rfl⟩
        obtain ⟨bone, hbn⟩ : ∃ b, d7.heap.size = b := ⟨_, rfl⟩
        rw [hy, hbn]
        have hy2 : d7.alloc (.cells ([.int .u8 ((d0).toNat : Int), .int .u8 ((d1).toNat : Int)] : List Value).toArray 5) = y8 := hy
        have hg : Gr d7 y8 := hy ▸ (Gr.refl _).alloc _
        have HLIT := Lib.hid (hbn ▸ hy2 ▸ lit_src (W := d7) (T := 5) [.int .u8 ((d0).toNat : Int), .int .u8 ((d1).toNat : Int)]); clear hy2
        replace H := H.grow hg
        replace HR := Lib.hid (HR.out.grow hg)
        clear hg hy hbn
        (refine Kr.outL hK (a' := ?_) ?_ (fun _ => trivial) ?_; rotate_left; (focus ((try simp only [Kr.PT]); first | done | rfl))); clear hK K
        refine Kr.readyL (rs := [8]) (by kernel_rfl) (by simp) ?_
        refine Kr.AllL.cons rfl (fun K hK => ?_) Kr.AllL.nil
        rw [if_pos (by rfl)]
        refine wp_appG (T := 5) (TS := 22) Tryd.underlying22 info8 rfl (.tmp 29) (.tmp 36) rfl (v := u0) (r := (r ++ [w8 120#8] ++ (hexL (t.b.take j)).map w8)) (d := ([d0, d1].map w8)) (p := (some ⟨bone, 0, none⟩)) (m := 2) (c := 2) (rs := ((ba, 25, [.int .i64 tk, .int .i64 tn, .slice (some ⟨b, off, none⟩) bl cb, .slice pl ll cl]) :: rs)) rfl rfl (rfl) (HLIT.out) (one_lit8 [d0, d1]) (fun e => by cases e) H HR.out HA (by rw [hrl]; omega) (by decide) ?_
        intro q10 y9 H3 hR3 hA3
        clear H HR HA HLIT; have H := H3; have HR := Lib.hid hR3; have HA := hA3; clear H3 hR3 hA3
        (refine Kr.outL hK (a' := ?_) ?_ (fun _ => trivial) ?_; rotate_left; (focus ((try simp only [Kr.PT]); first | done | rfl))); clear hK K
        (refine Kr.tPQ 9 (v := ?_) (a' := ?_) rfl (by kernel_rfl) (fun _ _ _ h => h) (by rfl) (fun _ => trivial) (fun wx => ?_) ?_ ?_; rotate_left 2; (focus (go_simp; first | done | rfl)); (focus ((try simp only [Kr.PT]); first | done | rfl)))
        refine Kr.doneL (by kernel_rfl) ?_ _
        rw [← HTK2.out] at HR
        have HADD : IntKind.i64.wrap ((j : Int) + 1) = ((j + 1 : Nat) : Int) := wrap_nat (by omega) (by omega)
        go_upto_region 10 with fail
        refine Kr.seqStartW ?_
        (refine Kr.seqQ (v := .int .i64 ((j + 1 : Nat) : Int)) (a' := ?_) (by rfl) ?_ ?_ ?_; rotate_left 1; (focus (exact Kr.valOf rfl (addI HADD))); (focus ((try simp only [Kr.PT]); first | done | rfl)))
        (refine Kr.seqQ (v := ?_) (a' := ?_) (by rfl) ?_ ?_ ?_; rotate_left 2; (focus (go_simp; first | done | rfl)); (focus ((try simp only [Kr.PT]); first | done | rfl)))
        refine Kr.seqDoneW ?_
        go_wp2; go_roundw
        case rel =>
          first
          | exact ⟨j + 1, by omega, rfl, HR, Lib.hid HA, Lib.hid H⟩
          | (repeat apply Exists.intro); exact ⟨⟨j + 1, by omega, rfl, HR, Lib.hid HA, Lib.hid H⟩, rfl⟩
          | (repeat apply Exists.intro); refine ⟨⟨j + 1, by omega, rfl, HR, Lib.hid HA, Lib.hid H⟩, ?_⟩; refine ⟨?_, ?_⟩ <;> (repeat apply And.intro) <;> rfl
        case measure => simp [intOf]; omega
  have hk3 : t.k = 3 ∧ ∃ e, d = e + 1 ∧ t.l.length ≤ 1000 ∧ ∀ x ∈ t.l, vld e x = true := by
    rcases HVC.out with h | h | h
    · exact absurd (HTK.out.symm.trans h) k1
    · exact absurd (HTK.out.symm.trans h) k2
    · exact h
  obtain ⟨hk3, d, rfl, hl1000, hal⟩ := hk3; rw [HLL.out] at hl1000; have HAL := Lib.hid hal; clear hal
  have C1 : decide (tk = 1) = false := decide_eq_false (by exact k1)
  have C2 : decide (tk = 2) = false := decide_eq_false (by exact k2)
  have hEE : E = 40#8 :: (jn (txt d) t.l ll ++ [41#8]) := by rw [← HE.out, txt3 hk3 d, HLL.out]; rfl
  subst hEE; clear k1 k2 hk3; rw [List.length_cons, List.length_append] at hb; have hb1 : ([41#8] : List (BitVec 8)).length = 1 := rfl; rw [hb1] at hb; clear hb1
  go_upto_region 2 with fail
  refine Kr.seqStartW ?_
  (refine Kr.seqQ (v := .bool false) (a' := ?_) (by rfl) ?_ ?_ ?_; rotate_left 1; (focus (exact Kr.valOf rfl (eqlI C1))); (focus ((try simp only [Kr.PT]); first | done | rfl)))
  (refine Kr.seqQ (v := ?_) (a' := ?_) (by rfl) ?_ ?_ ?_; rotate_left 2; (focus (go_simp; first | done | rfl)); (focus ((try simp only [Kr.PT]); first | done | rfl)))
  refine Kr.seqDoneW ?_
  go_upto_region 4 with fail
  refine Kr.seqStartW ?_
  (refine Kr.seqQ (v := .bool false) (a' := ?_) (by rfl) ?_ ?_ ?_; rotate_left 1; (focus (exact Kr.valOf rfl (eqlI C2))); (focus ((try simp only [Kr.PT]); first | done | rfl)))
  (refine Kr.seqQ (v := ?_) (a' := ?_) (by rfl) ?_ ?_ ?_; rotate_left 2; (focus (go_simp; first | done | rfl)); (focus ((try simp only [Kr.PT]); first | done | rfl)))
  refine Kr.seqDoneW ?_
  go_upto_region 12 with fail
  refine Kr.seqStartW ?_
  (refine Kr.seqQ (v := ?_) (a' := ?_) (by rfl) ?_ ?_ ?_; rotate_left 2; (focus (go_simp; first | done | rfl)); (focus ((try simp only [Kr.PT]); first | done | rfl)))
  refine Kr.seqR (by rfl) (fun K hK => ?_)
  go_simp
  obtain ⟨y11, hy⟩ : ∃ y, y1.alloc (.cells #[.int .u8 40] 5) = y := ⟨_, rfl⟩
  obtain ⟨bone, hbn⟩ : ∃ b, y1.heap.size = b := ⟨_, rfl⟩
  rw [hy, hbn]
  have hy2 : y1.alloc (.cells ([.int .u8 40] : List Value).toArray 5) = y11 := hy
  have hg : Gr y1 y11 := hy ▸ (Gr.refl _).alloc _
  have HLIT := Lib.hid (hbn ▸ hy2 ▸ lit_src (W := y1) (T := 5) [.int .u8 40]); clear hy2
  replace H := H.grow hg
  replace HR := Lib.hid (HR.out.grow hg)
  clear hg hy hbn
  (refine Kr.outS hK (a' := ?_) ?_ ?_; rotate_left; (focus ((try simp only [Kr.PT]); first | done | rfl))); clear hK K
  refine Kr.seqR (by rfl) (fun K hK => ?_)
  refine wp_appG (T := 5) (TS := 22) Tryd.underlying22 info8 rfl (.tmp 40) (.tmp 41) rfl (v := v) (r := r) (d := [w8 40#8]) (p := (some ⟨bone, 0, none⟩)) (m := 1) (c := 1) (rs := ((ba, 25, [.int .i64 tk, .int .i64 tn, .slice pb bl cb, .slice pl ll cl]) :: rs)) rfl rfl (rfl) (HLIT.out) (one_lit8 [40#8]) (fun e => by cases e) H HR.out HA (by omega) (by decide) ?_
  intro q13 y12 H3 hR3 hA3
  clear H HR HA HLIT; have H := H3; have HR := Lib.hid hR3; have HA := hA3; clear H3 hR3 hA3
  (refine Kr.outS hK (a' := ?_) ?_ ?_; rotate_left; (focus ((try simp only [Kr.PT]); first | done | rfl))); clear hK K
  (refine Kr.seqQ (v := ?_) (a' := ?_) (by rfl) ?_ ?_ ?_; rotate_left 2; (focus (go_simp; first | done | rfl)); (focus ((try simp only [Kr.PT]); first | done | rfl)))
  refine Kr.seqDoneW ?_
  go_upto_region 13 with fail
  refine Kr.seqStartW ?_
  (refine Kr.seqQ (v := .pointer (some ⟨ba, 3, none⟩)) (a' := ?_) (by rfl) ?_ ?_ ?_; rotate_left 1; (focus (go_simp; first | done | rfl)); (focus ((try simp only [Kr.PT]); first | done | rfl)))
  (refine Kr.seqQ (v := .slice pl ll cl) (a' := ?_) (by rfl) ?_ ?_ ?_; rotate_left 1; (focus (exact Kr.valOf rfl (ldLs (rowCell (j := 3) (H.at 0 rfl) rfl)))); (focus ((try simp only [Kr.PT]); first | done | rfl)))
  (refine Kr.seqQ (v := .int .i64 (ll : Int)) (a' := ?_) (by rfl) ?_ ?_ ?_; rotate_left 1; (focus (exact Kr.valOf rfl ((by go_simp)))); (focus ((try simp only [Kr.PT]); first | done | rfl)))
  (refine Kr.seqQ (v := ?_) (a' := ?_) (by rfl) ?_ ?_ ?_; rotate_left 2; (focus (go_simp; first | done | rfl)); (focus ((try simp only [Kr.PT]); first | done | rfl)))
  refine Kr.seqDoneW ?_
  obtain ⟨P, hP⟩ : ∃ z, r ++ [w8 40#8] = z := ⟨_, rfl⟩; have hPl : P.length = r.length + 1 := by rw [← hP]; simp
  rw [hP] at HR; have HPP := Lib.hid hP; clear hP C1 C2
  have H2 := Lib.hid H; clear H
  go_wp2_with fail
  go_loopw [0, 46] (fun v iv wr => ∃ (j : Nat), j ≤ ll ∧ iv = .int .i64 (j : Int) ∧ Hid (RowG 5 w0.heap.size v (P ++ (jn (txt d) t.l j).map w8) wr) ∧ Hid (Apt v ((ba, 25, [.int .i64 tk, .int .i64 tn, .slice pb bl cb, .slice pl ll cl]) :: rs)) ∧ Hid (Ow w0 wr ((ba, 25, [.int .i64 tk, .int .i64 tn, .slice pb bl cb, .slice pl ll cl]) :: rs))) (fun _ iv _ => (ll - (intOf iv).toNat))
  case atStart => exact ⟨0, by omega, rfl, by rw [show (jn (txt d) t.l 0).map w8 = [] from rfl, List.append_nil]; exact HR, Lib.hid HA, H2⟩
  case round =>
    clear H2 HR HA; obtain ⟨j, hj, rfl, HR, HA, HH⟩ := hrel; have H := HH.out; replace HA := HA.out; clear HH
    by_cases hje : j = ll
    · have C4 : decide ((j : Int) < (ll : Int)) = false := decide_eq_false (by omega)
      rw [hje] at HR; clear hje
      go_upto_region 14 with fail
      refine Kr.seqStartW ?_
      (refine Kr.seqQ (v := .bool false) (a' := ?_) (by rfl) ?_ ?_ ?_; rotate_left 1; (focus (exact Kr.valOf rfl (lssT C4))); (focus ((try simp only [Kr.PT]); first | done | rfl)))
      refine Kr.seqDoneW ?_
      go_upto_region 20 with fail
      refine Kr.seqStartW ?_
      (refine Kr.seqQ (v := ?_) (a' := ?_) (by rfl) ?_ ?_ ?_; rotate_left 2; (focus (go_simp; first | done | rfl)); (focus ((try simp only [Kr.PT]); first | done | rfl)))
      refine Kr.seqR (by rfl) (fun K hK => ?_)
      go_simp
      obtain ⟨y14, hy⟩ : ∃ y, wr.alloc (.cells #[.int .u8 41] 5) = y := ⟨_, rfl⟩
      obtain ⟨bone, hbn⟩ : ∃ b, wr.heap.size = b := ⟨_, rfl⟩
      rw [hy, hbn]
      have hy2 : wr.alloc (.cells ([.int .u8 41] : List Value).toArray 5) = y14 := hy
      have hg : Gr wr y14 := hy ▸ (Gr.refl _).alloc _
      have HLIT := Lib.hid (hbn ▸ hy2 ▸ lit_src (W := wr) (T := 5) [.int .u8 41]); clear hy2
      replace H := H.grow hg
      replace HR := Lib.hid (HR.out.grow hg)
      clear hg hy hbn
      (refine Kr.outS hK (a' := ?_) ?_ ?_; rotate_left; (focus ((try simp only [Kr.PT]); first | done | rfl))); clear hK K
      refine Kr.seqR (by rfl) (fun K hK => ?_)
      refine wp_appG (T := 5) (TS := 22) Tryd.underlying22 info8 rfl (.tmp 60) (.tmp 61) rfl (v := u0) (r := (P ++ (jn (txt d) t.l ll).map w8)) (d := [w8 41#8]) (p := (some ⟨bone, 0, none⟩)) (m := 1) (c := 1) (rs := ((ba, 25, [.int .i64 tk, .int .i64 tn, .slice pb bl cb, .slice pl ll cl]) :: rs)) rfl rfl (rfl) (HLIT.out) (one_lit8 [41#8]) (fun e => by cases e) H HR.out HA (by rw [List.length_append, List.length_map, hPl]; omega) (by decide) ?_
      intro q16 y15 H3 hR3 hA3
      clear H HR HA HLIT; have H := H3; have HR := Lib.hid hR3; have HA := hA3; clear H3 hR3 hA3
      (refine Kr.outS hK (a' := ?_) ?_ ?_; rotate_left; (focus ((try simp only [Kr.PT]); first | done | rfl))); clear hK K
      (refine Kr.seqQ (v := ?_) (a' := ?_) (by rfl) ?_ ?_ ?_; rotate_left 2; (focus (go_simp; first | done | rfl)); (focus ((try simp only [Kr.PT]); first | done | rfl)))
      refine Kr.seqDoneW ?_
      replace HA := apt_tail HA; replace H := H.drop 1; dsimp only [List.drop] at H
      have HR2 := Lib.hid (show RowG 5 w0.heap.size q16 (r ++ (40#8 :: (jn (txt d) t.l ll ++ [41#8])).map w8) y15 by have := HR.out; rw [← HPP.out] at this; simpa using this); clear HR
      have hk := trivial
      go_wp2
      refine bodyPost_ret (v := q16) (by simp [results, Tryd.results43, go_sem, hk]) rfl ⟨_, rfl, HR2.out, HA, H⟩
    · have hjl : j < ll := by omega
      have C4 : decide ((j : Int) < (ll : Int)) = true := decide_eq_true (by omega)
      clear hje
      obtain ⟨x, hx⟩ : ∃ x, t.l[j]? = some x := ⟨_, List.getElem?_eq_getElem (by rw [HLL.out]; exact hjl)⟩
      obtain ⟨b, off, v0, v1, v2, v3, hpl, hFb, c0, c1, c2, c3, hch⟩ := HLS.out j x hx
      subst hpl
      have HC0 := Lib.hid c0; have HC1 := Lib.hid c1; have HC2 := Lib.hid c2; have HC3 := Lib.hid c3; have HCH := Lib.hid hch; have HX := Lib.hid hx; clear c0 c1 c2 c3 hch hx hFb
      have HON : Hid (∀ v ∈ ([v0, v1, v2, v3] : List Value), v.oneCell' = true) := Lib.hid (ItV.one HCH.out)
      have HFS := Lib.hid (jn_succ (f := txt d) HX.out); have hfl1 := jn_le (txt d) t.l (j + 1) (ll - (j + 1)); rw [show j + 1 + (ll - (j + 1)) = ll by omega, HFS.out, List.length_append, List.length_append] at hfl1
      have HVX := Lib.hid (HAL.out x (List.mem_of_getElem? HX.out))
      go_upto_region 14 with fail
      refine Kr.seqStartW ?_
      (refine Kr.seqQ (v := .bool true) (a' := ?_) (by rfl) ?_ ?_ ?_; rotate_left 1; (focus (exact Kr.valOf rfl (lssT C4))); (focus ((try simp only [Kr.PT]); first | done | rfl)))
      refine Kr.seqDoneW ?_
      go_upto_region 15 with fail
      refine Kr.seqStartW ?_
      (refine Kr.seqQ (v := ?_) (a' := ?_) (by rfl) ?_ ?_ ?_; rotate_left 2; (focus (go_simp; first | done | rfl)); (focus ((try simp only [Kr.PT]); first | done | rfl)))
      (refine Kr.seqQ (v := .pointer (some ⟨b, off + j * 4, none⟩)) (a' := ?_) (by rfl) ?_ ?_ ?_; rotate_left 1; (focus (exact Kr.valOf rfl (ixI hjl))); (focus ((try simp only [Kr.PT]); first | done | rfl)))
      (refine Kr.seqQ (v := .agg #[v0, v1, v2, v3]) (a' := ?_) (by rfl) ?_ ?_ ?_; rotate_left 1; (focus (exact Kr.valOf rfl (ldItem (H.g.cell HC0.out) (H.g.cell HC1.out) (H.g.cell HC2.out) (H.g.cell HC3.out)))); (focus ((try simp only [Kr.PT]); first | done | rfl)))
      refine Kr.seqR (by rfl) (fun K hK => ?_)
      refine wp_runV rfl newI ?_
      obtain ⟨y17, hy⟩ : ∃ y, wr.alloc (.cells ([.int .i64 0, .int .i64 0, .slice none 0 0, .slice none 0 0]).toArray 25) = y := ⟨_, rfl⟩
      obtain ⟨bx, hb⟩ : ∃ b, wr.heap.size = b := ⟨_, rfl⟩
      rw [hy, hb]
      replace HA := apt_new (T2 := 25) (l := [.int .i64 0, .int .i64 0, .slice none 0 0, .slice none 0 0]) HR.out HA hb
      have hg : Gr wr y17 := hy ▸ (Gr.refl _).alloc _
      replace H := H.alloc hy hb
      replace HR := Lib.hid (HR.out.grow hg)
      clear hy hb hg
      (refine Kr.outS hK (a' := ?_) ?_ ?_; rotate_left; (focus ((try simp only [Kr.PT]); first | done | rfl))); clear hK K
      (refine Kr.seqQ (v := ?_) (a' := ?_) (by rfl) ?_ ?_ ?_; rotate_left 2; (focus (go_simp; first | done | rfl)); (focus ((try simp only [Kr.PT]); first | done | rfl)))
      refine Kr.seqR (by rfl) (fun K hK => ?_)
      refine wp_run rfl (stI (H.at 0 rfl) HON.out) ?_
      have hRp := rowG_putA (cs := ([v0, v1, v2, v3] : List Value).toArray) HR.out HA 0 rfl; replace HA := apt_set (l2 := [v0, v1, v2, v3]) HA 0 rfl; dsimp only [List.set] at HA
      obtain ⟨y18, hy⟩ : ∃ y, y17.setRow bx ([v0, v1, v2, v3] : List Value).toArray = y := ⟨_, rfl⟩; rw [hy]; rw [hy] at hRp; replace HR := Lib.hid hRp; clear hRp
      replace H := H.put 0 hy rfl; dsimp only [List.set] at H; clear hy
      (refine Kr.outS hK (a' := ?_) ?_ ?_; rotate_left; (focus ((try simp only [Kr.PT]); first | done | rfl))); clear hK K
      refine Kr.seqDoneW ?_
      by_cases hj0 : j = 0
      · have C5 : decide ((0 : Int) < (j : Int)) = false := decide_eq_false (by omega)
        have HIF : Hid ((if j = 0 then [] else [32#8]) = ([] : List (BitVec 8))) := Lib.hid (if_pos hj0); rw [HIF.out] at hfl1; rw [List.length_nil] at hfl1; clear hj0
        go_upto_region 16 with fail
        refine Kr.seqStartW ?_
        (refine Kr.seqQ (v := ?_) (a' := ?_) (by rfl) ?_ ?_ ?_; rotate_left 2; (focus (go_simp; first | done | rfl)); (focus ((try simp only [Kr.PT]); first | done | rfl)))
        (refine Kr.seqQ (v := .bool false) (a' := ?_) (by rfl) ?_ ?_ ?_; rotate_left 1; (focus (exact Kr.valOf rfl (gtrI C5))); (focus ((try simp only [Kr.PT]); first | done | rfl)))
        refine Kr.seqDoneW ?_
        have HRS2 : Hid (∀ y ∈ ((bx, 25, [v0, v1, v2, v3]) :: (ba, 25, [.int .i64 tk, .int .i64 tn, .slice pb bl cb, .slice (some ⟨b, off, none⟩) ll cl]) :: rs), y.2.1 ≠ 5) := Lib.hid (fun y hy => by
          rcases List.mem_cons.1 hy with rfl | hy
          · exact (show 25 ≠ 5 by decide)
          · exact HRS.out _ _ _ (by decide) y hy)
        go_upto_region 18 with fail
        refine Kr.seqStartW ?_
        (refine Kr.seqQ (v := ?_) (a' := ?_) (by rfl) ?_ ?_ ?_; rotate_left 2; (focus (go_simp; first | done | rfl)); (focus ((try simp only [Kr.PT]); first | done | rfl)))
        (refine Kr.seqQ (v := .agg #[v0, v1, v2, v3]) (a' := ?_) (by rfl) ?_ ?_ ?_; rotate_left 1; (focus (exact Kr.valOf rfl (ldI (H.at 0 rfl)))); (focus ((try simp only [Kr.PT]); first | done | rfl)))
        refine Kr.seqR (by rfl) (fun K hK => ?_)
        go_simp
        go_at_call 43
        refine (ih d rfl H HR.out HA (fun y hy => HRS2.out y hy) HTAB.out HCH.out HVX.out (by simp only [List.length_append, List.length_map, List.length_cons, List.length_nil, hPl]; omega)).mono ?_
        rintro e y19 ⟨q20, rfl, hR3, hA3, H3⟩
        clear H HR HA; have H := H3; have HR := Lib.hid hR3; have HA := hA3; clear H3 hR3 hA3
        (refine Kr.outS hK (a' := ?_) ?_ ?_; rotate_left; (focus ((try simp only [Kr.PT]); first | done | rfl))); clear hK K
        (refine Kr.seqQ (v := ?_) (a' := ?_) (by rfl) ?_ ?_ ?_; rotate_left 2; (focus (go_simp; first | done | rfl)); (focus ((try simp only [Kr.PT]); first | done | rfl)))
        refine Kr.seqDoneW ?_
        rw [show P ++ (jn (txt d) t.l j).map w8 ++ (txt d x).map w8 = P ++ (jn (txt d) t.l (j + 1)).map w8 by rw [HFS.out, HIF.out]; simp] at HR
        replace HA := apt_tail HA
        replace H := H.drop 1; dsimp only [List.drop] at H
        have HADD : IntKind.i64.wrap ((j : Int) + 1) = ((j + 1 : Nat) : Int) := wrap_nat (by omega) (by omega)
        go_upto_region 19 with fail
        refine Kr.seqStartW ?_
        (refine Kr.seqQ (v := .int .i64 ((j + 1 : Nat) : Int)) (a' := ?_) (by rfl) ?_ ?_ ?_; rotate_left 1; (focus (exact Kr.valOf rfl (addI HADD))); (focus ((try simp only [Kr.PT]); first | done | rfl)))
        (refine Kr.seqQ (v := ?_) (a' := ?_) (by rfl) ?_ ?_ ?_; rotate_left 2; (focus (go_simp; first | done | rfl)); (focus ((try simp only [Kr.PT]); first | done | rfl)))
        refine Kr.seqDoneW ?_
        go_wp2; go_roundw
        case rel =>
          first
          | exact ⟨j + 1, by omega, rfl, HR, Lib.hid HA, Lib.hid H⟩
          | (repeat apply Exists.intro); exact ⟨⟨j + 1, by omega, rfl, HR, Lib.hid HA, Lib.hid H⟩, rfl⟩
          | (repeat apply Exists.intro); refine ⟨⟨j + 1, by omega, rfl, HR, Lib.hid HA, Lib.hid H⟩, ?_⟩; refine ⟨?_, ?_⟩ <;> (repeat apply And.intro) <;> rfl
        case measure => simp [intOf]; omega
      · have C5 : decide ((0 : Int) < (j : Int)) = true := decide_eq_true (by omega)
        have HIF : Hid ((if j = 0 then [] else [32#8]) = ([32#8] : List (BitVec 8))) := Lib.hid (if_neg hj0); rw [HIF.out] at hfl1; rw [List.length_cons, List.length_nil] at hfl1; clear hj0
        go_upto_region 16 with fail
        refine Kr.seqStartW ?_
        (refine Kr.seqQ (v := ?_) (a' := ?_) (by rfl) ?_ ?_ ?_; rotate_left 2; (focus (go_simp; first | done | rfl)); (focus ((try simp only [Kr.PT]); first | done | rfl)))
        (refine Kr.seqQ (v := .bool true) (a' := ?_) (by rfl) ?_ ?_ ?_; rotate_left 1; (focus (exact Kr.valOf rfl (gtrI C5))); (focus ((try simp only [Kr.PT]); first | done | rfl)))
        refine Kr.seqDoneW ?_
        go_upto_region 17 with fail
        refine Kr.seqStartW ?_
        (refine Kr.seqQ (v := ?_) (a' := ?_) (by rfl) ?_ ?_ ?_; rotate_left 2; (focus (go_simp; first | done | rfl)); (focus ((try simp only [Kr.PT]); first | done | rfl)))
        refine Kr.seqR (by rfl) (fun K hK => ?_)
        go_simp
        obtain ⟨y21, hy⟩ : ∃ y, y18.alloc (.cells #[.int .u8 32] 5) = y := ⟨_, rfl⟩
        obtain ⟨bone, hbn⟩ : ∃ b, y18.heap.size = b := ⟨_, rfl⟩
        rw [hy, hbn]
        have hy2 : y18.alloc (.cells ([.int .u8 32] : List Value).toArray 5) = y21 := hy
        have hg : Gr y18 y21 := hy ▸ (Gr.refl _).alloc _
        have HLIT := Lib.hid (hbn ▸ hy2 ▸ lit_src (W := y18) (T := 5) [.int .u8 32]); clear hy2
        replace H := H.grow hg
        replace HR := Lib.hid (HR.out.grow hg)
        clear hg hy hbn
        (refine Kr.outS hK (a' := ?_) ?_ ?_; rotate_left; (focus ((try simp only [Kr.PT]); first | done | rfl))); clear hK K
        refine Kr.seqR (by rfl) (fun K hK => ?_)
        refine wp_appG (T := 5) (TS := 22) Tryd.underlying22 info8 rfl (.tmp 53) (.tmp 54) rfl (v := u0) (r := (P ++ (jn (txt d) t.l j).map w8)) (d := [w8 32#8]) (p := (some ⟨bone, 0, none⟩)) (m := 1) (c := 1) (rs := ((bx, 25, [v0, v1, v2, v3]) :: (ba, 25, [.int .i64 tk, .int .i64 tn, .slice pb bl cb, .slice (some ⟨b, off, none⟩) ll cl]) :: rs)) rfl rfl (rfl) (HLIT.out) (one_lit8 [32#8]) (fun e => by cases e) H HR.out HA (by rw [List.length_append, List.length_map, hPl]; omega) (by decide) ?_
        intro q23 y22 H3 hR3 hA3
        clear H HR HA HLIT; have H := H3; have HR := Lib.hid hR3; have HA := hA3; clear H3 hR3 hA3
        (refine Kr.outS hK (a' := ?_) ?_ ?_; rotate_left; (focus ((try simp only [Kr.PT]); first | done | rfl))); clear hK K
        (refine Kr.seqQ (v := ?_) (a' := ?_) (by rfl) ?_ ?_ ?_; rotate_left 2; (focus (go_simp; first | done | rfl)); (focus ((try simp only [Kr.PT]); first | done | rfl)))
        refine Kr.seqDoneW ?_
        have HRS2 : Hid (∀ y ∈ ((bx, 25, [v0, v1, v2, v3]) :: (ba, 25, [.int .i64 tk, .int .i64 tn, .slice pb bl cb, .slice (some ⟨b, off, none⟩) ll cl]) :: rs), y.2.1 ≠ 5) := Lib.hid (fun y hy => by
          rcases List.mem_cons.1 hy with rfl | hy
          · exact (show 25 ≠ 5 by decide)
          · exact HRS.out _ _ _ (by decide) y hy)
        go_upto_region 18 with fail
        refine Kr.seqStartW ?_
        (refine Kr.seqQ (v := ?_) (a' := ?_) (by rfl) ?_ ?_ ?_; rotate_left 2; (focus (go_simp; first | done | rfl)); (focus ((try simp only [Kr.PT]); first | done | rfl)))
        (refine Kr.seqQ (v := .agg #[v0, v1, v2, v3]) (a' := ?_) (by rfl) ?_ ?_ ?_; rotate_left 1; (focus (exact Kr.valOf rfl (ldI (H.at 0 rfl)))); (focus ((try simp only [Kr.PT]); first | done | rfl)))
        refine Kr.seqR (by rfl) (fun K hK => ?_)
        go_simp
        go_at_call 43
        refine (ih d rfl H HR.out HA (fun y hy => HRS2.out y hy) HTAB.out HCH.out HVX.out (by simp only [List.length_append, List.length_map, List.length_cons, List.length_nil, hPl]; omega)).mono ?_
        rintro e y24 ⟨q25, rfl, hR3, hA3, H3⟩
        clear H HR HA; have H := H3; have HR := Lib.hid hR3; have HA := hA3; clear H3 hR3 hA3
        (refine Kr.outS hK (a' := ?_) ?_ ?_; rotate_left; (focus ((try simp only [Kr.PT]); first | done | rfl))); clear hK K
        (refine Kr.seqQ (v := ?_) (a' := ?_) (by rfl) ?_ ?_ ?_; rotate_left 2; (focus (go_simp; first | done | rfl)); (focus ((try simp only [Kr.PT]); first | done | rfl)))
        refine Kr.seqDoneW ?_
        rw [show P ++ (jn (txt d) t.l j).map w8 ++ [w8 32#8] ++ (txt d x).map w8 = P ++ (jn (txt d) t.l (j + 1)).map w8 by rw [HFS.out, HIF.out]; simp] at HR
        replace HA := apt_tail HA
        replace H := H.drop 1; dsimp only [List.drop] at H
        have HADD : IntKind.i64.wrap ((j : Int) + 1) = ((j + 1 : Nat) : Int) := wrap_nat (by omega) (by omega)
        go_upto_region 19 with fail
        refine Kr.seqStartW ?_
        (refine Kr.seqQ (v := .int .i64 ((j + 1 : Nat) : Int)) (a' := ?_) (by rfl) ?_ ?_ ?_; rotate_left 1; (focus (exact Kr.valOf rfl (addI HADD))); (focus ((try simp only [Kr.PT]); first | done | rfl)))
        (refine Kr.seqQ (v := ?_) (a' := ?_) (by rfl) ?_ ?_ ?_; rotate_left 2; (focus (go_simp; first | done | rfl)); (focus ((try simp only [Kr.PT]); first | done | rfl)))
        refine Kr.seqDoneW ?_
        go_wp2; go_roundw
        case rel =>
          first
          | exact ⟨j + 1, by omega, rfl, HR, Lib.hid HA, Lib.hid H⟩
          | (repeat apply Exists.intro); exact ⟨⟨j + 1, by omega, rfl, HR, Lib.hid HA, Lib.hid H⟩, rfl⟩
          | (repeat apply Exists.intro); refine ⟨⟨j + 1, by omega, rfl, HR, Lib.hid HA, Lib.hid H⟩, ?_⟩; refine ⟨?_, ?_⟩ <;> (repeat apply And.intro) <;> rfl
        case measure => simp [intOf]; omega
theorem wtext_v : ∀ (d : Nat), ∀ {w0 w : World} {rs : List Blk} {v : Value} {r : List Value} {k : Nat} {F : Nat → Prop} {val : Value} {t : It} (_ : Ow w0 w rs) (_ : RowG 5 w0.heap.size v r w) (_ : Apt v rs) (_ : ∀ x ∈ rs, x.2.1 ≠ 5) (_ : Tab w0) (_ : ItV w0 k F val t) (_ : vld d t = true) (_ : r.length + (txt d t).length ≤ 99999900), Calls Tryd.prog 43 #[v, val] w fun o w' => ∃ v2, o = .returned v2 ∧ RowG 5 w0.heap.size v2 (r ++ (txt d t).map w8) w' ∧ Apt v2 rs ∧ Ow w0 w' rs
  | 0, _, _, _, _, _, _, _, _, _, h1, h2, h3, h4, h5, h6, h7, h8 => wtext_step (fun e he => by omega) h1 h2 h3 h4 h5 h6 h7 h8
  | d + 1, _, _, _, _, _, _, _, _, _, h1, h2, h3, h4, h5, h6, h7, h8 => wtext_step (fun e he => by
      obtain rfl : e = d := by omega
      exact wtext_v e) h1 h2 h3 h4 h5 h6 h7 h8

set_option linter.unusedSimpArgs false in
set_option maxRecDepth 100000 in
set_option maxHeartbeats 16000000 in
theorem Text_bad {k : Nat} {F : Nat → Prop} {v : Value} {t : It} {w : World} (hI : ItV w k F v t) (hv : vld 8 t = false) :
    Calls Tryd.prog 22 #[v] w fun e w' => e = .returned (.tuple #[.string ⟨#[]⟩, .int .i64 1]) ∧ Gr w w' := by
  have hI0 := hI
  obtain ⟨k0, rfl⟩ : ∃ k0, k = k0 + 1 := by cases k with
    | zero => exact hI.elim
    | succ k0 => exact ⟨k0, rfl⟩
  obtain ⟨pb, cb, pl, cl, hv, hk1, hn1, hpb, hcb, hbl, hll, hB, hL⟩ := hI; subst hv
  obtain ⟨tk, htk⟩ : ∃ z, t.k = z := ⟨_, rfl⟩; obtain ⟨tn, htn⟩ : ∃ z, t.n = z := ⟨_, rfl⟩; obtain ⟨bl, hbl2⟩ : ∃ z, t.b.length = z := ⟨_, rfl⟩; obtain ⟨ll, hll2⟩ : ∃ z, t.l.length = z := ⟨_, rfl⟩
  rw [htk] at hk1; rw [htn] at hn1; rw [hbl2] at hcb hbl; rw [hll2] at hll; have HTK := Lib.hid htk; have HTN := Lib.hid htn; have HBL := Lib.hid hbl2; have HLL := Lib.hid hll2; have HBB := Lib.hid hB; have HLS := Lib.hid hL; have HPB := Lib.hid hpb; have HI1 := Lib.hid hk1; have HI2 := Lib.hid hn1; rw [htk, htn, hbl2, hll2]; clear htk htn hbl2 hll2 hB hL hpb hk1 hn1
  have hI1 : ItV w (k0 + 1) F (.agg #[.int .i64 tk, .int .i64 tn, .slice pb bl cb, .slice pl ll cl]) t := by rw [HTK.out, HTN.out, HBL.out, HLL.out] at hI0; exact hI0
  have HI := Lib.hid hI1; clear hI0 hI1; have HV := Lib.hid hv; clear hv
  have H := Ow.start w
  go_enter Tryd.func22, Tryd.ntmps22
  go_upto_region 0 with fail
  refine Kr.seqStartW ?_
  refine Kr.seqR (by rfl) (fun K hK => ?_)
  refine wp_runV rfl boxI ?_
  obtain ⟨y1, hy⟩ : ∃ y, w.alloc (.cells ([.int .i64 tk, .int .i64 tn, .slice pb bl cb, .slice pl ll cl]).toArray 25) = y := ⟨_, rfl⟩
  obtain ⟨ba, hb⟩ : ∃ b, w.heap.size = b := ⟨_, rfl⟩
  rw [hy, hb]
  have hg : Gr w y1 := hy ▸ (Gr.refl _).alloc _
  replace H := H.alloc hy hb
  clear hy hb hg
  (refine Kr.outS hK (a' := ?_) ?_ ?_; rotate_left; (focus ((try simp only [Kr.PT]); first | done | rfl))); clear hK K
  (refine Kr.seqQ (v := ?_) (a' := ?_) (by rfl) ?_ ?_ ?_; rotate_left 2; (focus (go_simp; first | done | rfl)); (focus ((try simp only [Kr.PT]); first | done | rfl)))
  (refine Kr.seqQ (v := ?_) (a' := ?_) (by rfl) ?_ ?_ ?_; rotate_left 2; (focus (go_simp; first | done | rfl)); (focus ((try simp only [Kr.PT]); first | done | rfl)))
  refine Kr.seqDoneW ?_
  go_upto_region 1 with fail
  refine Kr.seqStartW ?_
  (refine Kr.seqQ (v := .agg #[.int .i64 tk, .int .i64 tn, .slice pb bl cb, .slice pl ll cl]) (a' := ?_) (by rfl) ?_ ?_ ?_; rotate_left 1; (focus (exact Kr.valOf rfl (ldI (H.at 0 rfl)))); (focus ((try simp only [Kr.PT]); first | done | rfl)))
  refine Kr.seqR (by rfl) (fun K hK => ?_)
  go_simp
  go_at_call 14
  have hP := Valid_v (w := y1) (HI.out.grow H.g); rw [HV.out] at hP
  refine (hP).mono ?_
  rintro e y2 ⟨rfl, hg⟩
  replace H := H.grow hg
  clear hg
  clear hP
  (refine Kr.outS hK (a' := ?_) ?_ ?_; rotate_left; (focus ((try simp only [Kr.PT]); first | done | rfl))); clear hK K
  (refine Kr.seqQ (v := ?_) (a' := ?_) (by rfl) ?_ ?_ ?_; rotate_left 2; (focus (go_simp; first | done | rfl)); (focus ((try simp only [Kr.PT]); first | done | rfl)))
  refine Kr.seqDoneW ?_
  go_upto_region 2 with fail
  refine Kr.seqStartW ?_
  (refine Kr.seqQ (v := ?_) (a' := ?_) (by rfl) ?_ ?_ ?_; rotate_left 2; (focus (go_simp; first | done | rfl)); (focus ((try simp only [Kr.PT]); first | done | rfl)))
  (refine Kr.seqQ (v := ?_) (a' := ?_) (by rfl) ?_ ?_ ?_; rotate_left 2; (focus (go_simp; first | done | rfl)); (focus ((try simp only [Kr.PT]); first | done | rfl)))
  refine Kr.seqDoneW ?_
  have hk := trivial
  go_wp2
  refine bodyPost_ret (v := .tuple #[.string ⟨#[]⟩, .int .i64 1]) (by simp [results, Tryd.results22, go_sem, hk]) rfl ⟨rfl, H.g⟩
set_option linter.unusedSimpArgs false in
set_option maxRecDepth 100000 in
set_option maxHeartbeats 16000000 in
theorem Text_ok {k : Nat} {F : Nat → Prop} {v : Value} {t : It} {w : World} (hI : ItV w k F v t) (hv : vld 8 t = true) (hT : Tab w) (hb : (txt 8 t).length ≤ 99999000) :
    Calls Tryd.prog 22 #[v] w fun e w' => e = .returned (.tuple #[.string (strB (txt 8 t)), .int .i64 0]) ∧ Gr w w' := by
  have hI0 := hI
  obtain ⟨k0, rfl⟩ : ∃ k0, k = k0 + 1 := by cases k with
    | zero => exact hI.elim
    | succ k0 => exact ⟨k0, rfl⟩
  obtain ⟨pb, cb, pl, cl, hv, hk1, hn1, hpb, hcb, hbl, hll, hB, hL⟩ := hI; subst hv
  obtain ⟨tk, htk⟩ : ∃ z, t.k = z := ⟨_, rfl⟩; obtain ⟨tn, htn⟩ : ∃ z, t.n = z := ⟨_, rfl⟩; obtain ⟨bl, hbl2⟩ : ∃ z, t.b.length = z := ⟨_, rfl⟩; obtain ⟨ll, hll2⟩ : ∃ z, t.l.length = z := ⟨_, rfl⟩
  rw [htk] at hk1; rw [htn] at hn1; rw [hbl2] at hcb hbl; rw [hll2] at hll; have HTK := Lib.hid htk; have HTN := Lib.hid htn; have HBL := Lib.hid hbl2; have HLL := Lib.hid hll2; have HBB := Lib.hid hB; have HLS := Lib.hid hL; have HPB := Lib.hid hpb; have HI1 := Lib.hid hk1; have HI2 := Lib.hid hn1; rw [htk, htn, hbl2, hll2]; clear htk htn hbl2 hll2 hB hL hpb hk1 hn1
  have hI1 : ItV w (k0 + 1) F (.agg #[.int .i64 tk, .int .i64 tn, .slice pb bl cb, .slice pl ll cl]) t := by rw [HTK.out, HTN.out, HBL.out, HLL.out] at hI0; exact hI0
  have HI := Lib.hid hI1; clear hI0 hI1; have HV := Lib.hid hv; clear hv
  have HTAB := Lib.hid hT; clear hT; obtain ⟨E, hE⟩ : ∃ z, txt 8 t = z := ⟨_, rfl⟩; rw [hE] at hb ⊢; have HE := Lib.hid hE; clear hE; obtain ⟨S, hS⟩ : ∃ z, strB E = z := ⟨_, rfl⟩; rw [hS]; have HSB := Lib.hid hS; clear hS
  have H := Ow.start w
  go_enter Tryd.func22, Tryd.ntmps22
  go_upto_region 0 with fail
  refine Kr.seqStartW ?_
  refine Kr.seqR (by rfl) (fun K hK => ?_)
  refine wp_runV rfl boxI ?_
  obtain ⟨y1, hy⟩ : ∃ y, w.alloc (.cells ([.int .i64 tk, .int .i64 tn, .slice pb bl cb, .slice pl ll cl]).toArray 25) = y := ⟨_, rfl⟩
  obtain ⟨ba, hb⟩ : ∃ b, w.heap.size = b := ⟨_, rfl⟩
  rw [hy, hb]
  have hg : Gr w y1 := hy ▸ (Gr.refl _).alloc _
  replace H := H.alloc hy hb
  clear hy hb hg
  (refine Kr.outS hK (a' := ?_) ?_ ?_; rotate_left; (focus ((try simp only [Kr.PT]); first | done | rfl))); clear hK K
  (refine Kr.seqQ (v := ?_) (a' := ?_) (by rfl) ?_ ?_ ?_; rotate_left 2; (focus (go_simp; first | done | rfl)); (focus ((try simp only [Kr.PT]); first | done | rfl)))
  (refine Kr.seqQ (v := ?_) (a' := ?_) (by rfl) ?_ ?_ ?_; rotate_left 2; (focus (go_simp; first | done | rfl)); (focus ((try simp only [Kr.PT]); first | done | rfl)))
  refine Kr.seqDoneW ?_
  go_upto_region 1 with fail
  refine Kr.seqStartW ?_
  (refine Kr.seqQ (v := .agg #[.int .i64 tk, .int .i64 tn, .slice pb bl cb, .slice pl ll cl]) (a' := ?_) (by rfl) ?_ ?_ ?_; rotate_left 1; (focus (exact Kr.valOf rfl (ldI (H.at 0 rfl)))); (focus ((try simp only [Kr.PT]); first | done | rfl)))
  refine Kr.seqR (by rfl) (fun K hK => ?_)
  go_simp
  go_at_call 14
  have hP := Valid_v (w := y1) (HI.out.grow H.g); rw [HV.out] at hP
  refine (hP).mono ?_
  rintro e y2 ⟨rfl, hg⟩
  replace H := H.grow hg
  clear hg
  clear hP
  (refine Kr.outS hK (a' := ?_) ?_ ?_; rotate_left; (focus ((try simp only [Kr.PT]); first | done | rfl))); clear hK K
  (refine Kr.seqQ (v := ?_) (a' := ?_) (by rfl) ?_ ?_ ?_; rotate_left 2; (focus (go_simp; first | done | rfl)); (focus ((try simp only [Kr.PT]); first | done | rfl)))
  refine Kr.seqDoneW ?_
  go_upto_region 3 with fail
  refine Kr.seqStartW ?_
  (refine Kr.seqQ (v := .agg #[.int .i64 tk, .int .i64 tn, .slice pb bl cb, .slice pl ll cl]) (a' := ?_) (by rfl) ?_ ?_ ?_; rotate_left 1; (focus (exact Kr.valOf rfl (ldI (H.at 0 rfl)))); (focus ((try simp only [Kr.PT]); first | done | rfl)))
  refine Kr.seqR (by rfl) (fun K hK => ?_)
  go_simp
  go_at_call 43
  refine (wtext_v 8 (Ow.start y2) (RowG.nil 5 _ _) (Apt.none _) (fun x hx => by cases hx) (HTAB.out.grow H.g) (HI.out.grow H.g) HV.out (by rw [HE.out]; show 0 + E.length ≤ _; omega)).mono ?_
  rintro e y3 ⟨v2, rfl, hR, hA, hO⟩
  rw [List.nil_append, HE.out] at hR; obtain ⟨p, c, hsl, _, _, hsrc⟩ := hR.src; rw [List.length_map] at hsl; subst hsl; obtain ⟨n, hn⟩ : ∃ z, E.length = z := ⟨_, rfl⟩; rw [hn]
  have HSRC := Lib.hid (srcB_of hsrc); have hg := hO.g; clear hR hA hO hsrc
  replace H := H.grow hg
  clear hg
  (refine Kr.outS hK (a' := ?_) ?_ ?_; rotate_left; (focus ((try simp only [Kr.PT]); first | done | rfl))); clear hK K
  (refine Kr.seqQ (v := .string S) (a' := ?_) (by rfl) ?_ ?_ ?_; rotate_left 1; (focus (exact Kr.valOf rfl ((by rw [← HSB.out]; exact run_str HSRC.out hn)))); (focus ((try simp only [Kr.PT]); first | done | rfl)))
  (refine Kr.seqQ (v := ?_) (a' := ?_) (by rfl) ?_ ?_ ?_; rotate_left 2; (focus (go_simp; first | done | rfl)); (focus ((try simp only [Kr.PT]); first | done | rfl)))
  (refine Kr.seqQ (v := ?_) (a' := ?_) (by rfl) ?_ ?_ ?_; rotate_left 2; (focus (go_simp; first | done | rfl)); (focus ((try simp only [Kr.PT]); first | done | rfl)))
  refine Kr.seqDoneW ?_
  have hk := trivial
  go_wp2
  refine bodyPost_ret (v := .tuple #[.string S, .int .i64 0]) (by simp [results, Tryd.results22, go_sem, hk]) rfl ⟨rfl, H.g⟩
end Go.Proofs.YtlollhmheakcfaaDoor.Dg
