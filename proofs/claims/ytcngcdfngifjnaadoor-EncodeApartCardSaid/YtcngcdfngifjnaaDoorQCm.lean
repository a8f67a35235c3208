/- Equal, where the items are equal. -/
import Derived.Test.YtcngcdfngifjnaaDoorQCl
import Derived.Deep.Cut
namespace Go.Proofs.YtcngcdfngifjnaaDoor.Dg
open Go Go.RowKit Go.Proofs.YtcngcdfngifjnaaDoor.Ne Go.Proofs.YtcngcdfngifjnaaDoor.Kr

set_option linter.unusedSimpArgs false in
set_option maxRecDepth 100000 in
set_option maxHeartbeats 16000000 in
theorem eqf_v {k0 : Nat} (ih : ∀ {k2 : Nat} {F F2 : Nat → Prop} {v v2 : Value} {t : It} {w : World}, ItV w k0 F v t → ItV w k2 F2 v2 t → Calls Tryd.prog 44 #[v, v2] w fun e w' => e = .returned (.bool true) ∧ Gr w w') {pl pl2 : Option Addr} {n cl cl2 k2 : Nat} {F F2 : Nat → Prop} {ts : List It} {w : World} (hn : ts.length = n) (hm : n ≤ 4611686018427387904) (h1 : ∀ (j : Nat) (x : It), ts[j]? = some x → ∃ (b off : Nat) (v0 v1 v2 v3 : Value), pl = some ⟨b, off, none⟩ ∧ F b ∧ w.cell? ⟨b, off + j * 4, none⟩ = some v0 ∧ w.cell? ⟨b, off + j * 4 + 1, none⟩ = some v1 ∧ w.cell? ⟨b, off + j * 4 + 2, none⟩ = some v2 ∧ w.cell? ⟨b, off + j * 4 + 3, none⟩ = some v3 ∧ ItV w k0 F (.agg #[v0, v1, v2, v3]) x) (h2 : ∀ (j : Nat) (x : It), ts[j]? = some x → ∃ (b off : Nat) (v0 v1 v2 v3 : Value), pl2 = some ⟨b, off, none⟩ ∧ F2 b ∧ w.cell? ⟨b, off + j * 4, none⟩ = some v0 ∧ w.cell? ⟨b, off + j * 4 + 1, none⟩ = some v1 ∧ w.cell? ⟨b, off + j * 4 + 2, none⟩ = some v2 ∧ w.cell? ⟨b, off + j * 4 + 3, none⟩ = some v3 ∧ ItV w k2 F2 (.agg #[v0, v1, v2, v3]) x) :
    Calls Tryd.prog 53 #[.slice pl n cl, .slice pl2 n cl2, .func (.func 44) #[] #[]] w fun e w' => e = .returned (.bool true) ∧ Gr w w' := by
  have HL1 := Lib.hid h1; have HL2 := Lib.hid h2; have HN := Lib.hid hn; clear h1 h2 hn
  have H := Ow.start w
  go_enter Tryd.func53, Tryd.ntmps53
  go_upto_region 0 with fail
  refine Kr.seqStartW ?_
  (refine Kr.seqQ (v := ?_) (a' := ?_) (by rfl) ?_ ?_ ?_; rotate_left 2; (focus (go_simp; first | done | rfl)); (focus ((try simp only [Kr.PT]); first | done | rfl)))
  refine Kr.seqDoneW ?_
  have N1 : (!decide ((n : Int) = (n : Int))) = false := by simp
  go_upto_region 1 with fail
  refine Kr.seqStartW ?_
  (refine Kr.seqQ (v := ?_) (a' := ?_) (by rfl) ?_ ?_ ?_; rotate_left 2; (focus (go_simp; first | done | rfl)); (focus ((try simp only [Kr.PT]); first | done | rfl)))
  (refine Kr.seqQ (v := .int .i64 (n : Int)) (a' := ?_) (by rfl) ?_ ?_ ?_; rotate_left 1; (focus (exact Kr.valOf rfl ((by go_simp)))); (focus ((try simp only [Kr.PT]); first | done | rfl)))
  (refine Kr.seqQ (v := ?_) (a' := ?_) (by rfl) ?_ ?_ ?_; rotate_left 2; (focus (go_simp; first | done | rfl)); (focus ((try simp only [Kr.PT]); first | done | rfl)))
  (refine Kr.seqQ (v := .int .i64 (n : Int)) (a' := ?_) (by rfl) ?_ ?_ ?_; rotate_left 1; (focus (exact Kr.valOf rfl ((by go_simp)))); (focus ((try simp only [Kr.PT]); first | done | rfl)))
  (refine Kr.seqQ (v := .bool false) (a' := ?_) (by rfl) ?_ ?_ ?_; rotate_left 1; (focus (exact Kr.valOf rfl (neqI N1))); (focus ((try simp only [Kr.PT]); first | done | rfl)))
  refine Kr.seqDoneW ?_
  clear N1
  go_upto_region 3 with fail
  refine Kr.seqStartW ?_
  (refine Kr.seqQ (v := ?_) (a' := ?_) (by rfl) ?_ ?_ ?_; rotate_left 2; (focus (go_simp; first | done | rfl)); (focus ((try simp only [Kr.PT]); first | done | rfl)))
  (refine Kr.seqQ (v := .int .i64 (n : Int)) (a' := ?_) (by rfl) ?_ ?_ ?_; rotate_left 1; (focus (exact Kr.valOf rfl ((by go_simp)))); (focus ((try simp only [Kr.PT]); first | done | rfl)))
  (refine Kr.seqQ (v := ?_) (a' := ?_) (by rfl) ?_ ?_ ?_; rotate_left 2; (focus (go_simp; first | done | rfl)); (focus ((try simp only [Kr.PT]); first | done | rfl)))
  refine Kr.seqDoneW ?_
  have H2 := Lib.hid H; clear H
  go_wp2_with fail
  go_loopw [17] (fun iv wr => ∃ (j : Nat), j ≤ n ∧ iv = .int .i64 (j : Int) ∧ Hid (Ow w wr [])) (fun iv _ => (n - (intOf iv).toNat))
  case atStart => exact ⟨0, by omega, rfl, H2⟩
  case round =>
    clear H2; obtain ⟨j, hj, rfl, HH⟩ := hrel; have H := HH.out; clear HH
    by_cases hje : j = n
    · have E3 : decide ((j : Int) < (n : Int)) = false := decide_eq_false (by omega)
      clear hje
      go_upto_region 4 with fail
      refine Kr.seqStartW ?_
      (refine Kr.seqQ (v := .bool false) (a' := ?_) (by rfl) ?_ ?_ ?_; rotate_left 1; (focus (exact Kr.valOf rfl (lssT E3))); (focus ((try simp only [Kr.PT]); first | done | rfl)))
      refine Kr.seqDoneW ?_
      go_upto_region 10 with fail
      refine Kr.seqStartW ?_
      (refine Kr.seqQ (v := ?_) (a' := ?_) (by rfl) ?_ ?_ ?_; rotate_left 2; (focus (go_simp; first | done | rfl)); (focus ((try simp only [Kr.PT]); first | done | rfl)))
      refine Kr.seqDoneW ?_
      have hk := trivial
      go_wp2
      refine bodyPost_ret (v := .bool true) (by simp [results, Tryd.results53, go_sem, hk]) rfl ⟨rfl, H.g⟩
    have hjl : j < n := by omega
    have E3 : decide ((j : Int) < (n : Int)) = true := decide_eq_true (by omega)
    clear hje
    have HADD : IntKind.i64.wrap ((j : Int) + 1) = ((j + 1 : Nat) : Int) := wrap_nat (by omega) (by omega)
    obtain ⟨x, hx⟩ : ∃ x, ts[j]? = some x := ⟨_, List.getElem?_eq_getElem (by rw [HN.out]; exact hjl)⟩
    obtain ⟨b, off, v0, v1, v2, v3, hpl, _, c0, c1, c2, c3, hch⟩ := HL1.out j x hx; obtain ⟨b2, off2, u0, u1, u2, u3, hpl2, _, d0, d1, d2, d3, hch2⟩ := HL2.out j x hx
    have HPL := Lib.hid hpl; have HPL2 := Lib.hid hpl2; have HC0 := Lib.hid c0; have HC1 := Lib.hid c1; have HC2 := Lib.hid c2; have HC3 := Lib.hid c3; have HD0 := Lib.hid d0; have HD1 := Lib.hid d1; have HD2 := Lib.hid d2; have HD3 := Lib.hid d3; have HCH := Lib.hid hch; have HCH2 := Lib.hid hch2; have HO1 := Lib.hid (ItV.one hch); have HO2 := Lib.hid (ItV.one hch2); clear hpl hpl2 c0 c1 c2 c3 d0 d1 d2 d3 hch hch2 hx
    go_upto_region 4 with fail
    refine Kr.seqStartW ?_
    (refine Kr.seqQ (v := .bool true) (a' := ?_) (by rfl) ?_ ?_ ?_; rotate_left 1; (focus (exact Kr.valOf rfl (lssT E3))); (focus ((try simp only [Kr.PT]); first | done | rfl)))
    refine Kr.seqDoneW ?_
    clear E3
    go_upto_region 5 with fail
    refine Kr.seqStartW ?_
    (refine Kr.seqQ (v := ?_) (a' := ?_) (by rfl) ?_ ?_ ?_; rotate_left 2; (focus (go_simp; first | done | rfl)); (focus ((try simp only [Kr.PT]); first | done | rfl)))
    (refine Kr.seqQ (v := .pointer (some ⟨b, off + j * 4, none⟩)) (a' := ?_) (by rfl) ?_ ?_ ?_; rotate_left 1; (focus (exact Kr.valOf rfl ((by rw [HPL.out]; exact ixI hjl)))); (focus ((try simp only [Kr.PT]); first | done | rfl)))
    (refine Kr.seqQ (v := .agg #[v0, v1, v2, v3]) (a' := ?_) (by rfl) ?_ ?_ ?_; rotate_left 1; (focus (exact Kr.valOf rfl (ldItem (H.g.cell HC0.out) (H.g.cell HC1.out) (H.g.cell HC2.out) (H.g.cell HC3.out)))); (focus ((try simp only [Kr.PT]); first | done | rfl)))
    refine Kr.seqR (by rfl) (fun K hK => ?_)
    refine wp_runV rfl newI ?_
    obtain ⟨y1, hy⟩ : ∃ y, wr.alloc (.cells ([.int .i64 0, .int .i64 0, .slice none 0 0, .slice none 0 0]).toArray 25) = y := ⟨_, rfl⟩
    obtain ⟨bp, hb⟩ : ∃ b, wr.heap.size = b := ⟨_, rfl⟩
    rw [hy, hb]
    have hg : Gr wr y1 := hy ▸ (Gr.refl _).alloc _
    replace H := H.alloc hy hb
    clear hy hb hg
    (refine Kr.outS hK (a' := ?_) ?_ ?_; rotate_left; (focus ((try simp only [Kr.PT]); first | done | rfl))); clear hK K
    (refine Kr.seqQ (v := ?_) (a' := ?_) (by rfl) ?_ ?_ ?_; rotate_left 2; (focus (go_simp; first | done | rfl)); (focus ((try simp only [Kr.PT]); first | done | rfl)))
    refine Kr.seqR (by rfl) (fun K hK => ?_)
    refine wp_run rfl (stI (H.at 0 rfl) HO1.out) ?_
    obtain ⟨y2, hy⟩ : ∃ y, y1.setRow bp ([v0, v1, v2, v3]).toArray = y := ⟨_, rfl⟩
    rw [hy]
    replace H := H.put 0 hy rfl
    dsimp only [List.set] at H
    clear hy
    (refine Kr.outS hK (a' := ?_) ?_ ?_; rotate_left; (focus ((try simp only [Kr.PT]); first | done | rfl))); clear hK K
    refine Kr.seqDoneW ?_
    go_upto_region 6 with fail
    refine Kr.seqStartW ?_
    (refine Kr.seqQ (v := ?_) (a' := ?_) (by rfl) ?_ ?_ ?_; rotate_left 2; (focus (go_simp; first | done | rfl)); (focus ((try simp only [Kr.PT]); first | done | rfl)))
    (refine Kr.seqQ (v := ?_) (a' := ?_) (by rfl) ?_ ?_ ?_; rotate_left 2; (focus (go_simp; first | done | rfl)); (focus ((try simp only [Kr.PT]); first | done | rfl)))
    (refine Kr.seqQ (v := .pointer (some ⟨b2, off2 + j * 4, none⟩)) (a' := ?_) (by rfl) ?_ ?_ ?_; rotate_left 1; (focus (exact Kr.valOf rfl ((by rw [HPL2.out]; exact ixI hjl)))); (focus ((try simp only [Kr.PT]); first | done | rfl)))
    (refine Kr.seqQ (v := .agg #[u0, u1, u2, u3]) (a' := ?_) (by rfl) ?_ ?_ ?_; rotate_left 1; (focus (exact Kr.valOf rfl (ldItem (H.g.cell HD0.out) (H.g.cell HD1.out) (H.g.cell HD2.out) (H.g.cell HD3.out)))); (focus ((try simp only [Kr.PT]); first | done | rfl)))
    refine Kr.seqR (by rfl) (fun K hK => ?_)
    refine wp_runV rfl newI ?_
    obtain ⟨y3, hy⟩ : ∃ y, y2.alloc (.cells ([.int .i64 0, .int .i64 0, .slice none 0 0, .slice none 0 0]).toArray 25) = y := ⟨_, rfl⟩
    obtain ⟨br, hb⟩ : ∃ b, y2.heap.size = b := ⟨_, rfl⟩
    rw [hy, hb]
    have hg : Gr y2 y3 := hy ▸ (Gr.refl _).alloc _
    replace H := H.alloc hy hb
    clear hy hb hg
    (refine Kr.outS hK (a' := ?_) ?_ ?_; rotate_left; (focus ((try simp only [Kr.PT]); first | done | rfl))); clear hK K
    refine Kr.seqR (by rfl) (fun K hK => ?_)
    refine wp_run rfl (stI (H.at 0 rfl) HO2.out) ?_
    obtain ⟨y4, hy⟩ : ∃ y, y3.setRow br ([u0, u1, u2, u3]).toArray = y := ⟨_, rfl⟩
    rw [hy]
    replace H := H.put 0 hy rfl
    dsimp only [List.set] at H
    clear hy
    (refine Kr.outS hK (a' := ?_) ?_ ?_; rotate_left; (focus ((try simp only [Kr.PT]); first | done | rfl))); clear hK K
    refine Kr.seqDoneW ?_
    go_upto_region 7 with fail
    refine Kr.seqStartW ?_
    (refine Kr.seqQ (v := ?_) (a' := ?_) (by rfl) ?_ ?_ ?_; rotate_left 2; (focus (go_simp; first | done | rfl)); (focus ((try simp only [Kr.PT]); first | done | rfl)))
    (refine Kr.seqQ (v := .agg #[v0, v1, v2, v3]) (a' := ?_) (by rfl) ?_ ?_ ?_; rotate_left 1; (focus (exact Kr.valOf rfl (ldI (H.at 1 rfl)))); (focus ((try simp only [Kr.PT]); first | done | rfl)))
    (refine Kr.seqQ (v := .agg #[u0, u1, u2, u3]) (a' := ?_) (by rfl) ?_ ?_ ?_; rotate_left 1; (focus (exact Kr.valOf rfl (ldI (H.at 0 rfl)))); (focus ((try simp only [Kr.PT]); first | done | rfl)))
    refine Kr.seqR (by rfl) (fun K hK => ?_)
    go_simp
    go_at_call 44
    have hP := ih (w := y4) (HCH.out.grow H.g) (HCH2.out.grow H.g)
    refine (hP).mono ?_
    rintro e y5 ⟨rfl, hg⟩
    replace H := H.grow hg
    clear hg
    clear hP
    (refine Kr.outS hK (a' := ?_) ?_ ?_; rotate_left; (focus ((try simp only [Kr.PT]); first | done | rfl))); clear hK K
    (refine Kr.seqQ (v := ?_) (a' := ?_) (by rfl) ?_ ?_ ?_; rotate_left 2; (focus (go_simp; first | done | rfl)); (focus ((try simp only [Kr.PT]); first | done | rfl)))
    refine Kr.seqDoneW ?_
    replace H := H.drop 2; dsimp only [List.drop] at H
    go_upto_region 9 with fail
    refine Kr.seqStartW ?_
    (refine Kr.seqQ (v := .int .i64 ((j + 1 : Nat) : Int)) (a' := ?_) (by rfl) ?_ ?_ ?_; rotate_left 1; (focus (exact Kr.valOf rfl (addI HADD))); (focus ((try simp only [Kr.PT]); first | done | rfl)))
    (refine Kr.seqQ (v := ?_) (a' := ?_) (by rfl) ?_ ?_ ?_; rotate_left 2; (focus (go_simp; first | done | rfl)); (focus ((try simp only [Kr.PT]); first | done | rfl)))
    refine Kr.seqDoneW ?_
    go_wp2; go_roundw
    case rel =>
      first
      | exact ⟨j + 1, by omega, rfl, Lib.hid H⟩
      | (repeat apply Exists.intro); exact ⟨⟨j + 1, by omega, rfl, Lib.hid H⟩, rfl⟩
      | (repeat apply Exists.intro); refine ⟨⟨j + 1, by omega, rfl, Lib.hid H⟩, ?_⟩; refine ⟨?_, ?_⟩ <;> (repeat apply And.intro) <;> rfl
    case measure => simp [intOf]; omega
set_option linter.unusedSimpArgs false in
set_option maxRecDepth 100000 in
set_option maxHeartbeats 16000000 in
theorem esame_step {k0 : Nat} (ih : ∀ {k2 : Nat} {F F2 : Nat → Prop} {v v2 : Value} {t : It} {w : World}, ItV w k0 F v t → ItV w k2 F2 v2 t → Calls Tryd.prog 44 #[v, v2] w fun e w' => e = .returned (.bool true) ∧ Gr w w')
    {k2 : Nat} {F F2 : Nat → Prop} {v v2 : Value} {t : It} {w : World} (hI : ItV w (k0 + 1) F v t) (hI2 : ItV w k2 F2 v2 t) : Calls Tryd.prog 44 #[v, v2] w fun e w' => e = .returned (.bool true) ∧ Gr w w' := by
  obtain ⟨pb, cb, pl, cl, hv, hk1, hn1, hpb, hcb, hbl, hll, hB, hL⟩ := hI; subst hv
  obtain ⟨tk, htk⟩ : ∃ z, t.k = z := ⟨_, rfl⟩; obtain ⟨tn, htn⟩ : ∃ z, t.n = z := ⟨_, rfl⟩; obtain ⟨bl, hbl2⟩ : ∃ z, t.b.length = z := ⟨_, rfl⟩; obtain ⟨ll, hll2⟩ : ∃ z, t.l.length = z := ⟨_, rfl⟩
  rw [htk] at hk1; rw [htn] at hn1; rw [hbl2] at hcb hbl; rw [hll2] at hll; have HTK := Lib.hid htk; have HTN := Lib.hid htn; have HBL := Lib.hid hbl2; have HLL := Lib.hid hll2; have HBB := Lib.hid hB; have HLS := Lib.hid hL; have HPB := Lib.hid hpb; have HI1 := Lib.hid hk1; have HI2 := Lib.hid hn1; rw [htk, htn, hbl2, hll2]; clear htk htn hbl2 hll2 hB hL hpb hk1 hn1
  obtain ⟨k3, rfl⟩ : ∃ k3, k2 = k3 + 1 := by cases k2 with
    | zero => exact hI2.elim
    | succ k => exact ⟨k, rfl⟩
  obtain ⟨pb2, cb2, pl2, cl2, hv, _, _, _, _, _, _, hB2, hL2⟩ := hI2; subst hv; have HB2 := Lib.hid hB2; have HL2 := Lib.hid hL2; rw [HTK.out, HTN.out, HBL.out, HLL.out]; clear hB2 hL2
  have H := Ow.start w
  go_enter Tryd.func44, Tryd.ntmps44
  go_upto_region 0 with fail
  refine Kr.seqStartW ?_
  refine Kr.seqR (by rfl) (fun K hK => ?_)
  refine wp_runV rfl boxI ?_
  obtain ⟨y1, hy⟩ : ∃ y, w.alloc (.cells ([.int .i64 tk, .int .i64 tn, .slice pb bl cb, .slice pl ll cl]).toArray 25) = y := ⟨_, rfl⟩
  obtain ⟨ba, hb⟩ : ∃ b, w.heap.size = b := ⟨_, rfl⟩
  rw [hy, hb]
  have hg : Gr w y1 := hy ▸ (Gr.refl _).alloc _
  replace H := H.alloc hy hb
  clear hy hb hg
  (refine Kr.outS hK (a' := ?_) ?_ ?_; rotate_left; (focus ((try simp only [Kr.PT]); first | done | rfl))); clear hK K
  refine Kr.seqR (by rfl) (fun K hK => ?_)
  refine wp_runV rfl boxI ?_
  obtain ⟨y2, hy⟩ : ∃ y, y1.alloc (.cells ([.int .i64 tk, .int .i64 tn, .slice pb2 bl cb2, .slice pl2 ll cl2]).toArray 25) = y := ⟨_, rfl⟩
  obtain ⟨bc, hb⟩ : ∃ b, y1.heap.size = b := ⟨_, rfl⟩
  rw [hy, hb]
  have hg : Gr y1 y2 := hy ▸ (Gr.refl _).alloc _
  replace H := H.alloc hy hb
  clear hy hb hg
  (refine Kr.outS hK (a' := ?_) ?_ ?_; rotate_left; (focus ((try simp only [Kr.PT]); first | done | rfl))); clear hK K
  (refine Kr.seqQ (v := ?_) (a' := ?_) (by rfl) ?_ ?_ ?_; rotate_left 2; (focus (go_simp; first | done | rfl)); (focus ((try simp only [Kr.PT]); first | done | rfl)))
  refine Kr.seqDoneW ?_
  have E1 : decide (tk = tk) = true := decide_eq_true rfl; have E2 : decide (tn = tn) = true := decide_eq_true rfl
  go_upto_region 1 with fail
  refine Kr.seqStartW ?_
  (refine Kr.seqQ (v := .pointer (some ⟨ba, 0, none⟩)) (a' := ?_) (by rfl) ?_ ?_ ?_; rotate_left 1; (focus (go_simp; first | done | rfl)); (focus ((try simp only [Kr.PT]); first | done | rfl)))
  (refine Kr.seqQ (v := .int .i64 tk) (a' := ?_) (by rfl) ?_ ?_ ?_; rotate_left 1; (focus (exact Kr.valOf rfl (ldInt (rowCell (j := 0) (H.at 1 rfl) rfl)))); (focus ((try simp only [Kr.PT]); first | done | rfl)))
  (refine Kr.seqQ (v := .pointer (some ⟨bc, 0, none⟩)) (a' := ?_) (by rfl) ?_ ?_ ?_; rotate_left 1; (focus (go_simp; first | done | rfl)); (focus ((try simp only [Kr.PT]); first | done | rfl)))
  (refine Kr.seqQ (v := .int .i64 tk) (a' := ?_) (by rfl) ?_ ?_ ?_; rotate_left 1; (focus (exact Kr.valOf rfl (ldInt (rowCell (j := 0) (H.at 0 rfl) rfl)))); (focus ((try simp only [Kr.PT]); first | done | rfl)))
  (refine Kr.seqQ (v := .bool true) (a' := ?_) (by rfl) ?_ ?_ ?_; rotate_left 1; (focus (exact Kr.valOf rfl (eqlI E1))); (focus ((try simp only [Kr.PT]); first | done | rfl)))
  (refine Kr.seqQ (v := ?_) (a' := ?_) (by rfl) ?_ ?_ ?_; rotate_left 2; (focus (go_simp; first | done | rfl)); (focus ((try simp only [Kr.PT]); first | done | rfl)))
  (refine Kr.seqQ (v := .pointer (some ⟨ba, 1, none⟩)) (a' := ?_) (by rfl) ?_ ?_ ?_; rotate_left 1; (focus (go_simp; first | done | rfl)); (focus ((try simp only [Kr.PT]); first | done | rfl)))
  (refine Kr.seqQ (v := .int .i64 tn) (a' := ?_) (by rfl) ?_ ?_ ?_; rotate_left 1; (focus (exact Kr.valOf rfl (ldInt (rowCell (j := 1) (H.at 1 rfl) rfl)))); (focus ((try simp only [Kr.PT]); first | done | rfl)))
  (refine Kr.seqQ (v := .pointer (some ⟨bc, 1, none⟩)) (a' := ?_) (by rfl) ?_ ?_ ?_; rotate_left 1; (focus (go_simp; first | done | rfl)); (focus ((try simp only [Kr.PT]); first | done | rfl)))
  (refine Kr.seqQ (v := .int .i64 tn) (a' := ?_) (by rfl) ?_ ?_ ?_; rotate_left 1; (focus (exact Kr.valOf rfl (ldInt (rowCell (j := 1) (H.at 0 rfl) rfl)))); (focus ((try simp only [Kr.PT]); first | done | rfl)))
  (refine Kr.seqQ (v := .bool true) (a' := ?_) (by rfl) ?_ ?_ ?_; rotate_left 1; (focus (exact Kr.valOf rfl (eqlI E2))); (focus ((try simp only [Kr.PT]); first | done | rfl)))
  (refine Kr.seqQ (v := ?_) (a' := ?_) (by rfl) ?_ ?_ ?_; rotate_left 2; (focus (go_simp; first | done | rfl)); (focus ((try simp only [Kr.PT]); first | done | rfl)))
  (refine Kr.seqQ (v := ?_) (a' := ?_) (by rfl) ?_ ?_ ?_; rotate_left 2; (focus (go_simp; first | done | rfl)); (focus ((try simp only [Kr.PT]); first | done | rfl)))
  (refine Kr.seqQ (v := .pointer (some ⟨ba, 2, none⟩)) (a' := ?_) (by rfl) ?_ ?_ ?_; rotate_left 1; (focus (go_simp; first | done | rfl)); (focus ((try simp only [Kr.PT]); first | done | rfl)))
  (refine Kr.seqQ (v := .slice pb bl cb) (a' := ?_) (by rfl) ?_ ?_ ?_; rotate_left 1; (focus (exact Kr.valOf rfl (ldSl (rowCell (j := 2) (H.at 1 rfl) rfl)))); (focus ((try simp only [Kr.PT]); first | done | rfl)))
  (refine Kr.seqQ (v := .pointer (some ⟨bc, 2, none⟩)) (a' := ?_) (by rfl) ?_ ?_ ?_; rotate_left 1; (focus (go_simp; first | done | rfl)); (focus ((try simp only [Kr.PT]); first | done | rfl)))
  (refine Kr.seqQ (v := .slice pb2 bl cb2) (a' := ?_) (by rfl) ?_ ?_ ?_; rotate_left 1; (focus (exact Kr.valOf rfl (ldSl (rowCell (j := 2) (H.at 0 rfl) rfl)))); (focus ((try simp only [Kr.PT]); first | done | rfl)))
  refine Kr.seqR (by rfl) (fun K hK => ?_)
  go_simp
  go_at_call 16
  refine (Equal_v (w := y2) ((src_item HBB.out).grow H.g) (HBL.out) ((src_item HB2.out).grow H.g) (HBL.out) (b := true) (decide_eq_true rfl)).mono ?_
  rintro e ye ⟨rfl, hye⟩; subst ye
  (refine Kr.outS hK (a' := ?_) ?_ ?_; rotate_left; (focus ((try simp only [Kr.PT]); first | done | rfl))); clear hK K
  (refine Kr.seqQ (v := ?_) (a' := ?_) (by rfl) ?_ ?_ ?_; rotate_left 2; (focus (go_simp; first | done | rfl)); (focus ((try simp only [Kr.PT]); first | done | rfl)))
  (refine Kr.seqQ (v := ?_) (a' := ?_) (by rfl) ?_ ?_ ?_; rotate_left 2; (focus (go_simp; first | done | rfl)); (focus ((try simp only [Kr.PT]); first | done | rfl)))
  (refine Kr.seqQ (v := .pointer (some ⟨ba, 3, none⟩)) (a' := ?_) (by rfl) ?_ ?_ ?_; rotate_left 1; (focus (go_simp; first | done | rfl)); (focus ((try simp only [Kr.PT]); first | done | rfl)))
  (refine Kr.seqQ (v := .slice pl ll cl) (a' := ?_) (by rfl) ?_ ?_ ?_; rotate_left 1; (focus (exact Kr.valOf rfl (ldLs (rowCell (j := 3) (H.at 1 rfl) rfl)))); (focus ((try simp only [Kr.PT]); first | done | rfl)))
  (refine Kr.seqQ (v := .pointer (some ⟨bc, 3, none⟩)) (a' := ?_) (by rfl) ?_ ?_ ?_; rotate_left 1; (focus (go_simp; first | done | rfl)); (focus ((try simp only [Kr.PT]); first | done | rfl)))
  (refine Kr.seqQ (v := .slice pl2 ll cl2) (a' := ?_) (by rfl) ?_ ?_ ?_; rotate_left 1; (focus (exact Kr.valOf rfl (ldLs (rowCell (j := 3) (H.at 0 rfl) rfl)))); (focus ((try simp only [Kr.PT]); first | done | rfl)))
  refine Kr.seqR (by rfl) (fun K hK => ?_)
  go_simp
  go_at_call 53
  have hP := eqf_v ih (w := y2) (cl := cl) (cl2 := cl2) HLL.out hll (fun j x hx => by
    obtain ⟨b, off, v0, v1, v2, v3, e, f, c0, c1, c2, c3, h⟩ := HLS.out j x hx
    exact ⟨b, off, v0, v1, v2, v3, e, f, H.g.cell c0, H.g.cell c1, H.g.cell c2, H.g.cell c3, h.grow H.g⟩) (fun j x hx => by
    obtain ⟨b, off, v0, v1, v2, v3, e, f, c0, c1, c2, c3, h⟩ := HL2.out j x hx
    exact ⟨b, off, v0, v1, v2, v3, e, f, H.g.cell c0, H.g.cell c1, H.g.cell c2, H.g.cell c3, h.grow H.g⟩)
  refine (hP).mono ?_
  rintro e y3 ⟨rfl, hg⟩
  replace H := H.grow hg
  clear hg
  clear hP
  (refine Kr.outS hK (a' := ?_) ?_ ?_; rotate_left; (focus ((try simp only [Kr.PT]); first | done | rfl))); clear hK K
  (refine Kr.seqQ (v := ?_) (a' := ?_) (by rfl) ?_ ?_ ?_; rotate_left 2; (focus (go_simp; first | done | rfl)); (focus ((try simp only [Kr.PT]); first | done | rfl)))
  (refine Kr.seqQ (v := ?_) (a' := ?_) (by rfl) ?_ ?_ ?_; rotate_left 2; (focus (go_simp; first | done | rfl)); (focus ((try simp only [Kr.PT]); first | done | rfl)))
  refine Kr.seqDoneW ?_
  have hk := trivial
  go_wp2
  refine bodyPost_ret (v := .bool true) (by simp [results, Tryd.results44, go_sem, hk]) rfl ⟨rfl, H.g⟩
theorem esame_v : ∀ (k : Nat), ∀ {k2 : Nat} {F F2 : Nat → Prop} {v v2 : Value} {t : It} {w : World}, ItV w k F v t → ItV w k2 F2 v2 t → Calls Tryd.prog 44 #[v, v2] w fun e w' => e = .returned (.bool true) ∧ Gr w w'
  | 0, _, _, _, _, _, _, _, h, _ => h.elim
  | k + 1, _, _, _, _, _, _, _, h1, h2 => esame_step (esame_v k) h1 h2

set_option linter.unusedSimpArgs false in
set_option maxRecDepth 100000 in
set_option maxHeartbeats 16000000 in
theorem EEqual_v {k k2 : Nat} {F F2 : Nat → Prop} {v0 v1 v2 v3 u0 u1 u2 u3 : Value} {t : It} {w : World} (hI : ItV w k F (.agg #[v0, v1, v2, v3]) t) (hI2 : ItV w k2 F2 (.agg #[u0, u1, u2, u3]) t) (hv : vld 8 t = true) :
    Calls Tryd.prog 24 #[.agg #[v0, v1, v2, v3], .agg #[u0, u1, u2, u3]] w fun e w' => e = .returned (.bool true) ∧ Gr w w' := by
  have HI := Lib.hid hI; have HI2 := Lib.hid hI2; have HV := Lib.hid hv; clear hI hI2 hv
  have H := Ow.start w
  go_enter Tryd.func24, Tryd.ntmps24
  go_upto_region 0 with fail
  refine Kr.seqStartW ?_
  refine Kr.seqR (by rfl) (fun K hK => ?_)
  refine wp_runV rfl boxI ?_
  obtain ⟨y1, hy⟩ : ∃ y, w.alloc (.cells ([v0, v1, v2, v3]).toArray 25) = y := ⟨_, rfl⟩
  obtain ⟨ba, hb⟩ : ∃ b, w.heap.size = b := ⟨_, rfl⟩
  rw [hy, hb]
  have hg : Gr w y1 := hy ▸ (Gr.refl _).alloc _
  replace H := H.alloc hy hb
  clear hy hb hg
  (refine Kr.outS hK (a' := ?_) ?_ ?_; rotate_left; (focus ((try simp only [Kr.PT]); first | done | rfl))); clear hK K
  refine Kr.seqR (by rfl) (fun K hK => ?_)
  refine wp_runV rfl boxI ?_
  obtain ⟨y2, hy⟩ : ∃ y, y1.alloc (.cells ([u0, u1, u2, u3]).toArray 25) = y := ⟨_, rfl⟩
  obtain ⟨bc, hb⟩ : ∃ b, y1.heap.size = b := ⟨_, rfl⟩
  rw [hy, hb]
  have hg : Gr y1 y2 := hy ▸ (Gr.refl _).alloc _
  replace H := H.alloc hy hb
  clear hy hb hg
  (refine Kr.outS hK (a' := ?_) ?_ ?_; rotate_left; (focus ((try simp only [Kr.PT]); first | done | rfl))); clear hK K
  (refine Kr.seqQ (v := ?_) (a' := ?_) (by rfl) ?_ ?_ ?_; rotate_left 2; (focus (go_simp; first | done | rfl)); (focus ((try simp only [Kr.PT]); first | done | rfl)))
  refine Kr.seqDoneW ?_
  go_upto_region 1 with fail
  refine Kr.seqStartW ?_
  (refine Kr.seqQ (v := .agg #[v0, v1, v2, v3]) (a' := ?_) (by rfl) ?_ ?_ ?_; rotate_left 1; (focus (exact Kr.valOf rfl (ldI (H.at 1 rfl)))); (focus ((try simp only [Kr.PT]); first | done | rfl)))
  refine Kr.seqR (by rfl) (fun K hK => ?_)
  go_simp
  go_at_call 14
  have hP := Valid_v (w := y2) (HI.out.grow H.g); rw [HV.out] at hP
  refine (hP).mono ?_
  rintro e y3 ⟨rfl, hg⟩
  replace H := H.grow hg
  clear hg
  clear hP
  (refine Kr.outS hK (a' := ?_) ?_ ?_; rotate_left; (focus ((try simp only [Kr.PT]); first | done | rfl))); clear hK K
  (refine Kr.seqQ (v := ?_) (a' := ?_) (by rfl) ?_ ?_ ?_; rotate_left 2; (focus (go_simp; first | done | rfl)); (focus ((try simp only [Kr.PT]); first | done | rfl)))
  (refine Kr.seqQ (v := .agg #[u0, u1, u2, u3]) (a' := ?_) (by rfl) ?_ ?_ ?_; rotate_left 1; (focus (exact Kr.valOf rfl (ldI (H.at 0 rfl)))); (focus ((try simp only [Kr.PT]); first | done | rfl)))
  refine Kr.seqR (by rfl) (fun K hK => ?_)
  go_simp
  go_at_call 14
  have hP := Valid_v (w := y3) (HI2.out.grow H.g); rw [HV.out] at hP
  refine (hP).mono ?_
  rintro e y4 ⟨rfl, hg⟩
  replace H := H.grow hg
  clear hg
  clear hP
  (refine Kr.outS hK (a' := ?_) ?_ ?_; rotate_left; (focus ((try simp only [Kr.PT]); first | done | rfl))); clear hK K
  (refine Kr.seqQ (v := ?_) (a' := ?_) (by rfl) ?_ ?_ ?_; rotate_left 2; (focus (go_simp; first | done | rfl)); (focus ((try simp only [Kr.PT]); first | done | rfl)))
  (refine Kr.seqQ (v := ?_) (a' := ?_) (by rfl) ?_ ?_ ?_; rotate_left 2; (focus (go_simp; first | done | rfl)); (focus ((try simp only [Kr.PT]); first | done | rfl)))
  (refine Kr.seqQ (v := .agg #[v0, v1, v2, v3]) (a' := ?_) (by rfl) ?_ ?_ ?_; rotate_left 1; (focus (exact Kr.valOf rfl (ldI (H.at 1 rfl)))); (focus ((try simp only [Kr.PT]); first | done | rfl)))
  (refine Kr.seqQ (v := .agg #[u0, u1, u2, u3]) (a' := ?_) (by rfl) ?_ ?_ ?_; rotate_left 1; (focus (exact Kr.valOf rfl (ldI (H.at 0 rfl)))); (focus ((try simp only [Kr.PT]); first | done | rfl)))
  refine Kr.seqR (by rfl) (fun K hK => ?_)
  go_simp
  go_at_call 44
  refine (esame_v k (w := y4) (HI.out.grow H.g) (HI2.out.grow H.g)).mono ?_
  rintro e y5 ⟨rfl, hg⟩
  replace H := H.grow hg
  clear hg
  (refine Kr.outS hK (a' := ?_) ?_ ?_; rotate_left; (focus ((try simp only [Kr.PT]); first | done | rfl))); clear hK K
  (refine Kr.seqQ (v := ?_) (a' := ?_) (by rfl) ?_ ?_ ?_; rotate_left 2; (focus (go_simp; first | done | rfl)); (focus ((try simp only [Kr.PT]); first | done | rfl)))
  (refine Kr.seqQ (v := ?_) (a' := ?_) (by rfl) ?_ ?_ ?_; rotate_left 2; (focus (go_simp; first | done | rfl)); (focus ((try simp only [Kr.PT]); first | done | rfl)))
  refine Kr.seqDoneW ?_
  have hk := trivial
  go_wp2
  refine bodyPost_ret (v := .bool true) (by simp [results, Tryd.results24, go_sem, hk]) rfl ⟨rfl, H.g⟩
set_option linter.unusedSimpArgs false in
set_option maxRecDepth 100000 in
set_option maxHeartbeats 16000000 in
theorem none_v {w : World} :
    Calls Tryd.prog 29 #[.agg #[.int .i64 0, .int .i64 0, .slice none 0 0, .slice none 0 0]] w fun e w' => e = .returned (.bool true) ∧ Gr w w' := by
  have H := Ow.start w
  go_enter Tryd.func29, Tryd.ntmps29
  go_upto_region 0 with fail
  refine Kr.seqStartW ?_
  refine Kr.seqR (by rfl) (fun K hK => ?_)
  refine wp_runV rfl boxI ?_
  obtain ⟨y1, hy⟩ : ∃ y, w.alloc (.cells ([.int .i64 0, .int .i64 0, .slice none 0 0, .slice none 0 0]).toArray 25) = y := ⟨_, rfl⟩
  obtain ⟨ba, hb⟩ : ∃ b, w.heap.size = b := ⟨_, rfl⟩
  rw [hy, hb]
  have hg : Gr w y1 := hy ▸ (Gr.refl _).alloc _
  replace H := H.alloc hy hb
  clear hy hb hg
  (refine Kr.outS hK (a' := ?_) ?_ ?_; rotate_left; (focus ((try simp only [Kr.PT]); first | done | rfl))); clear hK K
  (refine Kr.seqQ (v := ?_) (a' := ?_) (by rfl) ?_ ?_ ?_; rotate_left 2; (focus (go_simp; first | done | rfl)); (focus ((try simp only [Kr.PT]); first | done | rfl)))
  refine Kr.seqDoneW ?_
  go_upto_region 1 with fail
  refine Kr.seqStartW ?_
  (refine Kr.seqQ (v := .pointer (some ⟨ba, 0, none⟩)) (a' := ?_) (by rfl) ?_ ?_ ?_; rotate_left 1; (focus (go_simp; first | done | rfl)); (focus ((try simp only [Kr.PT]); first | done | rfl)))
  (refine Kr.seqQ (v := .int .i64 0) (a' := ?_) (by rfl) ?_ ?_ ?_; rotate_left 1; (focus (exact Kr.valOf rfl (ldInt (rowCell (j := 0) (H.at 0 rfl) rfl)))); (focus ((try simp only [Kr.PT]); first | done | rfl)))
  (refine Kr.seqQ (v := .bool true) (a' := ?_) (by rfl) ?_ ?_ ?_; rotate_left 1; (focus (exact Kr.valOf rfl (eqlI (x := 0) (y := 0) (by decide)))); (focus ((try simp only [Kr.PT]); first | done | rfl)))
  (refine Kr.seqQ (v := ?_) (a' := ?_) (by rfl) ?_ ?_ ?_; rotate_left 2; (focus (go_simp; first | done | rfl)); (focus ((try simp only [Kr.PT]); first | done | rfl)))
  (refine Kr.seqQ (v := .pointer (some ⟨ba, 1, none⟩)) (a' := ?_) (by rfl) ?_ ?_ ?_; rotate_left 1; (focus (go_simp; first | done | rfl)); (focus ((try simp only [Kr.PT]); first | done | rfl)))
  (refine Kr.seqQ (v := .int .i64 0) (a' := ?_) (by rfl) ?_ ?_ ?_; rotate_left 1; (focus (exact Kr.valOf rfl (ldInt (rowCell (j := 1) (H.at 0 rfl) rfl)))); (focus ((try simp only [Kr.PT]); first | done | rfl)))
  (refine Kr.seqQ (v := .bool true) (a' := ?_) (by rfl) ?_ ?_ ?_; rotate_left 1; (focus (exact Kr.valOf rfl (eqlI (x := 0) (y := 0) (by decide)))); (focus ((try simp only [Kr.PT]); first | done | rfl)))
  (refine Kr.seqQ (v := ?_) (a' := ?_) (by rfl) ?_ ?_ ?_; rotate_left 2; (focus (go_simp; first | done | rfl)); (focus ((try simp only [Kr.PT]); first | done | rfl)))
  (refine Kr.seqQ (v := ?_) (a' := ?_) (by rfl) ?_ ?_ ?_; rotate_left 2; (focus (go_simp; first | done | rfl)); (focus ((try simp only [Kr.PT]); first | done | rfl)))
  (refine Kr.seqQ (v := .pointer (some ⟨ba, 2, none⟩)) (a' := ?_) (by rfl) ?_ ?_ ?_; rotate_left 1; (focus (go_simp; first | done | rfl)); (focus ((try simp only [Kr.PT]); first | done | rfl)))
  (refine Kr.seqQ (v := .slice none 0 0) (a' := ?_) (by rfl) ?_ ?_ ?_; rotate_left 1; (focus (exact Kr.valOf rfl (ldSl (rowCell (j := 2) (H.at 0 rfl) rfl)))); (focus ((try simp only [Kr.PT]); first | done | rfl)))
  (refine Kr.seqQ (v := .int .i64 0) (a' := ?_) (by rfl) ?_ ?_ ?_; rotate_left 1; (focus (exact Kr.valOf rfl ((by go_simp)))); (focus ((try simp only [Kr.PT]); first | done | rfl)))
  (refine Kr.seqQ (v := .bool true) (a' := ?_) (by rfl) ?_ ?_ ?_; rotate_left 1; (focus (exact Kr.valOf rfl (eqlI (x := 0) (y := 0) (by decide)))); (focus ((try simp only [Kr.PT]); first | done | rfl)))
  (refine Kr.seqQ (v := ?_) (a' := ?_) (by rfl) ?_ ?_ ?_; rotate_left 2; (focus (go_simp; first | done | rfl)); (focus ((try simp only [Kr.PT]); first | done | rfl)))
  (refine Kr.seqQ (v := ?_) (a' := ?_) (by rfl) ?_ ?_ ?_; rotate_left 2; (focus (go_simp; first | done | rfl)); (focus ((try simp only [Kr.PT]); first | done | rfl)))
  (refine Kr.seqQ (v := .pointer (some ⟨ba, 3, none⟩)) (a' := ?_) (by rfl) ?_ ?_ ?_; rotate_left 1; (focus (go_simp; first | done | rfl)); (focus ((try simp only [Kr.PT]); first | done | rfl)))
  (refine Kr.seqQ (v := .slice none 0 0) (a' := ?_) (by rfl) ?_ ?_ ?_; rotate_left 1; (focus (exact Kr.valOf rfl (ldLs (rowCell (j := 3) (H.at 0 rfl) rfl)))); (focus ((try simp only [Kr.PT]); first | done | rfl)))
  (refine Kr.seqQ (v := .int .i64 0) (a' := ?_) (by rfl) ?_ ?_ ?_; rotate_left 1; (focus (exact Kr.valOf rfl ((by go_simp)))); (focus ((try simp only [Kr.PT]); first | done | rfl)))
  (refine Kr.seqQ (v := .bool true) (a' := ?_) (by rfl) ?_ ?_ ?_; rotate_left 1; (focus (exact Kr.valOf rfl (eqlI (x := 0) (y := 0) (by decide)))); (focus ((try simp only [Kr.PT]); first | done | rfl)))
  (refine Kr.seqQ (v := ?_) (a' := ?_) (by rfl) ?_ ?_ ?_; rotate_left 2; (focus (go_simp; first | done | rfl)); (focus ((try simp only [Kr.PT]); first | done | rfl)))
  (refine Kr.seqQ (v := ?_) (a' := ?_) (by rfl) ?_ ?_ ?_; rotate_left 2; (focus (go_simp; first | done | rfl)); (focus ((try simp only [Kr.PT]); first | done | rfl)))
  refine Kr.seqDoneW ?_
  have hk := trivial
  go_wp2
  refine bodyPost_ret (v := .bool true) (by simp [results, Tryd.results29, go_sem, hk]) rfl ⟨rfl, H.g⟩
end Go.Proofs.YtcngcdfngifjnaaDoor.Dg
