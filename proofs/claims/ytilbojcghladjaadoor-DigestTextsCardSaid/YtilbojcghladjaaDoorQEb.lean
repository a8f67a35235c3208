/- The reference's words. -/
import Derived.Test.YtilbojcghladjaaDoorQEa
import Derived.Deep.Cut
namespace Go.Proofs.YtilbojcghladjaaDoor.Dg
open Go Go.RowKit Go.Proofs.YtilbojcghladjaaDoor.Ne Go.Proofs.YtilbojcghladjaaDoor.Kr

set_option linter.unusedSimpArgs false in
set_option maxRecDepth 100000 in
set_option maxHeartbeats 16000000 in
theorem words_v {b off c : Nat} {l : List (BitVec 8)} {w : World} (hB : BytesAt b off l w) (hl : 64 ≤ l.length) :
    Calls Tryd.prog 36 #[.slice (some ⟨b, off, none⟩) 64 c] w fun e w' => ∃ (g cw : Nat) (cur : List Value), e = .returned (.slice (some ⟨g, 0, none⟩) 64 cw) ∧ 64 ≤ cw ∧ w.heap.size ≤ g ∧ w'.heap[g]? = some (.cells cur.toArray 51 (0, 0)) ∧ cur.take 64 = (sch (wordOf l) 64).map w32 ∧ Gr w w' := by
  have HB := Lib.hid hB; clear hB
  obtain ⟨R, hR⟩ : ∃ R, sch (wordOf l) 64 = R := ⟨_, rfl⟩
  rw [hR]; have HRE := Lib.hid hR; clear hR
  have H := Ow.start w
  go_enter Tryd.func36, Tryd.ntmps36
  go_upto_region 0 with fail
  refine Kr.seqStartW ?_
  (refine Kr.seqQ (v := ?_) (a' := ?_) (by rfl) ?_ ?_ ?_; rotate_left 2; (focus (go_simp; first | done | rfl)); (focus ((try simp only [Kr.PT]); first | done | rfl)))
  refine Kr.seqDoneW ?_
  go_upto_region 1 with fail
  refine Kr.seqStartW ?_
  (refine Kr.seqQ (v := ?_) (a' := ?_) (by rfl) ?_ ?_ ?_; rotate_left 2; (focus (go_simp; first | done | rfl)); (focus ((try simp only [Kr.PT]); first | done | rfl)))
  refine Kr.seqDoneW ?_
  go_upto_region 2 with fail
  refine Kr.seqStartW ?_
  (refine Kr.seqQ (v := ?_) (a' := ?_) (by rfl) ?_ ?_ ?_; rotate_left 2; (focus (go_simp; first | done | rfl)); (focus ((try simp only [Kr.PT]); first | done | rfl)))
  refine Kr.seqDoneW ?_
  have hr0 : Hid (RowG 51 w.heap.size (.slice none 0 0) ((sch (wordOf l) 0).map w32) w) := Lib.hid (RowG.nil _ _ _)
  have H2 := Lib.hid H; clear H
  go_wp2_with fail
  go_loopw [3, 4] (fun v iv wr => ∃ i : Nat, i ≤ 16 ∧ iv = .int .i64 (i : Int) ∧ Hid (RowG 51 w.heap.size v ((sch (wordOf l) i).map w32) wr) ∧ Hid (Apt v []) ∧ Hid (Ow w wr [])) (fun _ iv _ => 16 - (intOf iv).toNat)
  case atStart => exact ⟨0, by decide, rfl, hr0, Lib.hid (Apt.nil _), H2⟩
  case round =>
    clear H2 hr0; obtain ⟨i, hi, rfl, HR, HA, HH⟩ := hrel; have H := HH.out; replace HA := HA.out; clear HH
    have hsl : ((sch (wordOf l) i).map w32).length = i := by rw [List.length_map, sch_length]
    by_cases hie : i = 16
    · have HC : decide ((i : Int) < 16) = false := decide_eq_false (by omega)
      rw [hie] at HR; clear hie hsl
      go_upto_region 3 with fail
      refine Kr.seqStartW ?_
      (refine Kr.seqQ (v := ?_) (a' := ?_) (by rfl) ?_ ?_ ?_; rotate_left 2; (focus (go_simp; first | done | rfl)); (focus ((try simp only [Kr.PT]); first | done | rfl)))
      (refine Kr.seqQ (v := .bool false) (a' := ?_) (by rfl) ?_ ?_ ?_; rotate_left 1; (focus (exact Kr.valOf rfl (lssT HC))); (focus ((try simp only [Kr.PT]); first | done | rfl)))
      refine Kr.seqDoneW ?_
      go_upto_region 11 with fail
      refine Kr.seqStartW ?_
      (refine Kr.seqQ (v := ?_) (a' := ?_) (by rfl) ?_ ?_ ?_; rotate_left 2; (focus (go_simp; first | done | rfl)); (focus ((try simp only [Kr.PT]); first | done | rfl)))
      refine Kr.seqDoneW ?_
      have H2 := Lib.hid H; have HA2 := Lib.hid HA; clear H HA hi HC
      go_wp2_with fail
      go_loopw [3, 7] (fun v iv wr => ∃ t : Nat, 16 ≤ t ∧ t ≤ 64 ∧ iv = .int .i64 (t : Int) ∧ Hid (RowG 51 w.heap.size v ((sch (wordOf l) t).map w32) wr) ∧ Hid (Apt v []) ∧ Hid (Ow w wr [])) (fun _ iv _ => 64 - (intOf iv).toNat)
      case atStart => exact ⟨16, by decide, by decide, rfl, HR, HA2, H2⟩
      case round =>
        clear H2 HA2 HR; obtain ⟨t, ht16, ht64, rfl, HR, HA, HH⟩ := hrel; have H := HH.out; replace HA := HA.out; clear HH
        have hsl : ((sch (wordOf l) t).map w32).length = t := by rw [List.length_map, sch_length]
        have hlen := sch_length (wordOf l) t
        obtain ⟨q, cq, hu3, hcq, _, hsrc⟩ := HR.out.src
        rw [hsl] at hu3 hcq
        obtain ⟨bq, oq, rfl⟩ := srcG_some hsrc (by rw [hsl]; omega)
        subst hu3; have HSW := Lib.hid hsrc; clear hsrc
        by_cases hte : t = 64
        · have HC : decide ((t : Int) < 64) = false := decide_eq_false (by omega)
          subst hte
          rw [HRE.out] at HR; clear HSW
          go_upto_region 12 with fail
          refine Kr.seqStartW ?_
          (refine Kr.seqQ (v := ?_) (a' := ?_) (by rfl) ?_ ?_ ?_; rotate_left 2; (focus (go_simp; first | done | rfl)); (focus ((try simp only [Kr.PT]); first | done | rfl)))
          (refine Kr.seqQ (v := .bool false) (a' := ?_) (by rfl) ?_ ?_ ?_; rotate_left 1; (focus (exact Kr.valOf rfl (lssT HC))); (focus ((try simp only [Kr.PT]); first | done | rfl)))
          refine Kr.seqDoneW ?_
          go_upto_region 18 with fail
          refine Kr.seqStartW ?_
          (refine Kr.seqQ (v := ?_) (a' := ?_) (by rfl) ?_ ?_ ?_; rotate_left 2; (focus (go_simp; first | done | rfl)); (focus ((try simp only [Kr.PT]); first | done | rfl)))
          (refine Kr.seqQ (v := ?_) (a' := ?_) (by rfl) ?_ ?_ ?_; rotate_left 2; (focus (go_simp; first | done | rfl)); (focus ((try simp only [Kr.PT]); first | done | rfl)))
          refine Kr.seqDoneW ?_
          have hRl : (R.map w32).length = 64 := by rw [← HRE.out, List.length_map, sch_length]
          obtain ⟨g3, c3, cur3, hv3, _, hb3, hh3, ht3⟩ := rowG_own HR.out (by rw [hRl]; decide)
          rw [hRl] at hv3 ht3; have HH3 := Lib.hid hh3; clear hh3 HR; have hv4 := hv3; simp only [Value.slice.injEq, Option.some.injEq, Addr.mk.injEq] at hv4; obtain ⟨⟨e1, e2, _⟩, _, _⟩ := hv4; subst e1; subst e2
          have hk := trivial
          go_wp2
          refine bodyPost_ret (v := .slice (some ⟨bq, 0, none⟩) 64 cq) (by simp [results, Tryd.results36, go_sem, hk]) rfl ⟨bq, cq, rfl, hcq, hb3, cur3, HH3.out, ht3, H.g⟩
        · have htl : t < 64 := by omega
          have HC : decide ((t : Int) < 64) = true := decide_eq_true (by omega)
          go_upto_region 12 with fail
          refine Kr.seqStartW ?_
          (refine Kr.seqQ (v := ?_) (a' := ?_) (by rfl) ?_ ?_ ?_; rotate_left 2; (focus (go_simp; first | done | rfl)); (focus ((try simp only [Kr.PT]); first | done | rfl)))
          (refine Kr.seqQ (v := .bool true) (a' := ?_) (by rfl) ?_ ?_ ?_; rotate_left 1; (focus (exact Kr.valOf rfl (lssT HC))); (focus ((try simp only [Kr.PT]); first | done | rfl)))
          refine Kr.seqDoneW ?_
          obtain ⟨t15, ht15⟩ : ∃ z, t - 15 = z := ⟨_, rfl⟩
          have hs15 : IntKind.i64.wrap ((t : Int) - 15) = (t15 : Int) := wrap_nat (by omega) (by omega)
          obtain ⟨x15, hx15⟩ : ∃ x, (sch (wordOf l) t).getD t15 0 = x := ⟨_, rfl⟩
          have hg15 := w_get (show t15 < (sch (wordOf l) t).length by omega) hx15
          obtain ⟨t2, ht2⟩ : ∃ z, t - 2 = z := ⟨_, rfl⟩
          have hs2 : IntKind.i64.wrap ((t : Int) - 2) = (t2 : Int) := wrap_nat (by omega) (by omega)
          obtain ⟨x2, hx2⟩ : ∃ x, (sch (wordOf l) t).getD t2 0 = x := ⟨_, rfl⟩
          have hg2 := w_get (show t2 < (sch (wordOf l) t).length by omega) hx2
          obtain ⟨t16, ht16⟩ : ∃ z, t - 16 = z := ⟨_, rfl⟩
          have hs16 : IntKind.i64.wrap ((t : Int) - 16) = (t16 : Int) := wrap_nat (by omega) (by omega)
          obtain ⟨x16, hx16⟩ : ∃ x, (sch (wordOf l) t).getD t16 0 = x := ⟨_, rfl⟩
          have hg16 := w_get (show t16 < (sch (wordOf l) t).length by omega) hx16
          obtain ⟨t7, ht7⟩ : ∃ z, t - 7 = z := ⟨_, rfl⟩
          have hs7 : IntKind.i64.wrap ((t : Int) - 7) = (t7 : Int) := wrap_nat (by omega) (by omega)
          obtain ⟨x7, hx7⟩ : ∃ x, (sch (wordOf l) t).getD t7 0 = x := ⟨_, rfl⟩
          have hg7 := w_get (show t7 < (sch (wordOf l) t).length by omega) hx7
          obtain ⟨r7, hr7⟩ : ∃ z, rr x15 7 = z := ⟨_, rfl⟩
          obtain ⟨r18, hr18⟩ : ∃ z, rr x15 18 = z := ⟨_, rfl⟩
          obtain ⟨q1, hq1⟩ : ∃ z, r7 ^^^ r18 = z := ⟨_, rfl⟩
          obtain ⟨q2, hq2⟩ : ∃ z, x15 >>> 3 = z := ⟨_, rfl⟩
          obtain ⟨S0, hS0⟩ : ∃ z, q1 ^^^ q2 = z := ⟨_, rfl⟩
          obtain ⟨r17, hr17⟩ : ∃ z, rr x2 17 = z := ⟨_, rfl⟩
          obtain ⟨r19, hr19⟩ : ∃ z, rr x2 19 = z := ⟨_, rfl⟩
          obtain ⟨q3, hq3⟩ : ∃ z, r17 ^^^ r19 = z := ⟨_, rfl⟩
          obtain ⟨q4, hq4⟩ : ∃ z, x2 >>> 10 = z := ⟨_, rfl⟩
          obtain ⟨S1, hS1⟩ : ∃ z, q3 ^^^ q4 = z := ⟨_, rfl⟩
          obtain ⟨z1, hz1⟩ : ∃ z, x16 + S0 = z := ⟨_, rfl⟩
          obtain ⟨z2, hz2⟩ : ∃ z, z1 + x7 = z := ⟨_, rfl⟩
          obtain ⟨z3, hz3⟩ : ∃ z, z2 + S1 = z := ⟨_, rfl⟩
          have hnx : nxt (sch (wordOf l) t) t = z3 := by unfold nxt; rw [ht15, ht2, ht16, ht7, hx15, hx2, hx16, hx7, hr7, hr18, hr17, hr19, hq1, hq2, hq3, hq4, hS0, hS1, hz1, hz2, hz3]
          have hsn : (sch (wordOf l) (t + 1)).map w32 = (sch (wordOf l) t).map w32 ++ [w32 z3] := by rw [sch, if_neg (by omega), hnx, List.map_append]; rfl
          go_upto_region 14 with fail
          refine Kr.startL (fun W' => (SrcG (some ⟨bq, oq, none⟩) ((sch (wordOf l) t).map w32) W') ∧ True) [] (by kernel_rfl) ?_
          have gd : Gr wr wr.drew := (Gr.refl _).drew
          generalize wr.drew = d1 at gd ⊢
          replace H := H.grow gd
          replace HR := Lib.hid (HR.out.grow gd)
          replace HSW := Lib.hid (HSW.out.grow gd)
          clear gd
          (refine Kr.tPQ 0 (v := ?_) (a' := ?_) rfl (by kernel_rfl) (fun _ _ _ h => h) (by rfl) (fun _ => ⟨HSW.out, trivial⟩) (fun wx => ?_) ?_ ?_; rotate_left 2; (focus (go_simp; first | done | rfl)); (focus ((try simp only [Kr.PT]); first | done | rfl)))
          (refine Kr.tPQ 1 (v := ?_) (a' := ?_) rfl (by kernel_rfl) (fun _ _ _ h => h) (by rfl) (fun _ => ⟨HSW.out, trivial⟩) (fun wx => ?_) ?_ ?_; rotate_left 2; (focus (go_simp; first | done | rfl)); (focus ((try simp only [Kr.PT]); first | done | rfl)))
          (refine Kr.tPQ 2 (v := .int .i64 (t15 : Int)) (a' := ?_) rfl (by kernel_rfl) (fun _ _ _ h => h) (by rfl) (fun _ => ⟨HSW.out, trivial⟩) (fun wx => ?_) ?_ ?_; rotate_left 1; (focus (exact Kr.valOf rfl (subI hs15))); (focus ((try simp only [Kr.PT]); first | done | rfl)))
          (refine Kr.tPQ 3 (v := .pointer (some ⟨bq, oq + t15, none⟩)) (a' := ?_) rfl (by kernel_rfl) (fun _ _ _ h => h) (by rfl) (fun _ => ⟨HSW.out, trivial⟩) (fun wx => ?_) ?_ ?_; rotate_left 1; (focus (exact Kr.valOf rfl (ixW (by omega)))); (focus ((try simp only [Kr.PT]); first | done | rfl)))
          (refine Kr.tSQ 4 [] (v := .int .u32 ((x15).toNat : Int)) (a' := ?_) rfl (by kernel_rfl) (fun _ _ _ h => h) (by rfl) ⟨HSW.out, trivial⟩ (fun wx hSx => ?_) ?_ ?_; rotate_left 1; (focus (exact Kr.valOf rfl (ldE32 (srcG_get hSx.1 hg15)))); (focus ((try simp only [Kr.PT]); first | done | rfl)))
          (refine Kr.tPQ 5 (v := ?_) (a' := ?_) rfl (by kernel_rfl) (fun _ _ _ h => h) (by rfl) (fun _ => ⟨HSW.out, trivial⟩) (fun wx => ?_) ?_ ?_; rotate_left 2; (focus (go_simp; first | done | rfl)); (focus ((try simp only [Kr.PT]); first | done | rfl)))
          (refine Kr.tPQ 6 (v := ?_) (a' := ?_) rfl (by kernel_rfl) (fun _ _ _ h => h) (by rfl) (fun _ => ⟨HSW.out, trivial⟩) (fun wx => ?_) ?_ ?_; rotate_left 2; (focus (go_simp; first | done | rfl)); (focus ((try simp only [Kr.PT]); first | done | rfl)))
          (refine Kr.tPQ 7 (v := .int .i64 (t2 : Int)) (a' := ?_) rfl (by kernel_rfl) (fun _ _ _ h => h) (by rfl) (fun _ => ⟨HSW.out, trivial⟩) (fun wx => ?_) ?_ ?_; rotate_left 1; (focus (exact Kr.valOf rfl (subI hs2))); (focus ((try simp only [Kr.PT]); first | done | rfl)))
          (refine Kr.tPQ 8 (v := .pointer (some ⟨bq, oq + t2, none⟩)) (a' := ?_) rfl (by kernel_rfl) (fun _ _ _ h => h) (by rfl) (fun _ => ⟨HSW.out, trivial⟩) (fun wx => ?_) ?_ ?_; rotate_left 1; (focus (exact Kr.valOf rfl (ixW (by omega)))); (focus ((try simp only [Kr.PT]); first | done | rfl)))
          (refine Kr.tSQ 9 [] (v := .int .u32 ((x2).toNat : Int)) (a' := ?_) rfl (by kernel_rfl) (fun _ _ _ h => h) (by rfl) ⟨HSW.out, trivial⟩ (fun wx hSx => ?_) ?_ ?_; rotate_left 1; (focus (exact Kr.valOf rfl (ldE32 (srcG_get hSx.1 hg2)))); (focus ((try simp only [Kr.PT]); first | done | rfl)))
          (refine Kr.tPQ 10 (v := ?_) (a' := ?_) rfl (by kernel_rfl) (fun _ _ _ h => h) (by rfl) (fun _ => ⟨HSW.out, trivial⟩) (fun wx => ?_) ?_ ?_; rotate_left 2; (focus (go_simp; first | done | rfl)); (focus ((try simp only [Kr.PT]); first | done | rfl)))
          (refine Kr.tPQ 11 (v := ?_) (a' := ?_) rfl (by kernel_rfl) (fun _ _ _ h => h) (by rfl) (fun _ => ⟨HSW.out, trivial⟩) (fun wx => ?_) ?_ ?_; rotate_left 2; (focus (go_simp; first | done | rfl)); (focus ((try simp only [Kr.PT]); first | done | rfl)))
          refine Kr.doneL (by kernel_rfl) ?_ _
          go_upto_region 15 with fail
          refine Kr.seqStartW ?_
          (refine Kr.seqQ (v := ?_) (a' := ?_) (by rfl) ?_ ?_ ?_; rotate_left 2; (focus (go_simp; first | done | rfl)); (focus ((try simp only [Kr.PT]); first | done | rfl)))
          refine Kr.seqR (by rfl) (fun K hK => ?_)
          go_simp
          go_at_call 37
          have hP := right_v (x := x15) (n := 7) (w := d1) (by decide) (by decide)
          rw [hr7] at hP
          refine (hP).mono ?_
          rintro e y2 ⟨rfl, hg⟩
          replace H := H.grow hg
          replace HR := Lib.hid (HR.out.grow hg)
          replace HSW := Lib.hid (HSW.out.grow hg)
          clear hg
          clear hP
          (refine Kr.outS hK (a' := ?_) ?_ ?_; rotate_left; (focus ((try simp only [Kr.PT]); first | done | rfl))); clear hK K
          (refine Kr.seqQ (v := ?_) (a' := ?_) (by rfl) ?_ ?_ ?_; rotate_left 2; (focus (go_simp; first | done | rfl)); (focus ((try simp only [Kr.PT]); first | done | rfl)))
          refine Kr.seqR (by rfl) (fun K hK => ?_)
          go_simp
          go_at_call 37
          have hP := right_v (x := x15) (n := 18) (w := y2) (by decide) (by decide)
          rw [hr18] at hP
          refine (hP).mono ?_
          rintro e y3 ⟨rfl, hg⟩
          replace H := H.grow hg
          replace HR := Lib.hid (HR.out.grow hg)
          replace HSW := Lib.hid (HSW.out.grow hg)
          clear hg
          clear hP
          (refine Kr.outS hK (a' := ?_) ?_ ?_; rotate_left; (focus ((try simp only [Kr.PT]); first | done | rfl))); clear hK K
          (refine Kr.seqQ (v := .int .u32 ((q1).toNat : Int)) (a' := ?_) (by rfl) ?_ ?_ ?_; rotate_left 1; (focus (exact Kr.valOf rfl ((by rw [← hq1]; exact xorW)))); (focus ((try simp only [Kr.PT]); first | done | rfl)))
          (refine Kr.seqQ (v := ?_) (a' := ?_) (by rfl) ?_ ?_ ?_; rotate_left 2; (focus (go_simp; first | done | rfl)); (focus ((try simp only [Kr.PT]); first | done | rfl)))
          (refine Kr.seqQ (v := .int .u32 ((q2).toNat : Int)) (a' := ?_) (by rfl) ?_ ?_ ?_; rotate_left 1; (focus (exact Kr.valOf rfl ((by rw [← hq2]; exact shr3W)))); (focus ((try simp only [Kr.PT]); first | done | rfl)))
          (refine Kr.seqQ (v := .int .u32 ((S0).toNat : Int)) (a' := ?_) (by rfl) ?_ ?_ ?_; rotate_left 1; (focus (exact Kr.valOf rfl ((by rw [← hS0]; exact xorW)))); (focus ((try simp only [Kr.PT]); first | done | rfl)))
          (refine Kr.seqQ (v := ?_) (a' := ?_) (by rfl) ?_ ?_ ?_; rotate_left 2; (focus (go_simp; first | done | rfl)); (focus ((try simp only [Kr.PT]); first | done | rfl)))
          refine Kr.seqDoneW ?_
          go_upto_region 16 with fail
          refine Kr.seqStartW ?_
          (refine Kr.seqQ (v := ?_) (a' := ?_) (by rfl) ?_ ?_ ?_; rotate_left 2; (focus (go_simp; first | done | rfl)); (focus ((try simp only [Kr.PT]); first | done | rfl)))
          refine Kr.seqR (by rfl) (fun K hK => ?_)
          go_simp
          go_at_call 37
          have hP := right_v (x := x2) (n := 17) (w := y3) (by decide) (by decide)
          rw [hr17] at hP
          refine (hP).mono ?_
          rintro e y4 ⟨rfl, hg⟩
          replace H := H.grow hg
          replace HR := Lib.hid (HR.out.grow hg)
          replace HSW := Lib.hid (HSW.out.grow hg)
          clear hg
          clear hP
          (refine Kr.outS hK (a' := ?_) ?_ ?_; rotate_left; (focus ((try simp only [Kr.PT]); first | done | rfl))); clear hK K
          (refine Kr.seqQ (v := ?_) (a' := ?_) (by rfl) ?_ ?_ ?_; rotate_left 2; (focus (go_simp; first | done | rfl)); (focus ((try simp only [Kr.PT]); first | done | rfl)))
          refine Kr.seqR (by rfl) (fun K hK => ?_)
          go_simp
          go_at_call 37
          have hP := right_v (x := x2) (n := 19) (w := y4) (by decide) (by decide)
          rw [hr19] at hP
          refine (hP).mono ?_
          rintro e y5 ⟨rfl, hg⟩
          replace H := H.grow hg
          replace HR := Lib.hid (HR.out.grow hg)
          replace HSW := Lib.hid (HSW.out.grow hg)
          clear hg
          clear hP
          (refine Kr.outS hK (a' := ?_) ?_ ?_; rotate_left; (focus ((try simp only [Kr.PT]); first | done | rfl))); clear hK K
          (refine Kr.seqQ (v := .int .u32 ((q3).toNat : Int)) (a' := ?_) (by rfl) ?_ ?_ ?_; rotate_left 1; (focus (exact Kr.valOf rfl ((by rw [← hq3]; exact xorW)))); (focus ((try simp only [Kr.PT]); first | done | rfl)))
          (refine Kr.seqQ (v := ?_) (a' := ?_) (by rfl) ?_ ?_ ?_; rotate_left 2; (focus (go_simp; first | done | rfl)); (focus ((try simp only [Kr.PT]); first | done | rfl)))
          (refine Kr.seqQ (v := .int .u32 ((q4).toNat : Int)) (a' := ?_) (by rfl) ?_ ?_ ?_; rotate_left 1; (focus (exact Kr.valOf rfl ((by rw [← hq4]; exact shr10W)))); (focus ((try simp only [Kr.PT]); first | done | rfl)))
          (refine Kr.seqQ (v := .int .u32 ((S1).toNat : Int)) (a' := ?_) (by rfl) ?_ ?_ ?_; rotate_left 1; (focus (exact Kr.valOf rfl ((by rw [← hS1]; exact xorW)))); (focus ((try simp only [Kr.PT]); first | done | rfl)))
          (refine Kr.seqQ (v := ?_) (a' := ?_) (by rfl) ?_ ?_ ?_; rotate_left 2; (focus (go_simp; first | done | rfl)); (focus ((try simp only [Kr.PT]); first | done | rfl)))
          refine Kr.seqDoneW ?_
          go_upto_region 17 with fail
          refine Kr.startL (fun W' => (SrcG (some ⟨bq, oq, none⟩) ((sch (wordOf l) t).map w32) W') ∧ True) [17] (by kernel_rfl) ?_
          have gd : Gr y5 y5.drew := (Gr.refl _).drew
          generalize y5.drew = d6 at gd ⊢
          replace H := H.grow gd
          replace HR := Lib.hid (HR.out.grow gd)
          replace HSW := Lib.hid (HSW.out.grow gd)
          clear gd
          (refine Kr.tPQ 0 (v := ?_) (a' := ?_) rfl (by kernel_rfl) (fun _ _ _ h => h) (by rfl) (fun _ => ⟨HSW.out, trivial⟩) (fun wx => ?_) ?_ ?_; rotate_left 2; (focus (go_simp; first | done | rfl)); (focus ((try simp only [Kr.PT]); first | done | rfl)))
          (refine Kr.tPQ 1 (v := ?_) (a' := ?_) rfl (by kernel_rfl) (fun _ _ _ h => h) (by rfl) (fun _ => ⟨HSW.out, trivial⟩) (fun wx => ?_) ?_ ?_; rotate_left 2; (focus (go_simp; first | done | rfl)); (focus ((try simp only [Kr.PT]); first | done | rfl)))
          (refine Kr.tPQ 2 (v := ?_) (a' := ?_) rfl (by kernel_rfl) (fun _ _ _ h => h) (by rfl) (fun _ => ⟨HSW.out, trivial⟩) (fun wx => ?_) ?_ ?_; rotate_left 2; (focus (go_simp; first | done | rfl)); (focus ((try simp only [Kr.PT]); first | done | rfl)))
          (refine Kr.tPQ 3 (v := .int .i64 (t16 : Int)) (a' := ?_) rfl (by kernel_rfl) (fun _ _ _ h => h) (by rfl) (fun _ => ⟨HSW.out, trivial⟩) (fun wx => ?_) ?_ ?_; rotate_left 1; (focus (exact Kr.valOf rfl (subI hs16))); (focus ((try simp only [Kr.PT]); first | done | rfl)))
          (refine Kr.tPQ 4 (v := .pointer (some ⟨bq, oq + t16, none⟩)) (a' := ?_) rfl (by kernel_rfl) (fun _ _ _ h => h) (by rfl) (fun _ => ⟨HSW.out, trivial⟩) (fun wx => ?_) ?_ ?_; rotate_left 1; (focus (exact Kr.valOf rfl (ixW (by omega)))); (focus ((try simp only [Kr.PT]); first | done | rfl)))
          (refine Kr.tSQ 5 [7, 13, 15, 16, 17, 18] (v := .int .u32 ((x16).toNat : Int)) (a' := ?_) rfl (by kernel_rfl) (fun _ _ _ h => h) (by rfl) ⟨HSW.out, trivial⟩ (fun wx hSx => ?_) ?_ ?_; rotate_left 1; (focus (exact Kr.valOf rfl (ldE32 (srcG_get hSx.1 hg16)))); (focus ((try simp only [Kr.PT]); first | done | rfl)))
          (refine Kr.tPQ 6 (v := ?_) (a' := ?_) rfl (by kernel_rfl) (fun _ _ _ h => h) (by rfl) (fun _ => ⟨HSW.out, trivial⟩) (fun wx => ?_) ?_ ?_; rotate_left 2; (focus (go_simp; first | done | rfl)); (focus ((try simp only [Kr.PT]); first | done | rfl)))
          (refine Kr.tPQ 7 (v := .int .u32 ((z1).toNat : Int)) (a' := ?_) rfl (by kernel_rfl) (fun _ _ _ h => h) (by rfl) (fun _ => ⟨HSW.out, trivial⟩) (fun wx => ?_) ?_ ?_; rotate_left 1; (focus (exact Kr.valOf rfl ((by rw [← hz1]; exact addW)))); (focus ((try simp only [Kr.PT]); first | done | rfl)))
          (refine Kr.tPQ 8 (v := ?_) (a' := ?_) rfl (by kernel_rfl) (fun _ _ _ h => h) (by rfl) (fun _ => ⟨HSW.out, trivial⟩) (fun wx => ?_) ?_ ?_; rotate_left 2; (focus (go_simp; first | done | rfl)); (focus ((try simp only [Kr.PT]); first | done | rfl)))
          (refine Kr.tPQ 9 (v := ?_) (a' := ?_) rfl (by kernel_rfl) (fun _ _ _ h => h) (by rfl) (fun _ => ⟨HSW.out, trivial⟩) (fun wx => ?_) ?_ ?_; rotate_left 2; (focus (go_simp; first | done | rfl)); (focus ((try simp only [Kr.PT]); first | done | rfl)))
          (refine Kr.tPQ 10 (v := .int .i64 (t7 : Int)) (a' := ?_) rfl (by kernel_rfl) (fun _ _ _ h => h) (by rfl) (fun _ => ⟨HSW.out, trivial⟩) (fun wx => ?_) ?_ ?_; rotate_left 1; (focus (exact Kr.valOf rfl (subI hs7))); (focus ((try simp only [Kr.PT]); first | done | rfl)))
          (refine Kr.tPQ 11 (v := .pointer (some ⟨bq, oq + t7, none⟩)) (a' := ?_) rfl (by kernel_rfl) (fun _ _ _ h => h) (by rfl) (fun _ => ⟨HSW.out, trivial⟩) (fun wx => ?_) ?_ ?_; rotate_left 1; (focus (exact Kr.valOf rfl (ixW (by omega)))); (focus ((try simp only [Kr.PT]); first | done | rfl)))
          (refine Kr.tSQ 12 [13, 15, 16, 17, 18] (v := .int .u32 ((x7).toNat : Int)) (a' := ?_) rfl (by kernel_rfl) (fun _ _ _ h => h) (by rfl) ⟨HSW.out, trivial⟩ (fun wx hSx => ?_) ?_ ?_; rotate_left 1; (focus (exact Kr.valOf rfl (ldE32 (srcG_get hSx.1 hg7)))); (focus ((try simp only [Kr.PT]); first | done | rfl)))
          (refine Kr.tPQ 13 (v := .int .u32 ((z2).toNat : Int)) (a' := ?_) rfl (by kernel_rfl) (fun _ _ _ h => h) (by rfl) (fun _ => ⟨HSW.out, trivial⟩) (fun wx => ?_) ?_ ?_; rotate_left 1; (focus (exact Kr.valOf rfl ((by rw [← hz2]; exact addW)))); (focus ((try simp only [Kr.PT]); first | done | rfl)))
          (refine Kr.tPQ 14 (v := ?_) (a' := ?_) rfl (by kernel_rfl) (fun _ _ _ h => h) (by rfl) (fun _ => ⟨HSW.out, trivial⟩) (fun wx => ?_) ?_ ?_; rotate_left 2; (focus (go_simp; first | done | rfl)); (focus ((try simp only [Kr.PT]); first | done | rfl)))
          (refine Kr.tPQ 15 (v := .int .u32 ((z3).toNat : Int)) (a' := ?_) rfl (by kernel_rfl) (fun _ _ _ h => h) (by rfl) (fun _ => ⟨HSW.out, trivial⟩) (fun wx => ?_) ?_ ?_; rotate_left 1; (focus (exact Kr.valOf rfl ((by rw [← hz3]; exact addW)))); (focus ((try simp only [Kr.PT]); first | done | rfl)))
          refine Kr.readyL (rs := [16]) (by kernel_rfl) (by simp) ?_
          refine Kr.AllL.cons rfl (fun K hK => ?_) Kr.AllL.nil
          go_simp
          obtain ⟨y7, hy⟩ : ∃ y, d6.alloc (.cells #[.int .u32 ((z3).toNat : Int)] 51) = y := ⟨_, rfl⟩
          obtain ⟨bone, hbn⟩ : ∃ b, d6.heap.size = b := ⟨_, rfl⟩
          rw [hy, hbn]
          have hy2 : d6.alloc (.cells ([.int .u32 ((z3).toNat : Int)] : List Value).toArray 51) = y7 := hy
          have hg : Gr d6 y7 := hy ▸ (Gr.refl _).alloc _
          have HLIT := Lib.hid (hbn ▸ hy2 ▸ lit_src (W := d6) (T := 51) [.int .u32 ((z3).toNat : Int)]); clear hy2
          replace H := H.grow hg
          replace HR := Lib.hid (HR.out.grow hg)
          replace HSW := Lib.hid (HSW.out.grow hg)
          clear hg hy hbn
          (refine Kr.outL hK (a' := ?_) ?_ (fun _ => ⟨HSW.out, trivial⟩) ?_; rotate_left; (focus ((try simp only [Kr.PT]); first | done | rfl))); clear hK K
          refine Kr.readyL (rs := [17]) (by kernel_rfl) (by simp) ?_
          refine Kr.AllL.cons rfl (fun K hK => ?_) Kr.AllL.nil
          rw [if_pos (by rfl)]
          refine wp_appG (T := 51) (TS := 63) Tryd.underlying63 info32 rfl (.tmp 65) (.tmp 81) rfl (v := (.slice (some ⟨bq, oq, none⟩) t cq)) (r := ((sch (wordOf l) t).map w32)) (d := [w32 z3]) (p := (some ⟨bone, 0, none⟩)) (m := 1) (c := 1) (rs := []) rfl rfl (rfl) (HLIT.out) (one_litw [z3]) (fun e => by cases e) H HR.out HA (by rw [hsl]; omega) (by decide) ?_
          intro v1 y8 H3 hR3 hA3
          clear H HR HA HLIT; have H := H3; have HR := Lib.hid hR3; have HA := hA3; clear H3 hR3 hA3
          (refine Kr.outL hK (a' := ?_) ?_ (Kr.noStill (by kernel_rfl)) ?_; rotate_left; (focus ((try simp only [Kr.PT]); first | done | rfl))); clear hK K
          (refine Kr.tPQ 18 (v := ?_) (a' := ?_) rfl (by kernel_rfl) (fun _ _ _ h => h) (by rfl) (Kr.noStill (by kernel_rfl)) (fun wx => ?_) ?_ ?_; rotate_left 2; (focus (go_simp; first | done | rfl)); (focus ((try simp only [Kr.PT]); first | done | rfl)))
          refine Kr.doneL (by kernel_rfl) ?_ _
          rw [← hsn] at HR
          have HADD : IntKind.i64.wrap ((t : Int) + 1) = ((t + 1 : Nat) : Int) := wrap_nat (by omega) (by omega)
          go_upto_region 13 with fail
          refine Kr.seqStartW ?_
          (refine Kr.seqQ (v := ?_) (a' := ?_) (by rfl) ?_ ?_ ?_; rotate_left 2; (focus (go_simp; first | done | rfl)); (focus ((try simp only [Kr.PT]); first | done | rfl)))
          (refine Kr.seqQ (v := .int .i64 ((t + 1 : Nat) : Int)) (a' := ?_) (by rfl) ?_ ?_ ?_; rotate_left 1; (focus (exact Kr.valOf rfl (addI HADD))); (focus ((try simp only [Kr.PT]); first | done | rfl)))
          (refine Kr.seqQ (v := ?_) (a' := ?_) (by rfl) ?_ ?_ ?_; rotate_left 2; (focus (go_simp; first | done | rfl)); (focus ((try simp only [Kr.PT]); first | done | rfl)))
          refine Kr.seqDoneW ?_
          go_wp2; go_roundw
          case rel => exact ⟨t + 1, by omega, by omega, rfl, HR, Lib.hid HA, Lib.hid H⟩
          case measure => simp [intOf]; omega
    · have hil : i < 16 := by omega
      have HC : decide ((i : Int) < 16) = true := decide_eq_true (by omega)
      go_upto_region 3 with fail
      refine Kr.seqStartW ?_
      (refine Kr.seqQ (v := ?_) (a' := ?_) (by rfl) ?_ ?_ ?_; rotate_left 2; (focus (go_simp; first | done | rfl)); (focus ((try simp only [Kr.PT]); first | done | rfl)))
      (refine Kr.seqQ (v := .bool true) (a' := ?_) (by rfl) ?_ ?_ ?_; rotate_left 1; (focus (exact Kr.valOf rfl (lssT HC))); (focus ((try simp only [Kr.PT]); first | done | rfl)))
      refine Kr.seqDoneW ?_
      go_upto_region 5 with fail
      refine Kr.seqStartW ?_
      (refine Kr.seqQ (v := ?_) (a' := ?_) (by rfl) ?_ ?_ ?_; rotate_left 2; (focus (go_simp; first | done | rfl)); (focus ((try simp only [Kr.PT]); first | done | rfl)))
      refine Kr.seqDoneW ?_
      go_upto_region 6 with fail
      refine Kr.seqStartW ?_
      (refine Kr.seqQ (v := ?_) (a' := ?_) (by rfl) ?_ ?_ ?_; rotate_left 2; (focus (go_simp; first | done | rfl)); (focus ((try simp only [Kr.PT]); first | done | rfl)))
      refine Kr.seqDoneW ?_
      have H2 := Lib.hid H; have HR2 := HR; clear H HR
      go_wp2_with fail
      go_loopw [5, 6] (fun xv kv wr => ∃ (k : Nat) (x : BitVec 32), k ≤ 4 ∧ pw4 l i k = x ∧ xv = .int .u32 (x.toNat : Int) ∧ kv = .int .i64 (k : Int) ∧ Hid (RowG 51 w.heap.size u3 ((sch (wordOf l) i).map w32) wr) ∧ Hid (Ow w wr [])) (fun _ kv _ => 4 - (intOf kv).toNat)
      case atStart => exact ⟨0, 0#32, by decide, rfl, rfl, rfl, HR2, H2⟩
      case round =>
        clear H2 HR2; obtain ⟨k, x, hk, hx, rfl, rfl, HR, HH⟩ := hrel; have H := HH.out; clear HH
        by_cases hke : k = 4
        · have HC4 : decide ((k : Int) < 4) = false := decide_eq_false (by omega)
          have hxw : wordOf l i = x := by rw [← pw4_word, ← hke]; exact hx
          have hsn : (sch (wordOf l) (i + 1)).map w32 = (sch (wordOf l) i).map w32 ++ [w32 x] := by rw [sch, if_pos hil, hxw, List.map_append]; rfl
          clear hke
          go_upto_region 7 with fail
          refine Kr.seqStartW ?_
          (refine Kr.seqQ (v := ?_) (a' := ?_) (by rfl) ?_ ?_ ?_; rotate_left 2; (focus (go_simp; first | done | rfl)); (focus ((try simp only [Kr.PT]); first | done | rfl)))
          (refine Kr.seqQ (v := .bool false) (a' := ?_) (by rfl) ?_ ?_ ?_; rotate_left 1; (focus (exact Kr.valOf rfl (lssT HC4))); (focus ((try simp only [Kr.PT]); first | done | rfl)))
          refine Kr.seqDoneW ?_
          obtain ⟨q, cq, hu3, hcq, _, _⟩ := HR.out.src
          rw [hsl] at hu3 hcq; clear hu3
          go_upto_region 10 with fail
          refine Kr.seqStartW ?_
          (refine Kr.seqQ (v := ?_) (a' := ?_) (by rfl) ?_ ?_ ?_; rotate_left 2; (focus (go_simp; first | done | rfl)); (focus ((try simp only [Kr.PT]); first | done | rfl)))
          (refine Kr.seqQ (v := ?_) (a' := ?_) (by rfl) ?_ ?_ ?_; rotate_left 2; (focus (go_simp; first | done | rfl)); (focus ((try simp only [Kr.PT]); first | done | rfl)))
          refine Kr.seqR (by rfl) (fun K hK => ?_)
          go_simp
          obtain ⟨y9, hy⟩ : ∃ y, wr.alloc (.cells #[.int .u32 ((x).toNat : Int)] 51) = y := ⟨_, rfl⟩
          obtain ⟨bone, hbn⟩ : ∃ b, wr.heap.size = b := ⟨_, rfl⟩
          rw [hy, hbn]
          have hy2 : wr.alloc (.cells ([.int .u32 ((x).toNat : Int)] : List Value).toArray 51) = y9 := hy
          have hg : Gr wr y9 := hy ▸ (Gr.refl _).alloc _
          have HLIT := Lib.hid (hbn ▸ hy2 ▸ lit_src (W := wr) (T := 51) [.int .u32 ((x).toNat : Int)]); clear hy2
          replace H := H.grow hg
          replace HR := Lib.hid (HR.out.grow hg)
          clear hg hy hbn
          (refine Kr.outS hK (a' := ?_) ?_ ?_; rotate_left; (focus ((try simp only [Kr.PT]); first | done | rfl))); clear hK K
          refine Kr.seqR (by rfl) (fun K hK => ?_)
          refine wp_appG (T := 51) (TS := 63) Tryd.underlying63 info32 rfl (.tmp 31) (.tmp 33) rfl (v := u3) (r := ((sch (wordOf l) i).map w32)) (d := [w32 x]) (p := (some ⟨bone, 0, none⟩)) (m := 1) (c := 1) (rs := []) rfl rfl (rfl) (HLIT.out) (one_litw [x]) (fun e => by cases e) H HR.out HA (by rw [hsl]; omega) (by decide) ?_
          intro v1 y10 H3 hR3 hA3
          clear H HR HA HLIT; have H := H3; have HR := Lib.hid hR3; have HA := hA3; clear H3 hR3 hA3
          (refine Kr.outS hK (a' := ?_) ?_ ?_; rotate_left; (focus ((try simp only [Kr.PT]); first | done | rfl))); clear hK K
          (refine Kr.seqQ (v := ?_) (a' := ?_) (by rfl) ?_ ?_ ?_; rotate_left 2; (focus (go_simp; first | done | rfl)); (focus ((try simp only [Kr.PT]); first | done | rfl)))
          refine Kr.seqDoneW ?_
          rw [← hsn] at HR
          have HADD : IntKind.i64.wrap ((i : Int) + 1) = ((i + 1 : Nat) : Int) := wrap_nat (by omega) (by omega)
          go_upto_region 4 with fail
          refine Kr.seqStartW ?_
          (refine Kr.seqQ (v := ?_) (a' := ?_) (by rfl) ?_ ?_ ?_; rotate_left 2; (focus (go_simp; first | done | rfl)); (focus ((try simp only [Kr.PT]); first | done | rfl)))
          (refine Kr.seqQ (v := .int .i64 ((i + 1 : Nat) : Int)) (a' := ?_) (by rfl) ?_ ?_ ?_; rotate_left 1; (focus (exact Kr.valOf rfl (addI HADD))); (focus ((try simp only [Kr.PT]); first | done | rfl)))
          (refine Kr.seqQ (v := ?_) (a' := ?_) (by rfl) ?_ ?_ ?_; rotate_left 2; (focus (go_simp; first | done | rfl)); (focus ((try simp only [Kr.PT]); first | done | rfl)))
          refine Kr.seqDoneW ?_
          go_wp2; go_roundw
          case rel => exact ⟨i + 1, by omega, rfl, HR, Lib.hid HA, Lib.hid H⟩
          case measure => simp [intOf]; omega
        · have hkl : k < 4 := by omega
          have HC4 : decide ((k : Int) < 4) = true := decide_eq_true (by omega)
          obtain ⟨i4, hi4⟩ : ∃ z, 4 * i = z := ⟨_, rfl⟩
          obtain ⟨ik, hik⟩ : ∃ z, i4 + k = z := ⟨_, rfl⟩
          have hmul : IntKind.i64.wrap ((4 : Int) * (i : Int)) = (i4 : Int) := wrap_nat (by omega) (by omega)
          have hadd : IntKind.i64.wrap ((i4 : Int) + (k : Int)) = (ik : Int) := wrap_nat (by omega) (by omega)
          obtain ⟨y0, hy0⟩ : ∃ y, l.getD ik 0 = y := ⟨_, rfl⟩
          have hgy : l[ik]? = some y0 := hy0 ▸ getD_of (by omega)
          obtain ⟨m1, hm1⟩ : ∃ z, x * 256#32 = z := ⟨_, rfl⟩
          obtain ⟨y1, hy1⟩ : ∃ z, y0.setWidth 32 = z := ⟨_, rfl⟩
          obtain ⟨m2, hm2⟩ : ∃ z, m1 + y1 = z := ⟨_, rfl⟩
          have hpn : pw4 l i (k + 1) = m2 := by rw [pw4, hx, hi4, hik, hy0, hy1, hm1, hm2]
          go_upto_region 7 with fail
          refine Kr.seqStartW ?_
          (refine Kr.seqQ (v := ?_) (a' := ?_) (by rfl) ?_ ?_ ?_; rotate_left 2; (focus (go_simp; first | done | rfl)); (focus ((try simp only [Kr.PT]); first | done | rfl)))
          (refine Kr.seqQ (v := .bool true) (a' := ?_) (by rfl) ?_ ?_ ?_; rotate_left 1; (focus (exact Kr.valOf rfl (lssT HC4))); (focus ((try simp only [Kr.PT]); first | done | rfl)))
          refine Kr.seqDoneW ?_
          go_upto_region 9 with fail
          refine Kr.seqStartW ?_
          (refine Kr.seqQ (v := ?_) (a' := ?_) (by rfl) ?_ ?_ ?_; rotate_left 2; (focus (go_simp; first | done | rfl)); (focus ((try simp only [Kr.PT]); first | done | rfl)))
          (refine Kr.seqQ (v := .int .u32 ((m1).toNat : Int)) (a' := ?_) (by rfl) ?_ ?_ ?_; rotate_left 1; (focus (exact Kr.valOf rfl ((by rw [← hm1]; exact mulW)))); (focus ((try simp only [Kr.PT]); first | done | rfl)))
          (refine Kr.seqQ (v := ?_) (a' := ?_) (by rfl) ?_ ?_ ?_; rotate_left 2; (focus (go_simp; first | done | rfl)); (focus ((try simp only [Kr.PT]); first | done | rfl)))
          (refine Kr.seqQ (v := ?_) (a' := ?_) (by rfl) ?_ ?_ ?_; rotate_left 2; (focus (go_simp; first | done | rfl)); (focus ((try simp only [Kr.PT]); first | done | rfl)))
          (refine Kr.seqQ (v := .int .i64 (i4 : Int)) (a' := ?_) (by rfl) ?_ ?_ ?_; rotate_left 1; (focus (exact Kr.valOf rfl (mulI hmul))); (focus ((try simp only [Kr.PT]); first | done | rfl)))
          (refine Kr.seqQ (v := ?_) (a' := ?_) (by rfl) ?_ ?_ ?_; rotate_left 2; (focus (go_simp; first | done | rfl)); (focus ((try simp only [Kr.PT]); first | done | rfl)))
          (refine Kr.seqQ (v := .int .i64 (ik : Int)) (a' := ?_) (by rfl) ?_ ?_ ?_; rotate_left 1; (focus (exact Kr.valOf rfl (addI hadd))); (focus ((try simp only [Kr.PT]); first | done | rfl)))
          (refine Kr.seqQ (v := .pointer (some ⟨b, off + ik, none⟩)) (a' := ?_) (by rfl) ?_ ?_ ?_; rotate_left 1; (focus (exact Kr.valOf rfl (ixB (by omega)))); (focus ((try simp only [Kr.PT]); first | done | rfl)))
          (refine Kr.seqQ (v := .int .u8 ((y0).toNat : Int)) (a' := ?_) (by rfl) ?_ ?_ ?_; rotate_left 1; (focus (exact Kr.valOf rfl (ldE8 ((HB.out.grow H.g) ik y0 hgy)))); (focus ((try simp only [Kr.PT]); first | done | rfl)))
          (refine Kr.seqQ (v := .int .u32 ((y1).toNat : Int)) (a' := ?_) (by rfl) ?_ ?_ ?_; rotate_left 1; (focus (exact Kr.valOf rfl ((by rw [← hy1]; exact conv8W)))); (focus ((try simp only [Kr.PT]); first | done | rfl)))
          (refine Kr.seqQ (v := .int .u32 ((m2).toNat : Int)) (a' := ?_) (by rfl) ?_ ?_ ?_; rotate_left 1; (focus (exact Kr.valOf rfl ((by rw [← hm2]; exact addW)))); (focus ((try simp only [Kr.PT]); first | done | rfl)))
          (refine Kr.seqQ (v := ?_) (a' := ?_) (by rfl) ?_ ?_ ?_; rotate_left 2; (focus (go_simp; first | done | rfl)); (focus ((try simp only [Kr.PT]); first | done | rfl)))
          refine Kr.seqDoneW ?_
          have HADD : IntKind.i64.wrap ((k : Int) + 1) = ((k + 1 : Nat) : Int) := wrap_nat (by omega) (by omega)
          go_upto_region 8 with fail
          refine Kr.seqStartW ?_
          (refine Kr.seqQ (v := ?_) (a' := ?_) (by rfl) ?_ ?_ ?_; rotate_left 2; (focus (go_simp; first | done | rfl)); (focus ((try simp only [Kr.PT]); first | done | rfl)))
          (refine Kr.seqQ (v := .int .i64 ((k + 1 : Nat) : Int)) (a' := ?_) (by rfl) ?_ ?_ ?_; rotate_left 1; (focus (exact Kr.valOf rfl (addI HADD))); (focus ((try simp only [Kr.PT]); first | done | rfl)))
          (refine Kr.seqQ (v := ?_) (a' := ?_) (by rfl) ?_ ?_ ?_; rotate_left 2; (focus (go_simp; first | done | rfl)); (focus ((try simp only [Kr.PT]); first | done | rfl)))
          refine Kr.seqDoneW ?_
          go_wp2; go_roundw
          case rel => exact ⟨k + 1, m2, by omega, hpn, rfl, rfl, HR, Lib.hid H⟩
          case measure => simp [intOf]; omega
end Go.Proofs.YtilbojcghladjaaDoor.Dg
