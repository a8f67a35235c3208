/- A part of the proofs, joined of smaller texts: Eb, Ec, Ed, Ee, Ef, Eg, Ej, Ek, El, En, Eq, Eu, Ba, Bb, Bc. -/
import Derived.Test.YtldgjhmefaapeaaDoorPs2
import Derived.Deep.Cut
import Derived.Laws.Rows
import Derived.ChangeSlices
import Derived.Lib.AppendZeros
import Derived.Laws.ResultCell
import Derived.Laws.IdiomStrings

/- The reference's words. -/
namespace Go.Proofs.YtldgjhmefaapeaaDoor.Dg
open Go Go.RowKit Go.Proofs.YtldgjhmefaapeaaDoor.Ne Go.Proofs.YtldgjhmefaapeaaDoor.Kr

set_option linter.unusedSimpArgs false in
set_option maxRecDepth 100000 in
set_option maxHeartbeats 16000000 in
theorem words_v {b off c : Nat} {l : List (BitVec 8)} {w : World} (hB : BytesAt b off l w) (hl : 64 ≤ l.length) :
    Calls Tryd.prog 45 #[.slice (some ⟨b, off, none⟩) 64 c] w fun e w' => ∃ (g cw : Nat) (cur : List Value), e = .returned (.slice (some ⟨g, 0, none⟩) 64 cw) ∧ 64 ≤ cw ∧ w.heap.size ≤ g ∧ w'.heap[g]? = some (.cells cur.toArray 38 (0, 0)) ∧ cur.take 64 = (sch (wordOf l) 64).map w32 ∧ Gr w w' := by
  have HB := Lib.hid hB; clear hB
  obtain ⟨R, hR⟩ : ∃ R, sch (wordOf l) 64 = R := ⟨_, rfl⟩
  rw [hR]; have HRE := Lib.hid hR; clear hR
  have H := Ow.start w
  go_enter Tryd.func45, Tryd.ntmps45
  go_upto_region 0 with fail
  refine Kr.seqStartW ?_
  (refine Kr.seqQ (v := ?_) (a' := ?_) (by rfl) ?_ ?_ ?_; rotate_left 2; (focus (go_simp; first | done | rfl)); (focus ((try simp only [Kr.PT]); first | done | rfl)))
  refine Kr.seqDoneW ?_
  go_upto_region 1 with fail
  refine Kr.seqStartW ?_
  (refine Kr.seqQ (v := ?_) (a' := ?_) (by rfl) ?_ ?_ ?_; rotate_left 2; (focus (go_simp; first | done | rfl)); (focus ((try simp only [Kr.PT]); first | done | rfl)))
  refine Kr.seqDoneW ?_
  go_upto_region 2 with fail
  refine Kr.seqStartW ?_
  (refine Kr.seqQ (v := ?_) (a' := ?_) (by rfl) ?_ ?_ ?_; rotate_left 2; (focus (go_simp; first | done | rfl)); (focus ((try simp only [Kr.PT]); first | done | rfl)))
  refine Kr.seqDoneW ?_
  have hr0 : Hid (RowG 38 w.heap.size (.slice none 0 0) ((sch (wordOf l) 0).map w32) w) := Lib.hid (RowG.nil _ _ _)
  have H2 := Lib.hid H; clear H
  go_wp2_with fail
  go_loopw [3, 4] (fun v iv wr => ∃ i : Nat, i ≤ 16 ∧ iv = .int .i64 (i : Int) ∧ Hid (RowG 38 w.heap.size v ((sch (wordOf l) i).map w32) wr) ∧ Hid (Apt v []) ∧ Hid (Ow w wr [])) (fun _ iv _ => 16 - (intOf iv).toNat)
  case atStart => exact ⟨0, by decide, rfl, hr0, Lib.hid (Apt.nil _), H2⟩
  case round =>
    clear H2 hr0; obtain ⟨i, hi, rfl, HR, HA, HH⟩ := hrel; have H := HH.out; replace HA := HA.out; clear HH
    have hsl : ((sch (wordOf l) i).map w32).length = i := by rw [List.length_map, sch_length]
    by_cases hie : i = 16
    · have HC : decide ((i : Int) < 16) = false := decide_eq_false (by omega)
      rw [hie] at HR; clear hie hsl
      go_upto_region 3 with fail
      refine Kr.seqStartW ?_
      (refine Kr.seqQ (v := ?_) (a' := ?_) (by rfl) ?_ ?_ ?_; rotate_left 2; (focus (go_simp; first | done | rfl)); (focus ((try simp only [Kr.PT]); first | done | rfl)))
      (refine Kr.seqQ (v := .bool false) (a' := ?_) (by rfl) ?_ ?_ ?_; rotate_left 1; (focus (exact Kr.valOf rfl (lssT HC))); (focus ((try simp only [Kr.PT]); first | done | rfl)))
      refine Kr.seqDoneW ?_
      go_upto_region 11 with fail
      refine Kr.seqStartW ?_
      (refine Kr.seqQ (v := ?_) (a' := ?_) (by rfl) ?_ ?_ ?_; rotate_left 2; (focus (go_simp; first | done | rfl)); (focus ((try simp only [Kr.PT]); first | done | rfl)))
      refine Kr.seqDoneW ?_
      have H2 := Lib.hid H; have HA2 := Lib.hid HA; clear H HA hi HC
      go_wp2_with fail
      go_loopw [3, 7] (fun v iv wr => ∃ t : Nat, 16 ≤ t ∧ t ≤ 64 ∧ iv = .int .i64 (t : Int) ∧ Hid (RowG 38 w.heap.size v ((sch (wordOf l) t).map w32) wr) ∧ Hid (Apt v []) ∧ Hid (Ow w wr [])) (fun _ iv _ => 64 - (intOf iv).toNat)
      case atStart => exact ⟨16, by decide, by decide, rfl, HR, HA2, H2⟩
      case round =>
        clear H2 HA2 HR; obtain ⟨t, ht16, ht64, rfl, HR, HA, HH⟩ := hrel; have H := HH.out; replace HA := HA.out; clear HH
        have hsl : ((sch (wordOf l) t).map w32).length = t := by rw [List.length_map, sch_length]
        have hlen := sch_length (wordOf l) t
        obtain ⟨q, cq, hu3, hcq, _, hsrc⟩ := HR.out.src
        rw [hsl] at hu3 hcq
        obtain ⟨bq, oq, rfl⟩ := srcG_some hsrc (by rw [hsl]; omega)
        subst hu3; have HSW := Lib.hid hsrc; clear hsrc
        by_cases hte : t = 64
        · have HC : decide ((t : Int) < 64) = false := decide_eq_false (by omega)
          subst hte
          rw [HRE.out] at HR; clear HSW
          go_upto_region 12 with fail
          refine Kr.seqStartW ?_
          (refine Kr.seqQ (v := ?_) (a' := ?_) (by rfl) ?_ ?_ ?_; rotate_left 2; (focus (go_simp; first | done | rfl)); (focus ((try simp only [Kr.PT]); first | done | rfl)))
          (refine Kr.seqQ (v := .bool false) (a' := ?_) (by rfl) ?_ ?_ ?_; rotate_left 1; (focus (exact Kr.valOf rfl (lssT HC))); (focus ((try simp only [Kr.PT]); first | done | rfl)))
          refine Kr.seqDoneW ?_
          go_upto_region 18 with fail
          refine Kr.seqStartW ?_
          (refine Kr.seqQ (v := ?_) (a' := ?_) (by rfl) ?_ ?_ ?_; rotate_left 2; (focus (go_simp; first | done | rfl)); (focus ((try simp only [Kr.PT]); first | done | rfl)))
          (refine Kr.seqQ (v := ?_) (a' := ?_) (by rfl) ?_ ?_ ?_; rotate_left 2; (focus (go_simp; first | done | rfl)); (focus ((try simp only [Kr.PT]); first | done | rfl)))
          refine Kr.seqDoneW ?_
          have hRl : (R.map w32).length = 64 := by rw [← HRE.out, List.length_map, sch_length]
          obtain ⟨g3, c3, cur3, hv3, _, hb3, hh3, ht3⟩ := rowG_own HR.out (by rw [hRl]; decide)
          rw [hRl] at hv3 ht3; have HH3 := Lib.hid hh3; clear hh3 HR; have hv4 := hv3; simp only [Value.slice.injEq, Option.some.injEq, Addr.mk.injEq] at hv4; obtain ⟨⟨e1, e2, _⟩, _, _⟩ := hv4; subst e1; subst e2
          have hk := trivial
          go_wp2
          refine bodyPost_ret (v := .slice (some ⟨bq, 0, none⟩) 64 cq) (by simp [results, Tryd.results45, go_sem, hk]) rfl ⟨bq, cq, rfl, hcq, hb3, cur3, HH3.out, ht3, H.g⟩
        · have htl : t < 64 := by omega
          have HC : decide ((t : Int) < 64) = true := decide_eq_true (by omega)
          go_upto_region 12 with fail
          refine Kr.seqStartW ?_
          (refine Kr.seqQ (v := ?_) (a' := ?_) (by rfl) ?_ ?_ ?_; rotate_left 2; (focus (go_simp; first | done | rfl)); (focus ((try simp only [Kr.PT]); first | done | rfl)))
          (refine Kr.seqQ (v := .bool true) (a' := ?_) (by rfl) ?_ ?_ ?_; rotate_left 1; (focus (exact Kr.valOf rfl (lssT HC))); (focus ((try simp only [Kr.PT]); first | done | rfl)))
          refine Kr.seqDoneW ?_
          obtain ⟨t15, ht15⟩ : ∃ z, t - 15 = z := ⟨_, rfl⟩
          have hs15 : IntKind.i64.wrap ((t : Int) - 15) = (t15 : Int) := wrap_nat (by omega) (by omega)
          obtain ⟨x15, hx15⟩ : ∃ x, (sch (wordOf l) t).getD t15 0 = x := ⟨_, rfl⟩
          have hg15 := w_get (show t15 < (sch (wordOf l) t).length by omega) hx15
          obtain ⟨t2, ht2⟩ : ∃ z, t - 2 = z := ⟨_, rfl⟩
          have hs2 : IntKind.i64.wrap ((t : Int) - 2) = (t2 : Int) := wrap_nat (by omega) (by omega)
          obtain ⟨x2, hx2⟩ : ∃ x, (sch (wordOf l) t).getD t2 0 = x := ⟨_, rfl⟩
          have hg2 := w_get (show t2 < (sch (wordOf l) t).length by omega) hx2
          obtain ⟨t16, ht16⟩ : ∃ z, t - 16 = z := ⟨_, rfl⟩
          have hs16 : IntKind.i64.wrap ((t : Int) - 16) = (t16 : Int) := wrap_nat (by omega) (by omega)
          obtain ⟨x16, hx16⟩ : ∃ x, (sch (wordOf l) t).getD t16 0 = x := ⟨_, rfl⟩
          have hg16 := w_get (show t16 < (sch (wordOf l) t).length by omega) hx16
          obtain ⟨t7, ht7⟩ : ∃ z, t - 7 = z := ⟨_, rfl⟩
          have hs7 : IntKind.i64.wrap ((t : Int) - 7) = (t7 : Int) := wrap_nat (by omega) (by omega)
          obtain ⟨x7, hx7⟩ : ∃ x, (sch (wordOf l) t).getD t7 0 = x := ⟨_, rfl⟩
          have hg7 := w_get (show t7 < (sch (wordOf l) t).length by omega) hx7
          obtain ⟨r7, hr7⟩ : ∃ z, rr x15 7 = z := ⟨_, rfl⟩
          obtain ⟨r18, hr18⟩ : ∃ z, rr x15 18 = z := ⟨_, rfl⟩
          obtain ⟨q1, hq1⟩ : ∃ z, r7 ^^^ r18 = z := ⟨_, rfl⟩
          obtain ⟨q2, hq2⟩ : ∃ z, x15 >>> 3 = z := ⟨_, rfl⟩
          obtain ⟨S0, hS0⟩ : ∃ z, q1 ^^^ q2 = z := ⟨_, rfl⟩
          obtain ⟨r17, hr17⟩ : ∃ z, rr x2 17 = z := ⟨_, rfl⟩
          obtain ⟨r19, hr19⟩ : ∃ z, rr x2 19 = z := ⟨_, rfl⟩
          obtain ⟨q3, hq3⟩ : ∃ z, r17 ^^^ r19 = z := ⟨_, rfl⟩
          obtain ⟨q4, hq4⟩ : ∃ z, x2 >>> 10 = z := ⟨_, rfl⟩
          obtain ⟨S1, hS1⟩ : ∃ z, q3 ^^^ q4 = z := ⟨_, rfl⟩
          obtain ⟨z1, hz1⟩ : ∃ z, x16 + S0 = z := ⟨_, rfl⟩
          obtain ⟨z2, hz2⟩ : ∃ z, z1 + x7 = z := ⟨_, rfl⟩
          obtain ⟨z3, hz3⟩ : ∃ z, z2 + S1 = z := ⟨_, rfl⟩
          have hnx : nxt (sch (wordOf l) t) t = z3 := by unfold nxt; rw [ht15, ht2, ht16, ht7, hx15, hx2, hx16, hx7, hr7, hr18, hr17, hr19, hq1, hq2, hq3, hq4, hS0, hS1, hz1, hz2, hz3]
          have hsn : (sch (wordOf l) (t + 1)).map w32 = (sch (wordOf l) t).map w32 ++ [w32 z3] := by rw [sch, if_neg (by omega), hnx, List.map_append]; rfl
          go_upto_region 14 with fail
          refine Kr.startL (fun W' => (SrcG (some ⟨bq, oq, none⟩) ((sch (wordOf l) t).map w32) W') ∧ True) [] (by kernel_rfl) ?_
          have gd : Gr wr wr.drew := (Gr.refl _).drew
          generalize wr.drew = d1 at gd ⊢
          replace H := H.grow gd
          replace HR := Lib.hid (HR.out.grow gd)
          replace HSW := Lib.hid (HSW.out.grow gd)
          clear gd
          (refine Kr.tPQ 0 (v := ?_) (a' := ?_) rfl (by kernel_rfl) (fun _ _ _ h => h) (by rfl) (fun _ => ⟨HSW.out, trivial⟩) (fun wx => ?_) ?_ ?_; rotate_left 2; (focus (go_simp; first | done | rfl)); (focus ((try simp only [Kr.PT]); first | done | rfl)))
          (refine Kr.tPQ 1 (v := ?_) (a' := ?_) rfl (by kernel_rfl) (fun _ _ _ h => h) (by rfl) (fun _ => ⟨HSW.out, trivial⟩) (fun wx => ?_) ?_ ?_; rotate_left 2; (focus (go_simp; first | done | rfl)); (focus ((try simp only [Kr.PT]); first | done | rfl)))
          (refine Kr.tPQ 2 (v := .int .i64 (t15 : Int)) (a' := ?_) rfl (by kernel_rfl) (fun _ _ _ h => h) (by rfl) (fun _ => ⟨HSW.out, trivial⟩) (fun wx => ?_) ?_ ?_; rotate_left 1; (focus (exact Kr.valOf rfl (subI hs15))); (focus ((try simp only [Kr.PT]); first | done | rfl)))
          (refine Kr.tPQ 3 (v := .pointer (some ⟨bq, oq + t15, none⟩)) (a' := ?_) rfl (by kernel_rfl) (fun _ _ _ h => h) (by rfl) (fun _ => ⟨HSW.out, trivial⟩) (fun wx => ?_) ?_ ?_; rotate_left 1; (focus (exact Kr.valOf rfl (ixW (by omega)))); (focus ((try simp only [Kr.PT]); first | done | rfl)))
          (refine Kr.tSQ 4 [] (v := .int .u32 ((x15).toNat : Int)) (a' := ?_) rfl (by kernel_rfl) (fun _ _ _ h => h) (by rfl) ⟨HSW.out, trivial⟩ (fun wx hSx => ?_) ?_ ?_; rotate_left 1; (focus (exact Kr.valOf rfl (ldE32 (srcG_get hSx.1 hg15)))); (focus ((try simp only [Kr.PT]); first | done | rfl)))
          (refine Kr.tPQ 5 (v := ?_) (a' := ?_) rfl (by kernel_rfl) (fun _ _ _ h => h) (by rfl) (fun _ => ⟨HSW.out, trivial⟩) (fun wx => ?_) ?_ ?_; rotate_left 2; (focus (go_simp; first | done | rfl)); (focus ((try simp only [Kr.PT]); first | done | rfl)))
          (refine Kr.tPQ 6 (v := ?_) (a' := ?_) rfl (by kernel_rfl) (fun _ _ _ h => h) (by rfl) (fun _ => ⟨HSW.out, trivial⟩) (fun wx => ?_) ?_ ?_; rotate_left 2; (focus (go_simp; first | done | rfl)); (focus ((try simp only [Kr.PT]); first | done | rfl)))
          (refine Kr.tPQ 7 (v := .int .i64 (t2 : Int)) (a' := ?_) rfl (by kernel_rfl) (fun _ _ _ h => h) (by rfl) (fun _ => ⟨HSW.out, trivial⟩) (fun wx => ?_) ?_ ?_; rotate_left 1; (focus (exact Kr.valOf rfl (subI hs2))); (focus ((try simp only [Kr.PT]); first | done | rfl)))
          (refine Kr.tPQ 8 (v := .pointer (some ⟨bq, oq + t2, none⟩)) (a' := ?_) rfl (by kernel_rfl) (fun _ _ _ h => h) (by rfl) (fun _ => ⟨HSW.out, trivial⟩) (fun wx => ?_) ?_ ?_; rotate_left 1; (focus (exact Kr.valOf rfl (ixW (by omega)))); (focus ((try simp only [Kr.PT]); first | done | rfl)))
          (refine Kr.tSQ 9 [] (v := .int .u32 ((x2).toNat : Int)) (a' := ?_) rfl (by kernel_rfl) (fun _ _ _ h => h) (by rfl) ⟨HSW.out, trivial⟩ (fun wx hSx => ?_) ?_ ?_; rotate_left 1; (focus (exact Kr.valOf rfl (ldE32 (srcG_get hSx.1 hg2)))); (focus ((try simp only [Kr.PT]); first | done | rfl)))
          (refine Kr.tPQ 10 (v := ?_) (a' := ?_) rfl (by kernel_rfl) (fun _ _ _ h => h) (by rfl) (fun _ => ⟨HSW.out, trivial⟩) (fun wx => ?_) ?_ ?_; rotate_left 2; (focus (go_simp; first | done | rfl)); (focus ((try simp only [Kr.PT]); first | done | rfl)))
          (refine Kr.tPQ 11 (v := ?_) (a' := ?_) rfl (by kernel_rfl) (fun _ _ _ h => h) (by rfl) (fun _ => ⟨HSW.out, trivial⟩) (fun wx => ?_) ?_ ?_; rotate_left 2; (focus (go_simp; first | done | rfl)); (focus ((try simp only [Kr.PT]); first | done | rfl)))
          refine Kr.doneL (by kernel_rfl) ?_ _
          go_upto_region 15 with fail
          refine Kr.seqStartW ?_
          (refine Kr.seqQ (v := ?_) (a' := ?_) (by rfl) ?_ ?_ ?_; rotate_left 2; (focus (go_simp; first | done | rfl)); (focus ((try simp only [Kr.PT]); first | done | rfl)))
          refine Kr.seqR (by rfl) (fun K hK => ?_)
          go_simp
          go_at_call 46
          have hP := right_v (x := x15) (n := 7) (w := d1) (by decide) (by decide)
          rw [hr7] at hP
          refine (hP).mono ?_
          rintro e y2 ⟨rfl, hg⟩
          replace H := H.grow hg
          replace HR := Lib.hid (HR.out.grow hg)
          replace HSW := Lib.hid (HSW.out.grow hg)
          clear hg
          clear hP
          (refine Kr.outS hK (a' := ?_) ?_ ?_; rotate_left; (focus ((try simp only [Kr.PT]); first | done | rfl))); clear hK K
          (refine Kr.seqQ (v := ?_) (a' := ?_) (by rfl) ?_ ?_ ?_; rotate_left 2; (focus (go_simp; first | done | rfl)); (focus ((try simp only [Kr.PT]); first | done | rfl)))
          refine Kr.seqR (by rfl) (fun K hK => ?_)
          go_simp
          go_at_call 46
          have hP := right_v (x := x15) (n := 18) (w := y2) (by decide) (by decide)
          rw [hr18] at hP
          refine (hP).mono ?_
          rintro e y3 ⟨rfl, hg⟩
          replace H := H.grow hg
          replace HR := Lib.hid (HR.out.grow hg)
          replace HSW := Lib.hid (HSW.out.grow hg)
          clear hg
          clear hP
          (refine Kr.outS hK (a' := ?_) ?_ ?_; rotate_left; (focus ((try simp only [Kr.PT]); first | done | rfl))); clear hK K
          (refine Kr.seqQ (v := .int .u32 ((q1).toNat : Int)) (a' := ?_) (by rfl) ?_ ?_ ?_; rotate_left 1; (focus (exact Kr.valOf rfl ((by rw [← hq1]; exact xorW)))); (focus ((try simp only [Kr.PT]); first | done | rfl)))
          (refine Kr.seqQ (v := ?_) (a' := ?_) (by rfl) ?_ ?_ ?_; rotate_left 2; (focus (go_simp; first | done | rfl)); (focus ((try simp only [Kr.PT]); first | done | rfl)))
          (refine Kr.seqQ (v := .int .u32 ((q2).toNat : Int)) (a' := ?_) (by rfl) ?_ ?_ ?_; rotate_left 1; (focus (exact Kr.valOf rfl ((by rw [← hq2]; exact shr3W)))); (focus ((try simp only [Kr.PT]); first | done | rfl)))
          (refine Kr.seqQ (v := .int .u32 ((S0).toNat : Int)) (a' := ?_) (by rfl) ?_ ?_ ?_; rotate_left 1; (focus (exact Kr.valOf rfl ((by rw [← hS0]; exact xorW)))); (focus ((try simp only [Kr.PT]); first | done | rfl)))
          (refine Kr.seqQ (v := ?_) (a' := ?_) (by rfl) ?_ ?_ ?_; rotate_left 2; (focus (go_simp; first | done | rfl)); (focus ((try simp only [Kr.PT]); first | done | rfl)))
          refine Kr.seqDoneW ?_
          go_upto_region 16 with fail
          refine Kr.seqStartW ?_
          (refine Kr.seqQ (v := ?_) (a' := ?_) (by rfl) ?_ ?_ ?_; rotate_left 2; (focus (go_simp; first | done | rfl)); (focus ((try simp only [Kr.PT]); first | done | rfl)))
          refine Kr.seqR (by rfl) (fun K hK => ?_)
          go_simp
          go_at_call 46
          have hP := right_v (x := x2) (n := 17) (w := y3) (by decide) (by decide)
          rw [hr17] at hP
          refine (hP).mono ?_
          rintro e y4 ⟨rfl, hg⟩
          replace H := H.grow hg
          replace HR := Lib.hid (HR.out.grow hg)
          replace HSW := Lib.hid (HSW.out.grow hg)
          clear hg
          clear hP
          (refine Kr.outS hK (a' := ?_) ?_ ?_; rotate_left; (focus ((try simp only [Kr.PT]); first | done | rfl))); clear hK K
          (refine Kr.seqQ (v := ?_) (a' := ?_) (by rfl) ?_ ?_ ?_; rotate_left 2; (focus (go_simp; first | done | rfl)); (focus ((try simp only [Kr.PT]); first | done | rfl)))
          refine Kr.seqR (by rfl) (fun K hK => ?_)
          go_simp
          go_at_call 46
          have hP := right_v (x := x2) (n := 19) (w := y4) (by decide) (by decide)
          rw [hr19] at hP
          refine (hP).mono ?_
          rintro e y5 ⟨rfl, hg⟩
          replace H := H.grow hg
          replace HR := Lib.hid (HR.out.grow hg)
          replace HSW := Lib.hid (HSW.out.grow hg)
          clear hg
          clear hP
          (refine Kr.outS hK (a' := ?_) ?_ ?_; rotate_left; (focus ((try simp only [Kr.PT]); first | done | rfl))); clear hK K
          (refine Kr.seqQ (v := .int .u32 ((q3).toNat : Int)) (a' := ?_) (by rfl) ?_ ?_ ?_; rotate_left 1; (focus (exact Kr.valOf rfl ((by rw [← hq3]; exact xorW)))); (focus ((try simp only [Kr.PT]); first | done | rfl)))
          (refine Kr.seqQ (v := ?_) (a' := ?_) (by rfl) ?_ ?_ ?_; rotate_left 2; (focus (go_simp; first | done | rfl)); (focus ((try simp only [Kr.PT]); first | done | rfl)))
          (refine Kr.seqQ (v := .int .u32 ((q4).toNat : Int)) (a' := ?_) (by rfl) ?_ ?_ ?_; rotate_left 1; (focus (exact Kr.valOf rfl ((by rw [← hq4]; exact shr10W)))); (focus ((try simp only [Kr.PT]); first | done | rfl)))
          (refine Kr.seqQ (v := .int .u32 ((S1).toNat : Int)) (a' := ?_) (by rfl) ?_ ?_ ?_; rotate_left 1; (focus (exact Kr.valOf rfl ((by rw [← hS1]; exact xorW)))); (focus ((try simp only [Kr.PT]); first | done | rfl)))
          (refine Kr.seqQ (v := ?_) (a' := ?_) (by rfl) ?_ ?_ ?_; rotate_left 2; (focus (go_simp; first | done | rfl)); (focus ((try simp only [Kr.PT]); first | done | rfl)))
          refine Kr.seqDoneW ?_
          go_upto_region 17 with fail
          refine Kr.startL (fun W' => (SrcG (some ⟨bq, oq, none⟩) ((sch (wordOf l) t).map w32) W') ∧ True) [17] (by kernel_rfl) ?_
          have gd : Gr y5 y5.drew := (Gr.refl _).drew
          generalize y5.drew = d6 at gd ⊢
          replace H := H.grow gd
          replace HR := Lib.hid (HR.out.grow gd)
          replace HSW := Lib.hid (HSW.out.grow gd)
          clear gd
          (refine Kr.tPQ 0 (v := ?_) (a' := ?_) rfl (by kernel_rfl) (fun _ _ _ h => h) (by rfl) (fun _ => ⟨HSW.out, trivial⟩) (fun wx => ?_) ?_ ?_; rotate_left 2; (focus (go_simp; first | done | rfl)); (focus ((try simp only [Kr.PT]); first | done | rfl)))
          (refine Kr.tPQ 1 (v := ?_) (a' := ?_) rfl (by kernel_rfl) (fun _ _ _ h => h) (by rfl) (fun _ => ⟨HSW.out, trivial⟩) (fun wx => ?_) ?_ ?_; rotate_left 2; (focus (go_simp; first | done | rfl)); (focus ((try simp only [Kr.PT]); first | done | rfl)))
          (refine Kr.tPQ 2 (v := ?_) (a' := ?_) rfl (by kernel_rfl) (fun _ _ _ h => h) (by rfl) (fun _ => ⟨HSW.out, trivial⟩) (fun wx => ?_) ?_ ?_; rotate_left 2; (focus (go_simp; first | done | rfl)); (focus ((try simp only [Kr.PT]); first | done | rfl)))
          (refine Kr.tPQ 3 (v := .int .i64 (t16 : Int)) (a' := ?_) rfl (by kernel_rfl) (fun _ _ _ h => h) (by rfl) (fun _ => ⟨HSW.out, trivial⟩) (fun wx => ?_) ?_ ?_; rotate_left 1; (focus (exact Kr.valOf rfl (subI hs16))); (focus ((try simp only [Kr.PT]); first | done | rfl)))
          (refine Kr.tPQ 4 (v := .pointer (some ⟨bq, oq + t16, none⟩)) (a' := ?_) rfl (by kernel_rfl) (fun _ _ _ h => h) (by rfl) (fun _ => ⟨HSW.out, trivial⟩) (fun wx => ?_) ?_ ?_; rotate_left 1; (focus (exact Kr.valOf rfl (ixW (by omega)))); (focus ((try simp only [Kr.PT]); first | done | rfl)))
          (refine Kr.tSQ 5 [7, 13, 15, 16, 17, 18] (v := .int .u32 ((x16).toNat : Int)) (a' := ?_) rfl (by kernel_rfl) (fun _ _ _ h => h) (by rfl) ⟨HSW.out, trivial⟩ (fun wx hSx => ?_) ?_ ?_; rotate_left 1; (focus (exact Kr.valOf rfl (ldE32 (srcG_get hSx.1 hg16)))); (focus ((try simp only [Kr.PT]); first | done | rfl)))
          (refine Kr.tPQ 6 (v := ?_) (a' := ?_) rfl (by kernel_rfl) (fun _ _ _ h => h) (by rfl) (fun _ => ⟨HSW.out, trivial⟩) (fun wx => ?_) ?_ ?_; rotate_left 2; (focus (go_simp; first | done | rfl)); (focus ((try simp only [Kr.PT]); first | done | rfl)))
          (refine Kr.tPQ 7 (v := .int .u32 ((z1).toNat : Int)) (a' := ?_) rfl (by kernel_rfl) (fun _ _ _ h => h) (by rfl) (fun _ => ⟨HSW.out, trivial⟩) (fun wx => ?_) ?_ ?_; rotate_left 1; (focus (exact Kr.valOf rfl ((by rw [← hz1]; exact addW)))); (focus ((try simp only [Kr.PT]); first | done | rfl)))
          (refine Kr.tPQ 8 (v := ?_) (a' := ?_) rfl (by kernel_rfl) (fun _ _ _ h => h) (by rfl) (fun _ => ⟨HSW.out, trivial⟩) (fun wx => ?_) ?_ ?_; rotate_left 2; (focus (go_simp; first | done | rfl)); (focus ((try simp only [Kr.PT]); first | done | rfl)))
          (refine Kr.tPQ 9 (v := ?_) (a' := ?_) rfl (by kernel_rfl) (fun _ _ _ h => h) (by rfl) (fun _ => ⟨HSW.out, trivial⟩) (fun wx => ?_) ?_ ?_; rotate_left 2; (focus (go_simp; first | done | rfl)); (focus ((try simp only [Kr.PT]); first | done | rfl)))
          (refine Kr.tPQ 10 (v := .int .i64 (t7 : Int)) (a' := ?_) rfl (by kernel_rfl) (fun _ _ _ h => h) (by rfl) (fun _ => ⟨HSW.out, trivial⟩) (fun wx => ?_) ?_ ?_; rotate_left 1; (focus (exact Kr.valOf rfl (subI hs7))); (focus ((try simp only [Kr.PT]); first | done | rfl)))
          (refine Kr.tPQ 11 (v := .pointer (some ⟨bq, oq + t7, none⟩)) (a' := ?_) rfl (by kernel_rfl) (fun _ _ _ h => h) (by rfl) (fun _ => ⟨HSW.out, trivial⟩) (fun wx => ?_) ?_ ?_; rotate_left 1; (focus (exact Kr.valOf rfl (ixW (by omega)))); (focus ((try simp only [Kr.PT]); first | done | rfl)))
          (refine Kr.tSQ 12 [13, 15, 16, 17, 18] (v := .int .u32 ((x7).toNat : Int)) (a' := ?_) rfl (by kernel_rfl) (fun _ _ _ h => h) (by rfl) ⟨HSW.out, trivial⟩ (fun wx hSx => ?_) ?_ ?_; rotate_left 1; (focus (exact Kr.valOf rfl (ldE32 (srcG_get hSx.1 hg7)))); (focus ((try simp only [Kr.PT]); first | done | rfl)))
          (refine Kr.tPQ 13 (v := .int .u32 ((z2).toNat : Int)) (a' := ?_) rfl (by kernel_rfl) (fun _ _ _ h => h) (by rfl) (fun _ => ⟨HSW.out, trivial⟩) (fun wx => ?_) ?_ ?_; rotate_left 1; (focus (exact Kr.valOf rfl ((by rw [← hz2]; exact addW)))); (focus ((try simp only [Kr.PT]); first | done | rfl)))
          (refine Kr.tPQ 14 (v := ?_) (a' := ?_) rfl (by kernel_rfl) (fun _ _ _ h => h) (by rfl) (fun _ => ⟨HSW.out, trivial⟩) (fun wx => ?_) ?_ ?_; rotate_left 2; (focus (go_simp; first | done | rfl)); (focus ((try simp only [Kr.PT]); first | done | rfl)))
          (refine Kr.tPQ 15 (v := .int .u32 ((z3).toNat : Int)) (a' := ?_) rfl (by kernel_rfl) (fun _ _ _ h => h) (by rfl) (fun _ => ⟨HSW.out, trivial⟩) (fun wx => ?_) ?_ ?_; rotate_left 1; (focus (exact Kr.valOf rfl ((by rw [← hz3]; exact addW)))); (focus ((try simp only [Kr.PT]); first | done | rfl)))
          refine Kr.readyL (rs := [16]) (by kernel_rfl) (by simp) ?_
          refine Kr.AllL.cons rfl (fun K hK => ?_) Kr.AllL.nil
          go_simp
          obtain ⟨y7, hy⟩ : ∃ y, d6.alloc (.cells #[.int .u32 ((z3).toNat : Int)] 38) = y := ⟨_, rfl⟩
          obtain ⟨bone, hbn⟩ : ∃ b, d6.heap.size = b := ⟨_, rfl⟩
          rw [hy, hbn]
          have hy2 : d6.alloc (.cells ([.int .u32 ((z3).toNat : Int)] : List Value).toArray 38) = y7 := hy
          have hg : Gr d6 y7 := hy ▸ (Gr.refl _).alloc _
          have HLIT := Lib.hid (hbn ▸ hy2 ▸ lit_src (W := d6) (T := 38) [.int .u32 ((z3).toNat : Int)]); clear hy2
          replace H := H.grow hg
          replace HR := Lib.hid (HR.out.grow hg)
          replace HSW := Lib.hid (HSW.out.grow hg)
          clear hg hy hbn
          (refine Kr.outL hK (a' := ?_) ?_ (fun _ => ⟨HSW.out, trivial⟩) ?_; rotate_left; (focus ((try simp only [Kr.PT]); first | done | rfl))); clear hK K
          refine Kr.readyL (rs := [17]) (by kernel_rfl) (by simp) ?_
          refine Kr.AllL.cons rfl (fun K hK => ?_) Kr.AllL.nil
          rw [if_pos (by rfl)]
          refine wp_appG (T := 38) (TS := 78) Tryd.underlying78 info32 rfl (.tmp 65) (.tmp 81) rfl (v := (.slice (some ⟨bq, oq, none⟩) t cq)) (r := ((sch (wordOf l) t).map w32)) (d := [w32 z3]) (p := (some ⟨bone, 0, none⟩)) (m := 1) (c := 1) (rs := []) rfl rfl (rfl) (HLIT.out) (one_litw [z3]) (fun e => by cases e) H HR.out HA (by rw [hsl]; omega) (by decide) ?_
          intro v1 y8 H3 hR3 hA3
          clear H HR HA HLIT; have H := H3; have HR := Lib.hid hR3; have HA := hA3; clear H3 hR3 hA3
          (refine Kr.outL hK (a' := ?_) ?_ (Kr.noStill (by kernel_rfl)) ?_; rotate_left; (focus ((try simp only [Kr.PT]); first | done | rfl))); clear hK K
          (refine Kr.tPQ 18 (v := ?_) (a' := ?_) rfl (by kernel_rfl) (fun _ _ _ h => h) (by rfl) (Kr.noStill (by kernel_rfl)) (fun wx => ?_) ?_ ?_; rotate_left 2; (focus (go_simp; first | done | rfl)); (focus ((try simp only [Kr.PT]); first | done | rfl)))
          refine Kr.doneL (by kernel_rfl) ?_ _
          rw [← hsn] at HR
          have HADD : IntKind.i64.wrap ((t : Int) + 1) = ((t + 1 : Nat) : Int) := wrap_nat (by omega) (by omega)
          go_upto_region 13 with fail
          refine Kr.seqStartW ?_
          (refine Kr.seqQ (v := ?_) (a' := ?_) (by rfl) ?_ ?_ ?_; rotate_left 2; (focus (go_simp; first | done | rfl)); (focus ((try simp only [Kr.PT]); first | done | rfl)))
          (refine Kr.seqQ (v := .int .i64 ((t + 1 : Nat) : Int)) (a' := ?_) (by rfl) ?_ ?_ ?_; rotate_left 1; (focus (exact Kr.valOf rfl (addI HADD))); (focus ((try simp only [Kr.PT]); first | done | rfl)))
          (refine Kr.seqQ (v := ?_) (a' := ?_) (by rfl) ?_ ?_ ?_; rotate_left 2; (focus (go_simp; first | done | rfl)); (focus ((try simp only [Kr.PT]); first | done | rfl)))
          refine Kr.seqDoneW ?_
          go_wp2; go_roundw
          case rel => exact ⟨t + 1, by omega, by omega, rfl, HR, Lib.hid HA, Lib.hid H⟩
          case measure => simp [intOf]; omega
    · have hil : i < 16 := by omega
      have HC : decide ((i : Int) < 16) = true := decide_eq_true (by omega)
      go_upto_region 3 with fail
      refine Kr.seqStartW ?_
      (refine Kr.seqQ (v := ?_) (a' := ?_) (by rfl) ?_ ?_ ?_; rotate_left 2; (focus (go_simp; first | done | rfl)); (focus ((try simp only [Kr.PT]); first | done | rfl)))
      (refine Kr.seqQ (v := .bool true) (a' := ?_) (by rfl) ?_ ?_ ?_; rotate_left 1; (focus (exact Kr.valOf rfl (lssT HC))); (focus ((try simp only [Kr.PT]); first | done | rfl)))
      refine Kr.seqDoneW ?_
      go_upto_region 5 with fail
      refine Kr.seqStartW ?_
      (refine Kr.seqQ (v := ?_) (a' := ?_) (by rfl) ?_ ?_ ?_; rotate_left 2; (focus (go_simp; first | done | rfl)); (focus ((try simp only [Kr.PT]); first | done | rfl)))
      refine Kr.seqDoneW ?_
      go_upto_region 6 with fail
      refine Kr.seqStartW ?_
      (refine Kr.seqQ (v := ?_) (a' := ?_) (by rfl) ?_ ?_ ?_; rotate_left 2; (focus (go_simp; first | done | rfl)); (focus ((try simp only [Kr.PT]); first | done | rfl)))
      refine Kr.seqDoneW ?_
      have H2 := Lib.hid H; have HR2 := HR; clear H HR
      go_wp2_with fail
      go_loopw [5, 6] (fun xv kv wr => ∃ (k : Nat) (x : BitVec 32), k ≤ 4 ∧ pw4 l i k = x ∧ xv = .int .u32 (x.toNat : Int) ∧ kv = .int .i64 (k : Int) ∧ Hid (RowG 38 w.heap.size u3 ((sch (wordOf l) i).map w32) wr) ∧ Hid (Ow w wr [])) (fun _ kv _ => 4 - (intOf kv).toNat)
      case atStart => exact ⟨0, 0#32, by decide, rfl, rfl, rfl, HR2, H2⟩
      case round =>
        clear H2 HR2; obtain ⟨k, x, hk, hx, rfl, rfl, HR, HH⟩ := hrel; have H := HH.out; clear HH
        by_cases hke : k = 4
        · have HC4 : decide ((k : Int) < 4) = false := decide_eq_false (by omega)
          have hxw : wordOf l i = x := by rw [← pw4_word, ← hke]; exact hx
          have hsn : (sch (wordOf l) (i + 1)).map w32 = (sch (wordOf l) i).map w32 ++ [w32 x] := by rw [sch, if_pos hil, hxw, List.map_append]; rfl
          clear hke
          go_upto_region 7 with fail
          refine Kr.seqStartW ?_
          (refine Kr.seqQ (v := ?_) (a' := ?_) (by rfl) ?_ ?_ ?_; rotate_left 2; (focus (go_simp; first | done | rfl)); (focus ((try simp only [Kr.PT]); first | done | rfl)))
          (refine Kr.seqQ (v := .bool false) (a' := ?_) (by rfl) ?_ ?_ ?_; rotate_left 1; (focus (exact Kr.valOf rfl (lssT HC4))); (focus ((try simp only [Kr.PT]); first | done | rfl)))
          refine Kr.seqDoneW ?_
          obtain ⟨q, cq, hu3, hcq, _, _⟩ := HR.out.src
          rw [hsl] at hu3 hcq; clear hu3
          go_upto_region 10 with fail
          refine Kr.seqStartW ?_
          (refine Kr.seqQ (v := ?_) (a' := ?_) (by rfl) ?_ ?_ ?_; rotate_left 2; (focus (go_simp; first | done | rfl)); (focus ((try simp only [Kr.PT]); first | done | rfl)))
          (refine Kr.seqQ (v := ?_) (a' := ?_) (by rfl) ?_ ?_ ?_; rotate_left 2; (focus (go_simp; first | done | rfl)); (focus ((try simp only [Kr.PT]); first | done | rfl)))
          refine Kr.seqR (by rfl) (fun K hK => ?_)
          go_simp
          obtain ⟨y9, hy⟩ : ∃ y, wr.alloc (.cells #[.int .u32 ((x).toNat : Int)] 38) = y := ⟨_, rfl⟩
          obtain ⟨bone, hbn⟩ : ∃ b, wr.heap.size = b := ⟨_, rfl⟩
          rw [hy, hbn]
          have hy2 : wr.alloc (.cells ([.int .u32 ((x).toNat : Int)] : List Value).toArray 38) = y9 := hy
          have hg : Gr wr y9 := hy ▸ (Gr.refl _).alloc _
          have HLIT := Lib.hid (hbn ▸ hy2 ▸ lit_src (W := wr) (T := 38) [.int .u32 ((x).toNat : Int)]); clear hy2
          replace H := H.grow hg
          replace HR := Lib.hid (HR.out.grow hg)
          clear hg hy hbn
          (refine Kr.outS hK (a' := ?_) ?_ ?_; rotate_left; (focus ((try simp only [Kr.PT]); first | done | rfl))); clear hK K
          refine Kr.seqR (by rfl) (fun K hK => ?_)
          refine wp_appG (T := 38) (TS := 78) Tryd.underlying78 info32 rfl (.tmp 31) (.tmp 33) rfl (v := u3) (r := ((sch (wordOf l) i).map w32)) (d := [w32 x]) (p := (some ⟨bone, 0, none⟩)) (m := 1) (c := 1) (rs := []) rfl rfl (rfl) (HLIT.out) (one_litw [x]) (fun e => by cases e) H HR.out HA (by rw [hsl]; omega) (by decide) ?_
          intro v1 y10 H3 hR3 hA3
          clear H HR HA HLIT; have H := H3; have HR := Lib.hid hR3; have HA := hA3; clear H3 hR3 hA3
          (refine Kr.outS hK (a' := ?_) ?_ ?_; rotate_left; (focus ((try simp only [Kr.PT]); first | done | rfl))); clear hK K
          (refine Kr.seqQ (v := ?_) (a' := ?_) (by rfl) ?_ ?_ ?_; rotate_left 2; (focus (go_simp; first | done | rfl)); (focus ((try simp only [Kr.PT]); first | done | rfl)))
          refine Kr.seqDoneW ?_
          rw [← hsn] at HR
          have HADD : IntKind.i64.wrap ((i : Int) + 1) = ((i + 1 : Nat) : Int) := wrap_nat (by omega) (by omega)
          go_upto_region 4 with fail
          refine Kr.seqStartW ?_
          (refine Kr.seqQ (v := ?_) (a' := ?_) (by rfl) ?_ ?_ ?_; rotate_left 2; (focus (go_simp; first | done | rfl)); (focus ((try simp only [Kr.PT]); first | done | rfl)))
          (refine Kr.seqQ (v := .int .i64 ((i + 1 : Nat) : Int)) (a' := ?_) (by rfl) ?_ ?_ ?_; rotate_left 1; (focus (exact Kr.valOf rfl (addI HADD))); (focus ((try simp only [Kr.PT]); first | done | rfl)))
          (refine Kr.seqQ (v := ?_) (a' := ?_) (by rfl) ?_ ?_ ?_; rotate_left 2; (focus (go_simp; first | done | rfl)); (focus ((try simp only [Kr.PT]); first | done | rfl)))
          refine Kr.seqDoneW ?_
          go_wp2; go_roundw
          case rel => exact ⟨i + 1, by omega, rfl, HR, Lib.hid HA, Lib.hid H⟩
          case measure => simp [intOf]; omega
        · have hkl : k < 4 := by omega
          have HC4 : decide ((k : Int) < 4) = true := decide_eq_true (by omega)
          obtain ⟨i4, hi4⟩ : ∃ z, 4 * i = z := ⟨_, rfl⟩
          obtain ⟨ik, hik⟩ : ∃ z, i4 + k = z := ⟨_, rfl⟩
          have hmul : IntKind.i64.wrap ((4 : Int) * (i : Int)) = (i4 : Int) := wrap_nat (by omega) (by omega)
          have hadd : IntKind.i64.wrap ((i4 : Int) + (k : Int)) = (ik : Int) := wrap_nat (by omega) (by omega)
          obtain ⟨y0, hy0⟩ : ∃ y, l.getD ik 0 = y := ⟨_, rfl⟩
          have hgy : l[ik]? = some y0 := hy0 ▸ getD_of (by omega)
          obtain ⟨m1, hm1⟩ : ∃ z, x * 256#32 = z := ⟨_, rfl⟩
          obtain ⟨y1, hy1⟩ : ∃ z, y0.setWidth 32 = z := ⟨_, rfl⟩
          obtain ⟨m2, hm2⟩ : ∃ z, m1 + y1 = z := ⟨_, rfl⟩
          have hpn : pw4 l i (k + 1) = m2 := by rw [pw4, hx, hi4, hik, hy0, hy1, hm1, hm2]
          go_upto_region 7 with fail
          refine Kr.seqStartW ?_
          (refine Kr.seqQ (v := ?_) (a' := ?_) (by rfl) ?_ ?_ ?_; rotate_left 2; (focus (go_simp; first | done | rfl)); (focus ((try simp only [Kr.PT]); first | done | rfl)))
          (refine Kr.seqQ (v := .bool true) (a' := ?_) (by rfl) ?_ ?_ ?_; rotate_left 1; (focus (exact Kr.valOf rfl (lssT HC4))); (focus ((try simp only [Kr.PT]); first | done | rfl)))
          refine Kr.seqDoneW ?_
          go_upto_region 9 with fail
          refine Kr.seqStartW ?_
          (refine Kr.seqQ (v := ?_) (a' := ?_) (by rfl) ?_ ?_ ?_; rotate_left 2; (focus (go_simp; first | done | rfl)); (focus ((try simp only [Kr.PT]); first | done | rfl)))
          (refine Kr.seqQ (v := .int .u32 ((m1).toNat : Int)) (a' := ?_) (by rfl) ?_ ?_ ?_; rotate_left 1; (focus (exact Kr.valOf rfl ((by rw [← hm1]; exact mulW)))); (focus ((try simp only [Kr.PT]); first | done | rfl)))
          (refine Kr.seqQ (v := ?_) (a' := ?_) (by rfl) ?_ ?_ ?_; rotate_left 2; (focus (go_simp; first | done | rfl)); (focus ((try simp only [Kr.PT]); first | done | rfl)))
          (refine Kr.seqQ (v := ?_) (a' := ?_) (by rfl) ?_ ?_ ?_; rotate_left 2; (focus (go_simp; first | done | rfl)); (focus ((try simp only [Kr.PT]); first | done | rfl)))
          (refine Kr.seqQ (v := .int .i64 (i4 : Int)) (a' := ?_) (by rfl) ?_ ?_ ?_; rotate_left 1; (focus (exact Kr.valOf rfl (mulI hmul))); (focus ((try simp only [Kr.PT]); first | done | rfl)))
          (refine Kr.seqQ (v := ?_) (a' := ?_) (by rfl) ?_ ?_ ?_; rotate_left 2; (focus (go_simp; first | done | rfl)); (focus ((try simp only [Kr.PT]); first | done | rfl)))
          (refine Kr.seqQ (v := .int .i64 (ik : Int)) (a' := ?_) (by rfl) ?_ ?_ ?_; rotate_left 1; (focus (exact Kr.valOf rfl (addI hadd))); (focus ((try simp only [Kr.PT]); first | done | rfl)))
          (refine Kr.seqQ (v := .pointer (some ⟨b, off + ik, none⟩)) (a' := ?_) (by rfl) ?_ ?_ ?_; rotate_left 1; (focus (exact Kr.valOf rfl (ixB (by omega)))); (focus ((try simp only [Kr.PT]); first | done | rfl)))
          (refine Kr.seqQ (v := .int .u8 ((y0).toNat : Int)) (a' := ?_) (by rfl) ?_ ?_ ?_; rotate_left 1; (focus (exact Kr.valOf rfl (ldE8 ((HB.out.grow H.g) ik y0 hgy)))); (focus ((try simp only [Kr.PT]); first | done | rfl)))
          (refine Kr.seqQ (v := .int .u32 ((y1).toNat : Int)) (a' := ?_) (by rfl) ?_ ?_ ?_; rotate_left 1; (focus (exact Kr.valOf rfl ((by rw [← hy1]; exact conv8W)))); (focus ((try simp only [Kr.PT]); first | done | rfl)))
          (refine Kr.seqQ (v := .int .u32 ((m2).toNat : Int)) (a' := ?_) (by rfl) ?_ ?_ ?_; rotate_left 1; (focus (exact Kr.valOf rfl ((by rw [← hm2]; exact addW)))); (focus ((try simp only [Kr.PT]); first | done | rfl)))
          (refine Kr.seqQ (v := ?_) (a' := ?_) (by rfl) ?_ ?_ ?_; rotate_left 2; (focus (go_simp; first | done | rfl)); (focus ((try simp only [Kr.PT]); first | done | rfl)))
          refine Kr.seqDoneW ?_
          have HADD : IntKind.i64.wrap ((k : Int) + 1) = ((k + 1 : Nat) : Int) := wrap_nat (by omega) (by omega)
          go_upto_region 8 with fail
          refine Kr.seqStartW ?_
          (refine Kr.seqQ (v := ?_) (a' := ?_) (by rfl) ?_ ?_ ?_; rotate_left 2; (focus (go_simp; first | done | rfl)); (focus ((try simp only [Kr.PT]); first | done | rfl)))
          (refine Kr.seqQ (v := .int .i64 ((k + 1 : Nat) : Int)) (a' := ?_) (by rfl) ?_ ?_ ?_; rotate_left 1; (focus (exact Kr.valOf rfl (addI HADD))); (focus ((try simp only [Kr.PT]); first | done | rfl)))
          (refine Kr.seqQ (v := ?_) (a' := ?_) (by rfl) ?_ ?_ ?_; rotate_left 2; (focus (go_simp; first | done | rfl)); (focus ((try simp only [Kr.PT]); first | done | rfl)))
          refine Kr.seqDoneW ?_
          go_wp2; go_roundw
          case rel => exact ⟨k + 1, m2, by omega, hpn, rfl, rfl, HR, Lib.hid H⟩
          case measure => simp [intOf]; omega
end Go.Proofs.YtldgjhmefaapeaaDoor.Dg


/- Blocks that calls have made. -/
namespace Go.Proofs.YtldgjhmefaapeaaDoor.Dg
open Go Go.RowKit Go.Proofs.YtldgjhmefaapeaaDoor.Ne Go.Proofs.YtldgjhmefaapeaaDoor.Kr

theorem Ow.adopt {w W : World} {rs : List Blk} {b : Nat} {T : TypeId} {cur : List Value} (H : Ow w W rs) (hb : w.heap.size ≤ b) (hh : W.heap[b]? = some (.cells cur.toArray T (0, 0))) (hne : ∀ x ∈ rs, x.1 ≠ b) : Ow w W ((b, T, cur) :: rs) := by
  refine ⟨H.g, fun x hx => ?_, fun x hx => ?_, List.Pairwise.cons (fun x hx e => hne x hx e.symm) H.ne⟩
  · rcases List.mem_cons.1 hx with rfl | hx
    · exact hh
    · exact H.r x hx
  · rcases List.mem_cons.1 hx with rfl | hx
    · exact hb
    · exact H.low x hx
/-- A block that a call has made. -/
theorem Ow.made {w W W' : World} {rs : List Blk} {b : Nat} {T : TypeId} {cur : List Value} (H : Ow w W rs) (g : Gr W W') (hb : W.heap.size ≤ b) (hh : W'.heap[b]? = some (.cells cur.toArray T (0, 0))) : Ow w W' ((b, T, cur) :: rs) :=
  (H.grow g).adopt (Nat.le_trans H.g.le hb) hh (fun x hx e => by have := H.lt hx; omega)
theorem Ow.erase {w W : World} {rs : List Blk} (H : Ow w W rs) (i : Nat) : Ow w W (rs.eraseIdx i) := ⟨H.g, fun x hx => H.r x (List.mem_of_mem_eraseIdx hx), fun x hx => H.low x (List.mem_of_mem_eraseIdx hx), H.ne.sublist (List.eraseIdx_sublist _ _)⟩
theorem srcG_row {W : World} {b : Nat} {T : TypeId} {l : List Value} {fr : Nat × Nat} (h : W.heap[b]? = some (.cells l.toArray T fr)) : SrcG (some ⟨b, 0, none⟩) l W := .inr ⟨b, 0, rfl, fun j u hu => by
  rw [Nat.zero_add, cell_of_row W b j _ _ _ h]; simpa using hu⟩
theorem of_take {l xs : List Value} {n j : Nat} {u : Value} (h : l.take n = xs) (hj : j < n) (hu : xs[j]? = some u) : l[j]? = some u := by
  rw [← h, List.getElem?_take, if_pos hj] at hu; exact hu
theorem ixW0 {w : World} {b n c j : Nat} (h : j < n) : (Instr.indexAt 78 (.slice (some ⟨b, 0, none⟩) n c) (.int .i64 (j : Int))).run Tryd.prog w = .ok (.pointer (some ⟨b, j, none⟩)) w := by
  rw [ixW h, Nat.zero_add]
theorem ixC0 {w : World} {b c : Nat} : (Instr.indexAt 78 (.slice (some ⟨b, 0, none⟩) 8 c) (.int .i64 0)).run Tryd.prog w = .ok (.pointer (some ⟨b, 0, none⟩)) w := ixW0 (j := 0) (by decide)
theorem ixC1 {w : World} {b c : Nat} : (Instr.indexAt 78 (.slice (some ⟨b, 0, none⟩) 8 c) (.int .i64 1)).run Tryd.prog w = .ok (.pointer (some ⟨b, 1, none⟩)) w := ixW0 (j := 1) (by decide)
theorem ixC2 {w : World} {b c : Nat} : (Instr.indexAt 78 (.slice (some ⟨b, 0, none⟩) 8 c) (.int .i64 2)).run Tryd.prog w = .ok (.pointer (some ⟨b, 2, none⟩)) w := ixW0 (j := 2) (by decide)
theorem ixC3 {w : World} {b c : Nat} : (Instr.indexAt 78 (.slice (some ⟨b, 0, none⟩) 8 c) (.int .i64 3)).run Tryd.prog w = .ok (.pointer (some ⟨b, 3, none⟩)) w := ixW0 (j := 3) (by decide)
theorem ixC4 {w : World} {b c : Nat} : (Instr.indexAt 78 (.slice (some ⟨b, 0, none⟩) 8 c) (.int .i64 4)).run Tryd.prog w = .ok (.pointer (some ⟨b, 4, none⟩)) w := ixW0 (j := 4) (by decide)
theorem ixC5 {w : World} {b c : Nat} : (Instr.indexAt 78 (.slice (some ⟨b, 0, none⟩) 8 c) (.int .i64 5)).run Tryd.prog w = .ok (.pointer (some ⟨b, 5, none⟩)) w := ixW0 (j := 5) (by decide)
theorem ixC6 {w : World} {b c : Nat} : (Instr.indexAt 78 (.slice (some ⟨b, 0, none⟩) 8 c) (.int .i64 6)).run Tryd.prog w = .ok (.pointer (some ⟨b, 6, none⟩)) w := ixW0 (j := 6) (by decide)
theorem ixC7 {w : World} {b c : Nat} : (Instr.indexAt 78 (.slice (some ⟨b, 0, none⟩) 8 c) (.int .i64 7)).run Tryd.prog w = .ok (.pointer (some ⟨b, 7, none⟩)) w := ixW0 (j := 7) (by decide)
theorem slP {w : World} {b a n c e : Nat} (h : a + 64 = e) (h1 : e ≤ n) (h2 : n ≤ c) (h3 : e < 9223372036854775808) : (Instr.sliceAt 46 (.slice (some ⟨b, 0, none⟩) n c) (some (.int .i64 (a : Int))) (some (.int .i64 (e : Int))) none).run Tryd.prog w = .ok (.slice (some ⟨b, a, none⟩) 64 (c - a)) w := by
  have h4 : (0 : Int) ≤ (e : Int) := by omega
  have h5 : (e : Int) ≤ (c : Int) := by omega
  have h6 : (0 : Int) ≤ (a : Int) := by omega
  have h7 : ¬ c = a := by omega
  have h8 : e - a = 64 := by omega
  have h10 : a ≤ e := by omega
  have h11 : e ≤ c := by omega
  clear h h1 h2 h3
  go_simp

set_option linter.unusedSimpArgs false in
set_option maxRecDepth 100000 in
set_option maxHeartbeats 16000000 in
theorem rconst_v {w : World} :
    Calls Tryd.prog 43 #[] w fun e w' => ∃ b, e = .returned (.slice (some ⟨b, 0, none⟩) 64 64) ∧ w.heap.size ≤ b ∧ w'.heap[b]? = some (.cells (kc.map w32).toArray 38 (0, 0)) ∧ Gr w w' := by
  have H := Ow.start w
  go_enter Tryd.func43, Tryd.ntmps43
  go_upto_region 0 with fail
  refine Kr.seqStartW ?_
  (refine Kr.seqQ (v := ?_) (a' := ?_) (by rfl) ?_ ?_ ?_; rotate_left 2; (focus (go_simp; first | done | rfl)); (focus ((try simp only [Kr.PT]); first | done | rfl)))
  refine Kr.seqDoneW ?_
  go_upto_region 1 with fail
  refine Kr.seqStartW ?_
  refine Kr.seqR (by rfl) (fun K hK => ?_)
  go_simp
  obtain ⟨y1, hy⟩ : ∃ y, w.alloc (.cells #[.int .u32 1116352408, .int .u32 1899447441, .int .u32 3049323471, .int .u32 3921009573, .int .u32 961987163, .int .u32 1508970993, .int .u32 2453635748, .int .u32 2870763221, .int .u32 3624381080, .int .u32 310598401, .int .u32 607225278, .int .u32 1426881987, .int .u32 1925078388, .int .u32 2162078206, .int .u32 2614888103, .int .u32 3248222580, .int .u32 3835390401, .int .u32 4022224774, .int .u32 264347078, .int .u32 604807628, .int .u32 770255983, .int .u32 1249150122, .int .u32 1555081692, .int .u32 1996064986, .int .u32 2554220882, .int .u32 2821834349, .int .u32 2952996808, .int .u32 3210313671, .int .u32 3336571891, .int .u32 3584528711, .int .u32 113926993, .int .u32 338241895, .int .u32 666307205, .int .u32 773529912, .int .u32 1294757372, .int .u32 1396182291, .int .u32 1695183700, .int .u32 1986661051, .int .u32 2177026350, .int .u32 2456956037, .int .u32 2730485921, .int .u32 2820302411, .int .u32 3259730800, .int .u32 3345764771, .int .u32 3516065817, .int .u32 3600352804, .int .u32 4094571909, .int .u32 275423344, .int .u32 430227734, .int .u32 506948616, .int .u32 659060556, .int .u32 883997877, .int .u32 958139571, .int .u32 1322822218, .int .u32 1537002063, .int .u32 1747873779, .int .u32 1955562222, .int .u32 2024104815, .int .u32 2227730452, .int .u32 2361852424, .int .u32 2428436474, .int .u32 2756734187, .int .u32 3204031479, .int .u32 3329325298] 38) = y := ⟨_, rfl⟩
  obtain ⟨bk, hbk⟩ : ∃ b, w.heap.size = b := ⟨_, rfl⟩
  have hbw : w.heap.size ≤ bk := by rw [← hbk]; exact H.g.le
  rw [hy]
  have hy2 : w.alloc (.cells (kc.map w32).toArray 38) = y1 := hy
  replace H := H.alloc hy2 hbk
  have HX := Lib.hid hbk; clear hy hy2
  (refine Kr.outS hK (a' := ?_) ?_ ?_; rotate_left; (focus ((try simp only [Kr.PT]); first | done | rfl))); clear hK K
  (refine Kr.seqQ (v := ?_) (a' := ?_) (by rfl) ?_ ?_ ?_; rotate_left 2; (focus (go_simp; first | done | rfl)); (focus ((try simp only [Kr.PT]); first | done | rfl)))
  refine Kr.seqDoneW ?_
  have hk := trivial
  go_wp2
  refine bodyPost_ret (v := .slice (some ⟨w.heap.size, 0, none⟩) 64 64) (by simp [results, Tryd.results43, go_sem, hk]) rfl ⟨w.heap.size, rfl, Nat.le_refl _, (by have h := H.at 0 rfl; rw [← HX.out] at h; exact h), H.g⟩
end Go.Proofs.YtldgjhmefaapeaaDoor.Dg


/- The digest over the padded form. -/
namespace Go.Proofs.YtldgjhmefaapeaaDoor.Dg
open Go Go.RowKit Go.Proofs.YtldgjhmefaapeaaDoor.Ne Go.Proofs.YtldgjhmefaapeaaDoor.Kr

theorem sch_congr {m m2 : Nat → BitVec 32} (h : ∀ i, i < 16 → m i = m2 i) : ∀ {t : Nat}, sch m t = sch m2 t
  | 0 => rfl
  | t + 1 => by
    rw [sch, sch, sch_congr h]
    by_cases h1 : t < 16
    · rw [if_pos h1, if_pos h1, h t h1]
    · rw [if_neg h1, if_neg h1]
theorem getD_app {l t : List (BitVec 8)} {j : Nat} (h : j < l.length) : (l ++ t).getD j 0 = l.getD j 0 := by
  rw [List.getD_eq_getElem?_getD, List.getD_eq_getElem?_getD, List.getElem?_append_left h]
theorem wordOf_app (l t : List (BitVec 8)) {i : Nat} (h : 4 * i + 3 < l.length) : wordOf (l ++ t) i = wordOf l i := by
  unfold wordOf
  rw [getD_app (by omega), getD_app (by omega), getD_app (by omega), getD_app (by omega)]

theorem absB_app : ∀ (n : Nat) (S : S8) (l t : List (BitVec 8)), l.length = n → absB S (l ++ t) = absB (absB S l).1 ((absB S l).2 ++ t)
  | n, S, l, t, hn => by
    by_cases h : 64 ≤ l.length
    · rw [absB_yes (l := l) h, absB_yes (l := l ++ t) (by rw [List.length_append]; omega)]
      have e1 : (l ++ t).drop 64 = l.drop 64 ++ t := List.drop_append_of_le_length h
      have e2 : comp S (wordOf (l ++ t)) = comp S (wordOf l) := by
        unfold comp
        rw [sch_congr (m := wordOf (l ++ t)) (m2 := wordOf l) (fun i hi => wordOf_app l t (by omega))]
      rw [e1, e2]
      exact absB_app (l.drop 64).length _ _ _ rfl
    · rw [absB_no (l := l) (by omega)]
termination_by n => n
decreasing_by rw [List.length_drop]; omega
theorem absB_rest : ∀ (n : Nat) (S : S8) (l : List (BitVec 8)), l.length = n → (absB S l).2.length = n % 64
  | n, S, l, hn => by
    by_cases h : 64 ≤ l.length
    · rw [absB_yes h, absB_rest (l.drop 64).length _ _ rfl, List.length_drop]; omega
    · rw [absB_no (by omega)]; show l.length = n % 64; omega
termination_by n => n
decreasing_by rw [List.length_drop]; omega
theorem pd_end {k : Nat} {r : List (BitVec 8)} (hr : r.length = k % 64) : r ++ ([128#8] ++ List.replicate (zc k) 0#8 ++ be8 (8 * k)) = padEnd (endLen r.length) r (8 * k) := by
  unfold padEnd
  have e : endLen r.length - 8 - (r.length + 1) = zc k := by unfold endLen zc; rw [hr]; split <;> omega
  rw [e]
  simp [List.append_assoc]
/-- The digest, block by block over the padded form. -/
theorem sha_pd (l : List (BitVec 8)) : sha l = outs (absB s0 (pd l)).1.list := by
  have e : pd l = l ++ ([128#8] ++ List.replicate (zc l.length) 0#8 ++ be8 (8 * l.length)) := by unfold pd pre; simp [List.append_assoc]
  rw [sha, shaS, e, absB_app _ _ _ _ rfl, pd_end (absB_rest _ _ _ rfl)]

end Go.Proofs.YtldgjhmefaapeaaDoor.Dg


/- Bytes of words. -/
namespace Go.Proofs.YtldgjhmefaapeaaDoor.Dg
open Go Go.RowKit Go.Proofs.YtldgjhmefaapeaaDoor.Ne Go.Proofs.YtldgjhmefaapeaaDoor.Kr

set_option linter.unusedSimpArgs false in
theorem shrV2 {w : World} {x y : BitVec 32} {k : Nat} (hk : k < 32) (h : x >>> k = y) : (binOp .shr 38 (.int .u32 (x.toNat : Int)) (.int .i64 (k : Int))).run Tryd.prog w = .ok (.int .u32 (y.toNat : Int)) w := by
  have e : x.toNat / 2 ^ k = y.toNat := by rw [← h, BitVec.toNat_ushiftRight, Nat.shiftRight_eq_div_pow]
  have h1 : (x.toNat : Int) / 2 ^ k = (y.toNat : Int) := by rw [← e]; simp
  have h2 : (x.toNat : Int) / (2 ^ k : Nat) = (y.toNat : Int) := by rw [← e]; simp
  have hk0 : ¬ (k : Int) < 0 := by omega
  have hk1 : ¬ 32 ≤ k := by omega
  clear h e hk
  go_simp
  first | done | assumption
theorem quoI {w : World} {x d q : Nat} (h0 : 0 < d) (hq : x / d = q) (hx : x < 9223372036854775808) : (binOp .quo 3 (.int .i64 (x : Int)) (.int .i64 (d : Int))).run Tryd.prog w = .ok (.int .i64 (q : Int)) w := by
  have hd0 : ¬ d = 0 := by omega
  have h1 : (x : Int).tdiv (d : Int) = (q : Int) := by
    rw [Int.tdiv_eq_ediv_of_nonneg (by omega), ← Int.natCast_ediv, hq]
  have h2 : q ≤ x := hq ▸ Nat.div_le_self _ _
  have h3 : IntKind.i64.wrap (q : Int) = (q : Int) := IntWalk.i64_in _ (by omega)
  clear hq h0 hx h2
  go_simp
theorem outs_get : ∀ (L : List (BitVec 32)) (i : Nat), i < 4 * L.length → (outs L)[i]? = some ((L.getD (i / 4) 0 >>> (24 - 8 * (i % 4))).setWidth 8)
  | [], i, h => by simp at h
  | x :: r, 0, _ => rfl
  | x :: r, 1, _ => rfl
  | x :: r, 2, _ => rfl
  | x :: r, 3, _ => rfl
  | x :: r, i + 4, h => by
    have ih := outs_get r i (by rw [List.length_cons] at h; omega)
    have e : outs (x :: r) = four x ++ outs r := rfl
    rw [e, List.getElem?_append_right (show (four x).length ≤ i + 4 from Nat.le_add_left 4 i), show i + 4 - (four x).length = i from Nat.add_sub_cancel i 4, ih]
    rw [show (i + 4) / 4 = i / 4 + 1 by omega, show (i + 4) % 4 = i % 4 by omega, List.getD_cons_succ]
theorem bytes_drop {W : World} {b n a : Nat} {T : TypeId} {cur : List Value} {l : List (BitVec 8)} {fr : Nat × Nat} (h : W.heap[b]? = some (.cells cur.toArray T fr)) (ht : cur.take n = l.map w8) (hl : l.length = n) : BytesAt b a (l.drop a) W := fun j x hx => by
  rw [List.getElem?_drop] at hx
  have h1 : (l.map w8)[a + j]? = some (w8 x) := map_get8 hx
  have h2 : a + j < n := by have := (List.getElem?_eq_some_iff.1 hx).1; omega
  rw [cell_of_row W b (a + j) _ _ _ h]
  simpa using of_take ht h2 h1
theorem rnd_list {Z : S8} {k w u0 u4 x y : BitVec 32} (hx : T1 Z k w = x) (hy : T2 Z = y) (h0 : x + y = u0) (h4 : Z.d + x = u4) : rnd Z k w = ⟨u0, Z.a, Z.b, Z.c, u4, Z.e, Z.f, Z.g⟩ := by
  unfold rnd; rw [hx, hy, h0, h4]

end Go.Proofs.YtldgjhmefaapeaaDoor.Dg


/- The reference's Sum. -/
namespace Go.Proofs.YtldgjhmefaapeaaDoor.Dg
open Go Go.RowKit Go.Proofs.YtldgjhmefaapeaaDoor.Ne Go.Proofs.YtldgjhmefaapeaaDoor.Kr

set_option linter.unusedSimpArgs false in
set_option maxRecDepth 100000 in
set_option maxHeartbeats 16000000 in
theorem rSum_v {p : Option Addr} {n c : Nat} {l : List (BitVec 8)} {w : World} (hS : SrcB p l w) (hl : l.length = n) (hp : p = none → c = 0) (hn : n ≤ 1000000) :
    Calls Tryd.prog 34 #[.slice p n c] w fun e w' => e = .returned (.agg ((sha l).map w8).toArray) ∧ Gr w w' := by
  have HS := Lib.hid hS; clear hS
  obtain ⟨PD, hPD⟩ : ∃ z, pd l = z := ⟨_, rfl⟩
  have hsha := sha_pd l; have hpl := pd_length l; have hzc : (l.length + 9 + zc l.length) % 64 = 0 ∧ zc l.length < 64 := by unfold zc; omega
  rw [hPD] at hsha hpl
  obtain ⟨M, hM⟩ : ∃ z, PD.length = z := ⟨_, rfl⟩
  have hM64 : M % 64 = 0 := by omega
  have hMl : M < 2000000 := by omega
  have hM1 : 0 < M := by omega
  obtain ⟨RES, hRES⟩ : ∃ z, (absB s0 PD).1 = z := ⟨_, rfl⟩
  rw [hRES] at hsha; rw [hsha]; clear hsha hpl hzc
  obtain ⟨OL, hOL⟩ : ∃ z, outs RES.list = z := ⟨_, rfl⟩
  have hOl : OL.length = 32 := by rw [← hOL]; exact outs_length _
  rw [hOL]
  have H := Ow.start w
  go_enter Tryd.func34, Tryd.ntmps34
  go_upto_region 0 with fail
  refine Kr.seqStartW ?_
  refine Kr.seqR (by rfl) (fun K hK => ?_)
  refine wp_runV rfl newH ?_
  obtain ⟨y1, hy⟩ : ∃ y, w.alloc (.cells (List.replicate 32 (Value.int .u8 0)).toArray 23) = y := ⟨_, rfl⟩
  obtain ⟨bo, hb⟩ : ∃ b, w.heap.size = b := ⟨_, rfl⟩
  rw [hy, hb]
  have hg : Gr w y1 := hy ▸ (Gr.refl _).alloc _
  replace H := H.alloc hy hb
  clear hy hb hg
  (refine Kr.outS hK (a' := ?_) ?_ ?_; rotate_left; (focus ((try simp only [Kr.PT]); first | done | rfl))); clear hK K
  refine Kr.seqDoneW ?_
  go_upto_region 1 with fail
  refine Kr.seqStartW ?_
  refine Kr.seqR (by rfl) (fun K hK => ?_)
  go_simp
  obtain ⟨y2, hy⟩ : ∃ y, y1.alloc (.cells #[.int .u32 1779033703, .int .u32 3144134277, .int .u32 1013904242, .int .u32 2773480762, .int .u32 1359893119, .int .u32 2600822924, .int .u32 528734635, .int .u32 1541459225] 38) = y := ⟨_, rfl⟩
  obtain ⟨bh, hb⟩ : ∃ b, y1.heap.size = b := ⟨_, rfl⟩
  rw [hy, hb]
  have hy2 : y1.alloc (.cells (s0.list.map w32).toArray 38) = y2 := hy
  replace H := H.alloc hy2 hb; clear hy hy2 hb
  (refine Kr.outS hK (a' := ?_) ?_ ?_; rotate_left; (focus ((try simp only [Kr.PT]); first | done | rfl))); clear hK K
  (refine Kr.seqQ (v := ?_) (a' := ?_) (by rfl) ?_ ?_ ?_; rotate_left 2; (focus (go_simp; first | done | rfl)); (focus ((try simp only [Kr.PT]); first | done | rfl)))
  refine Kr.seqDoneW ?_
  go_upto_region 2 with fail
  refine Kr.seqStartW ?_
  refine Kr.seqR (by rfl) (fun K hK => ?_)
  go_simp
  go_at_call 43
  refine (rconst_v).mono ?_
  rintro e y3 ⟨bk, rfl, hbk, hhk, hg⟩
  replace H := H.made hg hbk hhk; clear hg hbk hhk
  (refine Kr.outS hK (a' := ?_) ?_ ?_; rotate_left; (focus ((try simp only [Kr.PT]); first | done | rfl))); clear hK K
  (refine Kr.seqQ (v := ?_) (a' := ?_) (by rfl) ?_ ?_ ?_; rotate_left 2; (focus (go_simp; first | done | rfl)); (focus ((try simp only [Kr.PT]); first | done | rfl)))
  refine Kr.seqDoneW ?_
  go_upto_region 3 with fail
  refine Kr.seqStartW ?_
  (refine Kr.seqQ (v := ?_) (a' := ?_) (by rfl) ?_ ?_ ?_; rotate_left 2; (focus (go_simp; first | done | rfl)); (focus ((try simp only [Kr.PT]); first | done | rfl)))
  refine Kr.seqR (by rfl) (fun K hK => ?_)
  go_simp
  go_at_call 44
  refine (padded_v (HS.out.grow H.g) hl hp hn).mono ?_
  rintro e y4 ⟨bp, cp, curp, rfl, hcp, hbp, hhp, htp, hg⟩
  rw [hPD, hM] at hcp htp; rw [hPD, hM]
  replace H := H.made hg hbp hhp; clear hg hbp hhp HS
  (refine Kr.outS hK (a' := ?_) ?_ ?_; rotate_left; (focus ((try simp only [Kr.PT]); first | done | rfl))); clear hK K
  (refine Kr.seqQ (v := ?_) (a' := ?_) (by rfl) ?_ ?_ ?_; rotate_left 2; (focus (go_simp; first | done | rfl)); (focus ((try simp only [Kr.PT]); first | done | rfl)))
  refine Kr.seqDoneW ?_
  go_upto_region 4 with fail
  refine Kr.seqStartW ?_
  (refine Kr.seqQ (v := ?_) (a' := ?_) (by rfl) ?_ ?_ ?_; rotate_left 2; (focus (go_simp; first | done | rfl)); (focus ((try simp only [Kr.PT]); first | done | rfl)))
  refine Kr.seqDoneW ?_
  have H2 := Lib.hid H; clear H
  go_wp2_with fail
  go_loopw [6] (fun iv wr => ∃ (a : Nat) (S : S8), a % 64 = 0 ∧ a ≤ M ∧ iv = .int .i64 (a : Int) ∧ Hid ((absB S (PD.drop a)).1 = RES) ∧ Hid (Ow w wr [(bp, 5, curp), (bk, 38, kc.map w32), (bh, 38, S.list.map w32), (bo, 23, List.replicate 32 (Value.int .u8 0))])) (fun iv _ => M - (intOf iv).toNat)
  case atStart => exact ⟨0, s0, rfl, Nat.zero_le _, rfl, Lib.hid hRES, H2⟩
  case round =>
    clear H2; obtain ⟨a, S, ha64, haM, rfl, HAB, HH⟩ := hrel; have H := HH.out; clear HH
    by_cases hae : a = M
    · have HC : decide ((a : Int) < (M : Int)) = false := decide_eq_false (by omega)
      have hSR : S = RES := by have h := HAB.out; rw [hae, List.drop_of_length_le (by omega), absB_no (by decide)] at h; exact h
      clear hae
      go_upto_region 5 with fail
      refine Kr.seqStartW ?_
      (refine Kr.seqQ (v := ?_) (a' := ?_) (by rfl) ?_ ?_ ?_; rotate_left 2; (focus (go_simp; first | done | rfl)); (focus ((try simp only [Kr.PT]); first | done | rfl)))
      (refine Kr.seqQ (v := ?_) (a' := ?_) (by rfl) ?_ ?_ ?_; rotate_left 2; (focus (go_simp; first | done | rfl)); (focus ((try simp only [Kr.PT]); first | done | rfl)))
      (refine Kr.seqQ (v := .int .i64 (M : Int)) (a' := ?_) (by rfl) ?_ ?_ ?_; rotate_left 1; (focus (exact Kr.valOf rfl ((by go_simp)))); (focus ((try simp only [Kr.PT]); first | done | rfl)))
      (refine Kr.seqQ (v := .bool false) (a' := ?_) (by rfl) ?_ ?_ ?_; rotate_left 1; (focus (exact Kr.valOf rfl (lssT HC))); (focus ((try simp only [Kr.PT]); first | done | rfl)))
      refine Kr.seqDoneW ?_
      go_upto_region 19 with fail
      refine Kr.seqStartW ?_
      refine Kr.seqR (by rfl) (fun K hK => ?_)
      refine wp_runV rfl newH ?_
      obtain ⟨y5, hy⟩ : ∃ y, wr.alloc (.cells (List.replicate 32 (Value.int .u8 0)).toArray 23) = y := ⟨_, rfl⟩
      obtain ⟨bf, hb⟩ : ∃ b, wr.heap.size = b := ⟨_, rfl⟩
      rw [hy, hb]
      have hg : Gr wr y5 := hy ▸ (Gr.refl _).alloc _
      replace H := H.alloc hy hb
      clear hy hb hg
      (refine Kr.outS hK (a' := ?_) ?_ ?_; rotate_left; (focus ((try simp only [Kr.PT]); first | done | rfl))); clear hK K
      refine Kr.seqDoneW ?_
      go_upto_region 20 with fail
      refine Kr.seqStartW ?_
      (refine Kr.seqQ (v := ?_) (a' := ?_) (by rfl) ?_ ?_ ?_; rotate_left 2; (focus (go_simp; first | done | rfl)); (focus ((try simp only [Kr.PT]); first | done | rfl)))
      refine Kr.seqDoneW ?_
      have hOS : outs S.list = OL := by rw [hSR]; exact hOL
      rw [show List.replicate 32 (Value.int .u8 0) = padN 32 (OL.take 0) from rfl] at H
      have H2 := Lib.hid H; clear H HC HAB
      go_wp2_with fail
      go_loopw [14] (fun iv wr => ∃ i : Nat, i ≤ 32 ∧ iv = .int .i64 (i : Int) ∧ Hid (Ow w wr [(bf, 23, padN 32 (OL.take i)), (bp, 5, curp), (bk, 38, kc.map w32), (bh, 38, S.list.map w32), (bo, 23, padN 32 (OL.take 0))])) (fun iv _ => 32 - (intOf iv).toNat)
      case atStart => exact ⟨0, Nat.zero_le _, rfl, H2⟩
      case round =>
        clear H2; obtain ⟨i, hi, rfl, HH⟩ := hrel; have H := HH.out; clear HH
        have htl : (OL.take i).length = i := by rw [List.length_take, hOl]; omega
        by_cases hie : i = 32
        · have HC : decide ((i : Int) < 32) = false := decide_eq_false (by omega)
          rw [show OL.take i = OL from List.take_of_length_le (by omega), padN_full hOl] at H; clear hie htl
          have h32 : (OL.map w8).length = 32 := by rw [List.length_map]; exact hOl
          go_upto_region 21 with fail
          refine Kr.seqStartW ?_
          (refine Kr.seqQ (v := ?_) (a' := ?_) (by rfl) ?_ ?_ ?_; rotate_left 2; (focus (go_simp; first | done | rfl)); (focus ((try simp only [Kr.PT]); first | done | rfl)))
          (refine Kr.seqQ (v := .bool false) (a' := ?_) (by rfl) ?_ ?_ ?_; rotate_left 1; (focus (exact Kr.valOf rfl (lssT HC))); (focus ((try simp only [Kr.PT]); first | done | rfl)))
          refine Kr.seqDoneW ?_
          go_upto_region 24 with fail
          refine Kr.seqStartW ?_
          (refine Kr.seqQ (v := .agg (OL.map w8).toArray) (a' := ?_) (by rfl) ?_ ?_ ?_; rotate_left 1; (focus (exact Kr.valOf rfl (ldH (H.at 0 rfl) h32))); (focus ((try simp only [Kr.PT]); first | done | rfl)))
          refine Kr.seqR (by rfl) (fun K hK => ?_)
          refine wp_run rfl (stH (H.at 4 rfl) (padN_length (show (OL.take 0).length ≤ 32 from Nat.zero_le _)) h32 (oneCell_bytes _)) ?_
          obtain ⟨y6, hy⟩ : ∃ y, wr.setRow bo (OL.map w8).toArray = y := ⟨_, rfl⟩
          rw [hy]
          replace H := H.put 4 hy rfl
          dsimp only [List.set] at H
          clear hy
          (refine Kr.outS hK (a' := ?_) ?_ ?_; rotate_left; (focus ((try simp only [Kr.PT]); first | done | rfl))); clear hK K
          refine Kr.seqDoneW ?_
          go_wp2
          refine bodyPost_ret (v := .agg (OL.map w8).toArray) (results_cell_row rfl _ _ bo 23 _ _ _ (by rfl) (H.at 4 rfl) Tryd.underlying23 rfl (by rw [List.size_toArray, h32]; exact infoH)) rfl ⟨rfl, H.g⟩
        · have hil : i < 32 := by omega
          have HC : decide ((i : Int) < 32) = true := decide_eq_true (by omega)
          obtain ⟨q, hq⟩ : ∃ z, i / 4 = z := ⟨_, rfl⟩
          obtain ⟨r, hr⟩ : ∃ z, i % 4 = z := ⟨_, rfl⟩
          obtain ⟨r8, hr8⟩ : ∃ z, 8 * r = z := ⟨_, rfl⟩
          obtain ⟨d, hd⟩ : ∃ z, 24 - r8 = z := ⟨_, rfl⟩
          obtain ⟨x0, hx0⟩ : ∃ x, S.list.getD q 0 = x := ⟨_, rfl⟩
          have hgx := w_get (show q < S.list.length from (by show q < 8; omega)) hx0
          obtain ⟨y0, hy0⟩ : ∃ z, x0 >>> d = z := ⟨_, rfl⟩
          obtain ⟨z0, hz0⟩ : ∃ z, y0.setWidth 8 = z := ⟨_, rfl⟩
          have htk : OL.take (i + 1) = OL.take i ++ [z0] := by rw [List.take_add_one, ← hOS, outs_get S.list i (by show i < 32; omega), hq, hr, hr8, hd, hx0, hy0, hz0]; rfl
          have hmul : IntKind.i64.wrap ((8 : Int) * (r : Int)) = (r8 : Int) := wrap_nat (by omega) (by omega)
          have hsub : IntKind.i64.wrap ((24 : Int) - (r8 : Int)) = (d : Int) := wrap_nat (by omega) (by omega)
          obtain ⟨v0, hv0⟩ := padN_any (N := 32) (l := OL.take i) (j := i) (by omega) (by omega)
          go_upto_region 21 with fail
          refine Kr.seqStartW ?_
          (refine Kr.seqQ (v := ?_) (a' := ?_) (by rfl) ?_ ?_ ?_; rotate_left 2; (focus (go_simp; first | done | rfl)); (focus ((try simp only [Kr.PT]); first | done | rfl)))
          (refine Kr.seqQ (v := .bool true) (a' := ?_) (by rfl) ?_ ?_ ?_; rotate_left 1; (focus (exact Kr.valOf rfl (lssT HC))); (focus ((try simp only [Kr.PT]); first | done | rfl)))
          refine Kr.seqDoneW ?_
          go_upto_region 23 with fail
          refine Kr.seqStartW ?_
          (refine Kr.seqQ (v := ?_) (a' := ?_) (by rfl) ?_ ?_ ?_; rotate_left 2; (focus (go_simp; first | done | rfl)); (focus ((try simp only [Kr.PT]); first | done | rfl)))
          (refine Kr.seqQ (v := ?_) (a' := ?_) (by rfl) ?_ ?_ ?_; rotate_left 2; (focus (go_simp; first | done | rfl)); (focus ((try simp only [Kr.PT]); first | done | rfl)))
          (refine Kr.seqQ (v := ?_) (a' := ?_) (by rfl) ?_ ?_ ?_; rotate_left 2; (focus (go_simp; first | done | rfl)); (focus ((try simp only [Kr.PT]); first | done | rfl)))
          (refine Kr.seqQ (v := .int .i64 (q : Int)) (a' := ?_) (by rfl) ?_ ?_ ?_; rotate_left 1; (focus (exact Kr.valOf rfl (quoI (d := 4) (by decide) hq (by omega)))); (focus ((try simp only [Kr.PT]); first | done | rfl)))
          (refine Kr.seqQ (v := .pointer (some ⟨bh, q, none⟩)) (a' := ?_) (by rfl) ?_ ?_ ?_; rotate_left 1; (focus (exact Kr.valOf rfl (ixW0 (by omega)))); (focus ((try simp only [Kr.PT]); first | done | rfl)))
          (refine Kr.seqQ (v := .int .u32 ((x0).toNat : Int)) (a' := ?_) (by rfl) ?_ ?_ ?_; rotate_left 1; (focus (exact Kr.valOf rfl (ldE32 (rowCell (H.at 3 rfl) hgx)))); (focus ((try simp only [Kr.PT]); first | done | rfl)))
          (refine Kr.seqQ (v := ?_) (a' := ?_) (by rfl) ?_ ?_ ?_; rotate_left 2; (focus (go_simp; first | done | rfl)); (focus ((try simp only [Kr.PT]); first | done | rfl)))
          (refine Kr.seqQ (v := .int .i64 (r : Int)) (a' := ?_) (by rfl) ?_ ?_ ?_; rotate_left 1; (focus (exact Kr.valOf rfl (remI (d := 4) (by decide) hr (by decide)))); (focus ((try simp only [Kr.PT]); first | done | rfl)))
          (refine Kr.seqQ (v := .int .i64 (r8 : Int)) (a' := ?_) (by rfl) ?_ ?_ ?_; rotate_left 1; (focus (exact Kr.valOf rfl (mulI hmul))); (focus ((try simp only [Kr.PT]); first | done | rfl)))
          (refine Kr.seqQ (v := .int .i64 (d : Int)) (a' := ?_) (by rfl) ?_ ?_ ?_; rotate_left 1; (focus (exact Kr.valOf rfl (subI hsub))); (focus ((try simp only [Kr.PT]); first | done | rfl)))
          (refine Kr.seqQ (v := .int .u32 ((y0).toNat : Int)) (a' := ?_) (by rfl) ?_ ?_ ?_; rotate_left 1; (focus (exact Kr.valOf rfl (shrV2 (by omega) hy0))); (focus ((try simp only [Kr.PT]); first | done | rfl)))
          (refine Kr.seqQ (v := .int .u8 ((z0).toNat : Int)) (a' := ?_) (by rfl) ?_ ?_ ?_; rotate_left 1; (focus (exact Kr.valOf rfl ((by rw [← hz0]; exact conv32B)))); (focus ((try simp only [Kr.PT]); first | done | rfl)))
          (refine Kr.seqQ (v := .pointer (some ⟨bf, i, none⟩)) (a' := ?_) (by rfl) ?_ ?_ ?_; rotate_left 1; (focus (exact Kr.valOf rfl (ixH hil))); (focus ((try simp only [Kr.PT]); first | done | rfl)))
          refine Kr.seqR (by rfl) (fun K hK => ?_)
          refine wp_run rfl (stE8 (H.cell 0 rfl hv0) (H.frozen 0 rfl i)) ?_
          obtain ⟨y7, hy⟩ : ∃ y, wr.setCell ⟨bf, i, none⟩ (.int .u8 ((z0).toNat : Int)) = y := ⟨_, rfl⟩
          rw [hy]
          replace H := H.set 0 (i) hy rfl
          dsimp only [List.set] at H
          clear hy
          rw [padN_set htl hil, ← htk] at H
          (refine Kr.outS hK (a' := ?_) ?_ ?_; rotate_left; (focus ((try simp only [Kr.PT]); first | done | rfl))); clear hK K
          refine Kr.seqDoneW ?_
          have HADD : IntKind.i64.wrap ((i : Int) + 1) = ((i + 1 : Nat) : Int) := wrap_nat (by omega) (by omega)
          go_upto_region 22 with fail
          refine Kr.seqStartW ?_
          (refine Kr.seqQ (v := ?_) (a' := ?_) (by rfl) ?_ ?_ ?_; rotate_left 2; (focus (go_simp; first | done | rfl)); (focus ((try simp only [Kr.PT]); first | done | rfl)))
          (refine Kr.seqQ (v := .int .i64 ((i + 1 : Nat) : Int)) (a' := ?_) (by rfl) ?_ ?_ ?_; rotate_left 1; (focus (exact Kr.valOf rfl (addI HADD))); (focus ((try simp only [Kr.PT]); first | done | rfl)))
          (refine Kr.seqQ (v := ?_) (a' := ?_) (by rfl) ?_ ?_ ?_; rotate_left 2; (focus (go_simp; first | done | rfl)); (focus ((try simp only [Kr.PT]); first | done | rfl)))
          refine Kr.seqDoneW ?_
          go_wp2; go_roundw
          case rel => exact ⟨i + 1, by omega, rfl, Lib.hid H⟩
          case measure => simp [intOf]; omega
    · have haM2 : a + 64 ≤ M := by omega
      have HC : decide ((a : Int) < (M : Int)) = true := decide_eq_true (by omega)
      obtain ⟨e, he⟩ : ∃ z, a + 64 = z := ⟨_, rfl⟩
      have hadd : IntKind.i64.wrap ((a : Int) + 64) = (e : Int) := wrap_nat (by omega) (by omega)
      obtain ⟨D, hD⟩ : ∃ z, PD.drop a = z := ⟨_, rfl⟩
      have hDl : 64 ≤ D.length := by rw [← hD, List.length_drop]; omega
      have hD2 : PD.drop e = D.drop 64 := by rw [← hD, List.drop_drop, he]
      rw [hD] at HAB
      obtain ⟨R, hR⟩ : ∃ z, sch (wordOf D) 64 = z := ⟨_, rfl⟩
      have hRl : R.length = 64 := by rw [← hR]; exact sch_length _ _
      go_upto_region 5 with fail
      refine Kr.seqStartW ?_
      (refine Kr.seqQ (v := ?_) (a' := ?_) (by rfl) ?_ ?_ ?_; rotate_left 2; (focus (go_simp; first | done | rfl)); (focus ((try simp only [Kr.PT]); first | done | rfl)))
      (refine Kr.seqQ (v := ?_) (a' := ?_) (by rfl) ?_ ?_ ?_; rotate_left 2; (focus (go_simp; first | done | rfl)); (focus ((try simp only [Kr.PT]); first | done | rfl)))
      (refine Kr.seqQ (v := .int .i64 (M : Int)) (a' := ?_) (by rfl) ?_ ?_ ?_; rotate_left 1; (focus (exact Kr.valOf rfl ((by go_simp)))); (focus ((try simp only [Kr.PT]); first | done | rfl)))
      (refine Kr.seqQ (v := .bool true) (a' := ?_) (by rfl) ?_ ?_ ?_; rotate_left 1; (focus (exact Kr.valOf rfl (lssT HC))); (focus ((try simp only [Kr.PT]); first | done | rfl)))
      refine Kr.seqDoneW ?_
      go_upto_region 7 with fail
      refine Kr.seqStartW ?_
      (refine Kr.seqQ (v := ?_) (a' := ?_) (by rfl) ?_ ?_ ?_; rotate_left 2; (focus (go_simp; first | done | rfl)); (focus ((try simp only [Kr.PT]); first | done | rfl)))
      (refine Kr.seqQ (v := ?_) (a' := ?_) (by rfl) ?_ ?_ ?_; rotate_left 2; (focus (go_simp; first | done | rfl)); (focus ((try simp only [Kr.PT]); first | done | rfl)))
      (refine Kr.seqQ (v := ?_) (a' := ?_) (by rfl) ?_ ?_ ?_; rotate_left 2; (focus (go_simp; first | done | rfl)); (focus ((try simp only [Kr.PT]); first | done | rfl)))
      (refine Kr.seqQ (v := .int .i64 (e : Int)) (a' := ?_) (by rfl) ?_ ?_ ?_; rotate_left 1; (focus (exact Kr.valOf rfl (addI hadd))); (focus ((try simp only [Kr.PT]); first | done | rfl)))
      (refine Kr.seqQ (v := .slice (some ⟨bp, a, none⟩) 64 (cp - a)) (a' := ?_) (by rfl) ?_ ?_ ?_; rotate_left 1; (focus (exact Kr.valOf rfl (slP he (by omega) hcp (by omega)))); (focus ((try simp only [Kr.PT]); first | done | rfl)))
      refine Kr.seqR (by rfl) (fun K hK => ?_)
      go_simp
      go_at_call 45
      have hP := words_v (c := cp - a) (hD ▸ bytes_drop (a := a) (H.at 0 rfl) htp hM) hDl
      rw [hR] at hP; refine hP.mono ?_
      rintro e y8 ⟨bw, cw, curw, rfl, hcw, hbw, hhw, htw, hg⟩
      replace H := H.made hg hbw hhw; clear hP hg hbw hhw
      (refine Kr.outS hK (a' := ?_) ?_ ?_; rotate_left; (focus ((try simp only [Kr.PT]); first | done | rfl))); clear hK K
      (refine Kr.seqQ (v := ?_) (a' := ?_) (by rfl) ?_ ?_ ?_; rotate_left 2; (focus (go_simp; first | done | rfl)); (focus ((try simp only [Kr.PT]); first | done | rfl)))
      refine Kr.seqDoneW ?_
      go_upto_region 8 with fail
      refine Kr.seqStartW ?_
      refine Kr.seqR (by rfl) (fun K hK => ?_)
      go_simp
      obtain ⟨y9, hy⟩ : ∃ y, y8.alloc (.cells #[] 38) = y := ⟨_, rfl⟩
      obtain ⟨bnew, hbn⟩ : ∃ b, y8.heap.size = b := ⟨_, rfl⟩
      have hnew := row_new2 H hy hbn; rw [hy, hbn]
      have hg : Gr y8 y9 := hy ▸ (Gr.refl _).alloc _
      obtain ⟨hR, HA⟩ := hnew; have HR := Lib.hid hR; clear hR
      replace H := H.grow hg
      clear hg hy hbn
      (refine Kr.outS hK (a' := ?_) ?_ ?_; rotate_left; (focus ((try simp only [Kr.PT]); first | done | rfl))); clear hK K
      (refine Kr.seqQ (v := ?_) (a' := ?_) (by rfl) ?_ ?_ ?_; rotate_left 2; (focus (go_simp; first | done | rfl)); (focus ((try simp only [Kr.PT]); first | done | rfl)))
      refine Kr.seqR (by rfl) (fun K hK => ?_)
      refine wp_appG (T := 38) (TS := 78) Tryd.underlying78 info32 rfl (.tmp 31) (.tmp 32) rfl (v := (.slice (some ⟨bnew, 0, none⟩) 0 0)) (r := []) (d := (S.list.map w32)) (p := (some ⟨bh, 0, none⟩)) (m := 8) (c := 8) (rs := [(bw, 38, curw), (bp, 5, curp), (bk, 38, kc.map w32), (bh, 38, S.list.map w32), (bo, 23, List.replicate 32 (Value.int .u8 0))]) rfl rfl (rfl) (srcG_row (H.at 3 rfl)) (oneCell_words _) (fun e => by cases e) H HR.out HA (by decide) (by decide) ?_
      intro v1 y10 H3 hR3 hA3
      clear H HR HA ; have H := H3; have HR := Lib.hid hR3; have HA := hA3; clear H3 hR3 hA3
      (refine Kr.outS hK (a' := ?_) ?_ ?_; rotate_left; (focus ((try simp only [Kr.PT]); first | done | rfl))); clear hK K
      (refine Kr.seqQ (v := ?_) (a' := ?_) (by rfl) ?_ ?_ ?_; rotate_left 2; (focus (go_simp; first | done | rfl)); (focus ((try simp only [Kr.PT]); first | done | rfl)))
      refine Kr.seqDoneW ?_
      obtain ⟨bv, cv, curv, hv1, hcv9, hbv, hhv, htv⟩ := rowG_own HR.out (show 0 < 8 by decide)
      have hv2 : v1 = .slice (some ⟨bv, 0, none⟩) 8 cv := hv1; clear hv1; subst hv2; have HTV : Hid (curv.take 8 = S.list.map w32) := Lib.hid htv; replace H := H.adopt hbv hhv (fun x hx => HA bv rfl x hx); clear htv hbv hhv HR HA hcv9
      go_upto_region 9 with fail
      refine Kr.seqStartW ?_
      (refine Kr.seqQ (v := ?_) (a' := ?_) (by rfl) ?_ ?_ ?_; rotate_left 2; (focus (go_simp; first | done | rfl)); (focus ((try simp only [Kr.PT]); first | done | rfl)))
      refine Kr.seqDoneW ?_
      have H2 := Lib.hid H; clear H HC
      go_wp2_with fail
      go_loopw [8, 9] (fun vv tv wr => ∃ (t : Nat) (Z : S8) (bv cv : Nat) (curv : List Value), t ≤ 64 ∧ vv = .slice (some ⟨bv, 0, none⟩) 8 cv ∧ tv = .int .i64 (t : Int) ∧ Hid (rnds R t S = Z) ∧ Hid (curv.take 8 = Z.list.map w32) ∧ Hid (Ow w wr [(bv, 38, curv), (bw, 38, curw), (bp, 5, curp), (bk, 38, kc.map w32), (bh, 38, S.list.map w32), (bo, 23, List.replicate 32 (Value.int .u8 0))])) (fun _ tv _ => 64 - (intOf tv).toNat)
      case atStart => exact ⟨0, S, bv, cv, curv, Nat.zero_le _, rfl, rfl, Lib.hid rfl, HTV, H2⟩
      case round =>
        clear H2 HTV; obtain ⟨t, Z, bv, cv, curv, ht, rfl, rfl, HZ, HTV, HH⟩ := hrel; have H := HH.out; clear HH
        by_cases hte : t = 64
        · have HC : decide ((t : Int) < 64) = false := decide_eq_false (by omega)
          have HZ2 : Hid (comp S (wordOf D) = S.add Z) := Lib.hid (by rw [comp, hR]; exact congrArg S.add (by rw [← hte]; exact HZ.out)); clear hte HZ ht
          go_upto_region 10 with fail
          refine Kr.seqStartW ?_
          (refine Kr.seqQ (v := ?_) (a' := ?_) (by rfl) ?_ ?_ ?_; rotate_left 2; (focus (go_simp; first | done | rfl)); (focus ((try simp only [Kr.PT]); first | done | rfl)))
          (refine Kr.seqQ (v := .bool false) (a' := ?_) (by rfl) ?_ ?_ ?_; rotate_left 1; (focus (exact Kr.valOf rfl (lssT HC))); (focus ((try simp only [Kr.PT]); first | done | rfl)))
          refine Kr.seqDoneW ?_
          go_upto_region 15 with fail
          refine Kr.seqStartW ?_
          (refine Kr.seqQ (v := ?_) (a' := ?_) (by rfl) ?_ ?_ ?_; rotate_left 2; (focus (go_simp; first | done | rfl)); (focus ((try simp only [Kr.PT]); first | done | rfl)))
          refine Kr.seqDoneW ?_
          rw [← mix_zero S Z.list] at H
          have H2 := Lib.hid H; clear H HC
          go_wp2_with fail
          go_loopw [12] (fun iv wr => ∃ i : Nat, i ≤ 8 ∧ iv = .int .i64 (i : Int) ∧ Hid (Ow w wr [(bv, 38, curv), (bw, 38, curw), (bp, 5, curp), (bk, 38, kc.map w32), (bh, 38, (mix i S.list Z.list).map w32), (bo, 23, List.replicate 32 (Value.int .u8 0))])) (fun iv _ => 8 - (intOf iv).toNat)
          case atStart => exact ⟨0, Nat.zero_le _, rfl, H2⟩
          case round =>
            clear H2; obtain ⟨i, hi, rfl, HH⟩ := hrel; have H := HH.out; clear HH
            by_cases hie : i = 8
            · have HC : decide ((i : Int) < 8) = false := decide_eq_false (by omega)
              rw [hie, mix_full] at H; replace H := H.drop 2; dsimp only [List.drop] at H; clear hie hi
              go_upto_region 16 with fail
              refine Kr.seqStartW ?_
              (refine Kr.seqQ (v := ?_) (a' := ?_) (by rfl) ?_ ?_ ?_; rotate_left 2; (focus (go_simp; first | done | rfl)); (focus ((try simp only [Kr.PT]); first | done | rfl)))
              (refine Kr.seqQ (v := .bool false) (a' := ?_) (by rfl) ?_ ?_ ?_; rotate_left 1; (focus (exact Kr.valOf rfl (lssT HC))); (focus ((try simp only [Kr.PT]); first | done | rfl)))
              refine Kr.seqDoneW ?_
              go_upto_region 6 with fail
              refine Kr.seqStartW ?_
              (refine Kr.seqQ (v := ?_) (a' := ?_) (by rfl) ?_ ?_ ?_; rotate_left 2; (focus (go_simp; first | done | rfl)); (focus ((try simp only [Kr.PT]); first | done | rfl)))
              (refine Kr.seqQ (v := .int .i64 (e : Int)) (a' := ?_) (by rfl) ?_ ?_ ?_; rotate_left 1; (focus (exact Kr.valOf rfl (addI hadd))); (focus ((try simp only [Kr.PT]); first | done | rfl)))
              (refine Kr.seqQ (v := ?_) (a' := ?_) (by rfl) ?_ ?_ ?_; rotate_left 2; (focus (go_simp; first | done | rfl)); (focus ((try simp only [Kr.PT]); first | done | rfl)))
              refine Kr.seqDoneW ?_
              go_wp2; go_roundw
              case rel => exact ⟨e, S.add Z, by omega, by omega, rfl, Lib.hid (by rw [hD2, ← HZ2.out, ← HAB.out, absB_yes hDl]), Lib.hid H⟩
              case measure => simp [intOf]; omega
            · have hil : i < 8 := by omega
              have HC : decide ((i : Int) < 8) = true := decide_eq_true (by omega)
              obtain ⟨x0, hx0⟩ : ∃ x, Z.list.getD i 0 = x := ⟨_, rfl⟩
              obtain ⟨y0, hy0⟩ : ∃ x, S.list.getD i 0 = x := ⟨_, rfl⟩
              have hgx := of_take HTV.out hil (w_get (show i < Z.list.length from hil) hx0)
              have hgy : (mix i S.list Z.list)[i]? = some y0 := hy0 ▸ mix_get hil
              obtain ⟨z0, hz0⟩ : ∃ z, y0 + x0 = z := ⟨_, rfl⟩
              have hset : ((mix i S.list Z.list).map w32).set i (.int .u32 (z0.toNat : Int)) = (mix (i + 1) S.list Z.list).map w32 := by rw [map_set32, ← hz0, ← hx0, ← hy0, mix_set hil]
              go_upto_region 16 with fail
              refine Kr.seqStartW ?_
              (refine Kr.seqQ (v := ?_) (a' := ?_) (by rfl) ?_ ?_ ?_; rotate_left 2; (focus (go_simp; first | done | rfl)); (focus ((try simp only [Kr.PT]); first | done | rfl)))
              (refine Kr.seqQ (v := .bool true) (a' := ?_) (by rfl) ?_ ?_ ?_; rotate_left 1; (focus (exact Kr.valOf rfl (lssT HC))); (focus ((try simp only [Kr.PT]); first | done | rfl)))
              refine Kr.seqDoneW ?_
              go_upto_region 18 with fail
              refine Kr.startL (fun W' => (W'.heap[bh]? = some (.cells ((mix i S.list Z.list).map w32).toArray 38 (0, 0))) ∧ (W'.heap[bv]? = some (.cells (curv).toArray 38 (0, 0))) ∧ True) [12] (by kernel_rfl) ?_
              have gd : Gr wr wr.drew := (Gr.refl _).drew
              generalize wr.drew = d11 at gd ⊢
              replace H := H.grow gd
              clear gd
              (refine Kr.tPQ 0 (v := ?_) (a' := ?_) rfl (by kernel_rfl) (fun _ _ _ h => h) (by rfl) (fun _ => ⟨(H.at 4 rfl), (H.at 0 rfl), trivial⟩) (fun wx => ?_) ?_ ?_; rotate_left 2; (focus (go_simp; first | done | rfl)); (focus ((try simp only [Kr.PT]); first | done | rfl)))
              (refine Kr.tPQ 1 (v := ?_) (a' := ?_) rfl (by kernel_rfl) (fun _ _ _ h => h) (by rfl) (fun _ => ⟨(H.at 4 rfl), (H.at 0 rfl), trivial⟩) (fun wx => ?_) ?_ ?_; rotate_left 2; (focus (go_simp; first | done | rfl)); (focus ((try simp only [Kr.PT]); first | done | rfl)))
              (refine Kr.tPQ 2 (v := ?_) (a' := ?_) rfl (by kernel_rfl) (fun _ _ _ h => h) (by rfl) (fun _ => ⟨(H.at 4 rfl), (H.at 0 rfl), trivial⟩) (fun wx => ?_) ?_ ?_; rotate_left 2; (focus (go_simp; first | done | rfl)); (focus ((try simp only [Kr.PT]); first | done | rfl)))
              (refine Kr.tPQ 3 (v := ?_) (a' := ?_) rfl (by kernel_rfl) (fun _ _ _ h => h) (by rfl) (fun _ => ⟨(H.at 4 rfl), (H.at 0 rfl), trivial⟩) (fun wx => ?_) ?_ ?_; rotate_left 2; (focus (go_simp; first | done | rfl)); (focus ((try simp only [Kr.PT]); first | done | rfl)))
              (refine Kr.tPQ 4 (v := .pointer (some ⟨bh, i, none⟩)) (a' := ?_) rfl (by kernel_rfl) (fun _ _ _ h => h) (by rfl) (fun _ => ⟨(H.at 4 rfl), (H.at 0 rfl), trivial⟩) (fun wx => ?_) ?_ ?_; rotate_left 1; (focus (exact Kr.valOf rfl (ixW0 hil))); (focus ((try simp only [Kr.PT]); first | done | rfl)))
              (refine Kr.tSQ 5 [10, 11, 12] (v := .int .u32 ((y0).toNat : Int)) (a' := ?_) rfl (by kernel_rfl) (fun _ _ _ h => h) (by rfl) ⟨(H.at 4 rfl), (H.at 0 rfl), trivial⟩ (fun wx hSx => ?_) ?_ ?_; rotate_left 1; (focus (exact Kr.valOf rfl (ldE32 (rowCell hSx.1 (map_get32 hgy))))); (focus ((try simp only [Kr.PT]); first | done | rfl)))
              (refine Kr.tPQ 6 (v := ?_) (a' := ?_) rfl (by kernel_rfl) (fun _ _ _ h => h) (by rfl) (fun _ => ⟨(H.at 4 rfl), (H.at 0 rfl), trivial⟩) (fun wx => ?_) ?_ ?_; rotate_left 2; (focus (go_simp; first | done | rfl)); (focus ((try simp only [Kr.PT]); first | done | rfl)))
              (refine Kr.tPQ 7 (v := ?_) (a' := ?_) rfl (by kernel_rfl) (fun _ _ _ h => h) (by rfl) (fun _ => ⟨(H.at 4 rfl), (H.at 0 rfl), trivial⟩) (fun wx => ?_) ?_ ?_; rotate_left 2; (focus (go_simp; first | done | rfl)); (focus ((try simp only [Kr.PT]); first | done | rfl)))
              (refine Kr.tPQ 8 (v := .pointer (some ⟨bv, i, none⟩)) (a' := ?_) rfl (by kernel_rfl) (fun _ _ _ h => h) (by rfl) (fun _ => ⟨(H.at 4 rfl), (H.at 0 rfl), trivial⟩) (fun wx => ?_) ?_ ?_; rotate_left 1; (focus (exact Kr.valOf rfl (ixW0 hil))); (focus ((try simp only [Kr.PT]); first | done | rfl)))
              (refine Kr.tSQ 9 [10, 11, 12] (v := .int .u32 ((x0).toNat : Int)) (a' := ?_) rfl (by kernel_rfl) (fun _ _ _ h => h) (by rfl) ⟨(H.at 4 rfl), (H.at 0 rfl), trivial⟩ (fun wx hSx => ?_) ?_ ?_; rotate_left 1; (focus (exact Kr.valOf rfl (ldE32 (rowCell hSx.2.1 hgx)))); (focus ((try simp only [Kr.PT]); first | done | rfl)))
              (refine Kr.tPQ 10 (v := .int .u32 ((z0).toNat : Int)) (a' := ?_) rfl (by kernel_rfl) (fun _ _ _ h => h) (by rfl) (fun _ => ⟨(H.at 4 rfl), (H.at 0 rfl), trivial⟩) (fun wx => ?_) ?_ ?_; rotate_left 1; (focus (exact Kr.valOf rfl ((by rw [← hz0]; exact addW)))); (focus ((try simp only [Kr.PT]); first | done | rfl)))
              (refine Kr.tPQ 11 (v := .pointer (some ⟨bh, i, none⟩)) (a' := ?_) rfl (by kernel_rfl) (fun _ _ _ h => h) (by rfl) (fun _ => ⟨(H.at 4 rfl), (H.at 0 rfl), trivial⟩) (fun wx => ?_) ?_ ?_; rotate_left 1; (focus (exact Kr.valOf rfl (ixW0 hil))); (focus ((try simp only [Kr.PT]); first | done | rfl)))
              refine Kr.readyL (rs := [12]) (by kernel_rfl) (by simp) ?_
              refine Kr.AllL.cons rfl (fun K hK => ?_) Kr.AllL.nil
              rw [if_pos (by rfl)]
              refine wp_run rfl (stE32 (H.cell 4 rfl (map_get32 hgy)) (H.frozen 4 rfl i)) ?_
              obtain ⟨y12, hy⟩ : ∃ y, d11.setCell ⟨bh, i, none⟩ (.int .u32 ((z0).toNat : Int)) = y := ⟨_, rfl⟩
              rw [hy]
              replace H := H.set 4 (i) hy rfl
              dsimp only [List.set] at H
              clear hy
              rw [hset] at H
              (refine Kr.outL hK (a' := ?_) ?_ (Kr.noStill (by kernel_rfl)) ?_; rotate_left; (focus ((try simp only [Kr.PT]); first | done | rfl))); clear hK K
              refine Kr.doneL (by kernel_rfl) ?_ _
              have HADD : IntKind.i64.wrap ((i : Int) + 1) = ((i + 1 : Nat) : Int) := wrap_nat (by omega) (by omega)
              go_upto_region 17 with fail
              refine Kr.seqStartW ?_
              (refine Kr.seqQ (v := ?_) (a' := ?_) (by rfl) ?_ ?_ ?_; rotate_left 2; (focus (go_simp; first | done | rfl)); (focus ((try simp only [Kr.PT]); first | done | rfl)))
              (refine Kr.seqQ (v := .int .i64 ((i + 1 : Nat) : Int)) (a' := ?_) (by rfl) ?_ ?_ ?_; rotate_left 1; (focus (exact Kr.valOf rfl (addI HADD))); (focus ((try simp only [Kr.PT]); first | done | rfl)))
              (refine Kr.seqQ (v := ?_) (a' := ?_) (by rfl) ?_ ?_ ?_; rotate_left 2; (focus (go_simp; first | done | rfl)); (focus ((try simp only [Kr.PT]); first | done | rfl)))
              refine Kr.seqDoneW ?_
              go_wp2; go_roundw
              case rel => exact ⟨i + 1, by omega, rfl, Lib.hid H⟩
              case measure => simp [intOf]; omega
        · have htl : t < 64 := by omega
          have HC : decide ((t : Int) < 64) = true := decide_eq_true (by omega)
          obtain ⟨k0, hk0⟩ : ∃ x, kc.getD t 0 = x := ⟨_, rfl⟩
          have hgk := w_get (show t < kc.length from htl) hk0
          obtain ⟨w0, hw0⟩ : ∃ x, R.getD t 0 = x := ⟨_, rfl⟩
          have hgw := of_take htw htl (w_get (show t < R.length by omega) hw0)
          have hz0 : curv[0]? = some (.int .u32 ((Z.a).toNat : Int)) := of_take HTV.out (by decide) rfl
          have hz1 : curv[1]? = some (.int .u32 ((Z.b).toNat : Int)) := of_take HTV.out (by decide) rfl
          have hz2 : curv[2]? = some (.int .u32 ((Z.c).toNat : Int)) := of_take HTV.out (by decide) rfl
          have hz3 : curv[3]? = some (.int .u32 ((Z.d).toNat : Int)) := of_take HTV.out (by decide) rfl
          have hz4 : curv[4]? = some (.int .u32 ((Z.e).toNat : Int)) := of_take HTV.out (by decide) rfl
          have hz5 : curv[5]? = some (.int .u32 ((Z.f).toNat : Int)) := of_take HTV.out (by decide) rfl
          have hz6 : curv[6]? = some (.int .u32 ((Z.g).toNat : Int)) := of_take HTV.out (by decide) rfl
          have hz7 : curv[7]? = some (.int .u32 ((Z.h).toNat : Int)) := of_take HTV.out (by decide) rfl
          go_upto_region 10 with fail
          refine Kr.seqStartW ?_
          (refine Kr.seqQ (v := ?_) (a' := ?_) (by rfl) ?_ ?_ ?_; rotate_left 2; (focus (go_simp; first | done | rfl)); (focus ((try simp only [Kr.PT]); first | done | rfl)))
          (refine Kr.seqQ (v := .bool true) (a' := ?_) (by rfl) ?_ ?_ ?_; rotate_left 1; (focus (exact Kr.valOf rfl (lssT HC))); (focus ((try simp only [Kr.PT]); first | done | rfl)))
          refine Kr.seqDoneW ?_
          obtain ⟨r6, hr6⟩ : ∃ z, rr Z.e 6 = z := ⟨_, rfl⟩
          obtain ⟨r11, hr11⟩ : ∃ z, rr Z.e 11 = z := ⟨_, rfl⟩
          obtain ⟨r25, hr25⟩ : ∃ z, rr Z.e 25 = z := ⟨_, rfl⟩
          obtain ⟨m1, hm1⟩ : ∃ z, r6 ^^^ r11 = z := ⟨_, rfl⟩
          obtain ⟨m2, hm2⟩ : ∃ z, m1 ^^^ r25 = z := ⟨_, rfl⟩
          obtain ⟨m3, hm3⟩ : ∃ z, Z.h + m2 = z := ⟨_, rfl⟩
          obtain ⟨m4, hm4⟩ : ∃ z, Z.e &&& Z.f = z := ⟨_, rfl⟩
          obtain ⟨m5, hm5⟩ : ∃ z, ~~~Z.e = z := ⟨_, rfl⟩
          obtain ⟨m6, hm6⟩ : ∃ z, m5 &&& Z.g = z := ⟨_, rfl⟩
          obtain ⟨m7, hm7⟩ : ∃ z, m4 ^^^ m6 = z := ⟨_, rfl⟩
          obtain ⟨m8, hm8⟩ : ∃ z, m3 + m7 = z := ⟨_, rfl⟩
          obtain ⟨m9, hm9⟩ : ∃ z, m8 + k0 = z := ⟨_, rfl⟩
          obtain ⟨x1, hx1⟩ : ∃ z, m9 + w0 = z := ⟨_, rfl⟩
          have hT1 : T1 Z k0 w0 = x1 := by unfold T1; rw [hr6, hr11, hr25, hm1, hm2, hm3, hm4, hm5, hm6, hm7, hm8, hm9, hx1]
          go_upto_region 12 with fail
          refine Kr.startL (fun W' => (W'.heap[bv]? = some (.cells (curv).toArray 38 (0, 0))) ∧ (W'.heap[bk]? = some (.cells (kc.map w32).toArray 38 (0, 0))) ∧ (W'.heap[bw]? = some (.cells (curw).toArray 38 (0, 0))) ∧ True) [] (by kernel_rfl) ?_
          have gd : Gr wr wr.drew := (Gr.refl _).drew
          generalize wr.drew = d13 at gd ⊢
          replace H := H.grow gd
          clear gd
          (refine Kr.tPQ 0 (v := ?_) (a' := ?_) rfl (by kernel_rfl) (fun _ _ _ h => h) (by rfl) (fun _ => ⟨(H.at 0 rfl), (H.at 3 rfl), (H.at 1 rfl), trivial⟩) (fun wx => ?_) ?_ ?_; rotate_left 2; (focus (go_simp; first | done | rfl)); (focus ((try simp only [Kr.PT]); first | done | rfl)))
          (refine Kr.tPQ 1 (v := .pointer (some ⟨bv, 7, none⟩)) (a' := ?_) rfl (by kernel_rfl) (fun _ _ _ h => h) (by rfl) (fun _ => ⟨(H.at 0 rfl), (H.at 3 rfl), (H.at 1 rfl), trivial⟩) (fun wx => ?_) ?_ ?_; rotate_left 1; (focus (exact Kr.valOf rfl (ixC7))); (focus ((try simp only [Kr.PT]); first | done | rfl)))
          (refine Kr.tSQ 2 [] (v := .int .u32 ((Z.h).toNat : Int)) (a' := ?_) rfl (by kernel_rfl) (fun _ _ _ h => h) (by rfl) ⟨(H.at 0 rfl), (H.at 3 rfl), (H.at 1 rfl), trivial⟩ (fun wx hSx => ?_) ?_ ?_; rotate_left 1; (focus (exact Kr.valOf rfl (ldE32 (rowCell hSx.1 hz7)))); (focus ((try simp only [Kr.PT]); first | done | rfl)))
          (refine Kr.tPQ 3 (v := ?_) (a' := ?_) rfl (by kernel_rfl) (fun _ _ _ h => h) (by rfl) (fun _ => ⟨(H.at 0 rfl), (H.at 3 rfl), (H.at 1 rfl), trivial⟩) (fun wx => ?_) ?_ ?_; rotate_left 2; (focus (go_simp; first | done | rfl)); (focus ((try simp only [Kr.PT]); first | done | rfl)))
          (refine Kr.tPQ 4 (v := .pointer (some ⟨bv, 4, none⟩)) (a' := ?_) rfl (by kernel_rfl) (fun _ _ _ h => h) (by rfl) (fun _ => ⟨(H.at 0 rfl), (H.at 3 rfl), (H.at 1 rfl), trivial⟩) (fun wx => ?_) ?_ ?_; rotate_left 1; (focus (exact Kr.valOf rfl (ixC4))); (focus ((try simp only [Kr.PT]); first | done | rfl)))
          (refine Kr.tSQ 5 [] (v := .int .u32 ((Z.e).toNat : Int)) (a' := ?_) rfl (by kernel_rfl) (fun _ _ _ h => h) (by rfl) ⟨(H.at 0 rfl), (H.at 3 rfl), (H.at 1 rfl), trivial⟩ (fun wx hSx => ?_) ?_ ?_; rotate_left 1; (focus (exact Kr.valOf rfl (ldE32 (rowCell hSx.1 hz4)))); (focus ((try simp only [Kr.PT]); first | done | rfl)))
          (refine Kr.tPQ 7 (v := ?_) (a' := ?_) rfl (by kernel_rfl) (fun _ _ _ h => h) (by rfl) (fun _ => ⟨(H.at 0 rfl), (H.at 3 rfl), (H.at 1 rfl), trivial⟩) (fun wx => ?_) ?_ ?_; rotate_left 2; (focus (go_simp; first | done | rfl)); (focus ((try simp only [Kr.PT]); first | done | rfl)))
          (refine Kr.tPQ 8 (v := .pointer (some ⟨bv, 4, none⟩)) (a' := ?_) rfl (by kernel_rfl) (fun _ _ _ h => h) (by rfl) (fun _ => ⟨(H.at 0 rfl), (H.at 3 rfl), (H.at 1 rfl), trivial⟩) (fun wx => ?_) ?_ ?_; rotate_left 1; (focus (exact Kr.valOf rfl (ixC4))); (focus ((try simp only [Kr.PT]); first | done | rfl)))
          (refine Kr.tSQ 9 [] (v := .int .u32 ((Z.e).toNat : Int)) (a' := ?_) rfl (by kernel_rfl) (fun _ _ _ h => h) (by rfl) ⟨(H.at 0 rfl), (H.at 3 rfl), (H.at 1 rfl), trivial⟩ (fun wx hSx => ?_) ?_ ?_; rotate_left 1; (focus (exact Kr.valOf rfl (ldE32 (rowCell hSx.1 hz4)))); (focus ((try simp only [Kr.PT]); first | done | rfl)))
          (refine Kr.tPQ 12 (v := ?_) (a' := ?_) rfl (by kernel_rfl) (fun _ _ _ h => h) (by rfl) (fun _ => ⟨(H.at 0 rfl), (H.at 3 rfl), (H.at 1 rfl), trivial⟩) (fun wx => ?_) ?_ ?_; rotate_left 2; (focus (go_simp; first | done | rfl)); (focus ((try simp only [Kr.PT]); first | done | rfl)))
          (refine Kr.tPQ 13 (v := .pointer (some ⟨bv, 4, none⟩)) (a' := ?_) rfl (by kernel_rfl) (fun _ _ _ h => h) (by rfl) (fun _ => ⟨(H.at 0 rfl), (H.at 3 rfl), (H.at 1 rfl), trivial⟩) (fun wx => ?_) ?_ ?_; rotate_left 1; (focus (exact Kr.valOf rfl (ixC4))); (focus ((try simp only [Kr.PT]); first | done | rfl)))
          (refine Kr.tSQ 14 [] (v := .int .u32 ((Z.e).toNat : Int)) (a' := ?_) rfl (by kernel_rfl) (fun _ _ _ h => h) (by rfl) ⟨(H.at 0 rfl), (H.at 3 rfl), (H.at 1 rfl), trivial⟩ (fun wx hSx => ?_) ?_ ?_; rotate_left 1; (focus (exact Kr.valOf rfl (ldE32 (rowCell hSx.1 hz4)))); (focus ((try simp only [Kr.PT]); first | done | rfl)))
          (refine Kr.tPQ 18 (v := ?_) (a' := ?_) rfl (by kernel_rfl) (fun _ _ _ h => h) (by rfl) (fun _ => ⟨(H.at 0 rfl), (H.at 3 rfl), (H.at 1 rfl), trivial⟩) (fun wx => ?_) ?_ ?_; rotate_left 2; (focus (go_simp; first | done | rfl)); (focus ((try simp only [Kr.PT]); first | done | rfl)))
          (refine Kr.tPQ 19 (v := .pointer (some ⟨bv, 4, none⟩)) (a' := ?_) rfl (by kernel_rfl) (fun _ _ _ h => h) (by rfl) (fun _ => ⟨(H.at 0 rfl), (H.at 3 rfl), (H.at 1 rfl), trivial⟩) (fun wx => ?_) ?_ ?_; rotate_left 1; (focus (exact Kr.valOf rfl (ixC4))); (focus ((try simp only [Kr.PT]); first | done | rfl)))
          (refine Kr.tSQ 20 [] (v := .int .u32 ((Z.e).toNat : Int)) (a' := ?_) rfl (by kernel_rfl) (fun _ _ _ h => h) (by rfl) ⟨(H.at 0 rfl), (H.at 3 rfl), (H.at 1 rfl), trivial⟩ (fun wx hSx => ?_) ?_ ?_; rotate_left 1; (focus (exact Kr.valOf rfl (ldE32 (rowCell hSx.1 hz4)))); (focus ((try simp only [Kr.PT]); first | done | rfl)))
          (refine Kr.tPQ 21 (v := ?_) (a' := ?_) rfl (by kernel_rfl) (fun _ _ _ h => h) (by rfl) (fun _ => ⟨(H.at 0 rfl), (H.at 3 rfl), (H.at 1 rfl), trivial⟩) (fun wx => ?_) ?_ ?_; rotate_left 2; (focus (go_simp; first | done | rfl)); (focus ((try simp only [Kr.PT]); first | done | rfl)))
          (refine Kr.tPQ 22 (v := .pointer (some ⟨bv, 5, none⟩)) (a' := ?_) rfl (by kernel_rfl) (fun _ _ _ h => h) (by rfl) (fun _ => ⟨(H.at 0 rfl), (H.at 3 rfl), (H.at 1 rfl), trivial⟩) (fun wx => ?_) ?_ ?_; rotate_left 1; (focus (exact Kr.valOf rfl (ixC5))); (focus ((try simp only [Kr.PT]); first | done | rfl)))
          (refine Kr.tSQ 23 [] (v := .int .u32 ((Z.f).toNat : Int)) (a' := ?_) rfl (by kernel_rfl) (fun _ _ _ h => h) (by rfl) ⟨(H.at 0 rfl), (H.at 3 rfl), (H.at 1 rfl), trivial⟩ (fun wx hSx => ?_) ?_ ?_; rotate_left 1; (focus (exact Kr.valOf rfl (ldE32 (rowCell hSx.1 hz5)))); (focus ((try simp only [Kr.PT]); first | done | rfl)))
          (refine Kr.tPQ 24 (v := .int .u32 ((m4).toNat : Int)) (a' := ?_) rfl (by kernel_rfl) (fun _ _ _ h => h) (by rfl) (fun _ => ⟨(H.at 0 rfl), (H.at 3 rfl), (H.at 1 rfl), trivial⟩) (fun wx => ?_) ?_ ?_; rotate_left 1; (focus (exact Kr.valOf rfl ((by rw [← hm4]; exact andW)))); (focus ((try simp only [Kr.PT]); first | done | rfl)))
          (refine Kr.tPQ 25 (v := ?_) (a' := ?_) rfl (by kernel_rfl) (fun _ _ _ h => h) (by rfl) (fun _ => ⟨(H.at 0 rfl), (H.at 3 rfl), (H.at 1 rfl), trivial⟩) (fun wx => ?_) ?_ ?_; rotate_left 2; (focus (go_simp; first | done | rfl)); (focus ((try simp only [Kr.PT]); first | done | rfl)))
          (refine Kr.tPQ 26 (v := .pointer (some ⟨bv, 4, none⟩)) (a' := ?_) rfl (by kernel_rfl) (fun _ _ _ h => h) (by rfl) (fun _ => ⟨(H.at 0 rfl), (H.at 3 rfl), (H.at 1 rfl), trivial⟩) (fun wx => ?_) ?_ ?_; rotate_left 1; (focus (exact Kr.valOf rfl (ixC4))); (focus ((try simp only [Kr.PT]); first | done | rfl)))
          (refine Kr.tSQ 27 [] (v := .int .u32 ((Z.e).toNat : Int)) (a' := ?_) rfl (by kernel_rfl) (fun _ _ _ h => h) (by rfl) ⟨(H.at 0 rfl), (H.at 3 rfl), (H.at 1 rfl), trivial⟩ (fun wx hSx => ?_) ?_ ?_; rotate_left 1; (focus (exact Kr.valOf rfl (ldE32 (rowCell hSx.1 hz4)))); (focus ((try simp only [Kr.PT]); first | done | rfl)))
          (refine Kr.tPQ 28 (v := .int .u32 ((m5).toNat : Int)) (a' := ?_) rfl (by kernel_rfl) (fun _ _ _ h => h) (by rfl) (fun _ => ⟨(H.at 0 rfl), (H.at 3 rfl), (H.at 1 rfl), trivial⟩) (fun wx => ?_) ?_ ?_; rotate_left 1; (focus (exact Kr.valOf rfl ((by rw [← hm5]; exact notW)))); (focus ((try simp only [Kr.PT]); first | done | rfl)))
          (refine Kr.tPQ 29 (v := ?_) (a' := ?_) rfl (by kernel_rfl) (fun _ _ _ h => h) (by rfl) (fun _ => ⟨(H.at 0 rfl), (H.at 3 rfl), (H.at 1 rfl), trivial⟩) (fun wx => ?_) ?_ ?_; rotate_left 2; (focus (go_simp; first | done | rfl)); (focus ((try simp only [Kr.PT]); first | done | rfl)))
          (refine Kr.tPQ 30 (v := .pointer (some ⟨bv, 6, none⟩)) (a' := ?_) rfl (by kernel_rfl) (fun _ _ _ h => h) (by rfl) (fun _ => ⟨(H.at 0 rfl), (H.at 3 rfl), (H.at 1 rfl), trivial⟩) (fun wx => ?_) ?_ ?_; rotate_left 1; (focus (exact Kr.valOf rfl (ixC6))); (focus ((try simp only [Kr.PT]); first | done | rfl)))
          (refine Kr.tSQ 31 [] (v := .int .u32 ((Z.g).toNat : Int)) (a' := ?_) rfl (by kernel_rfl) (fun _ _ _ h => h) (by rfl) ⟨(H.at 0 rfl), (H.at 3 rfl), (H.at 1 rfl), trivial⟩ (fun wx hSx => ?_) ?_ ?_; rotate_left 1; (focus (exact Kr.valOf rfl (ldE32 (rowCell hSx.1 hz6)))); (focus ((try simp only [Kr.PT]); first | done | rfl)))
          (refine Kr.tPQ 32 (v := .int .u32 ((m6).toNat : Int)) (a' := ?_) rfl (by kernel_rfl) (fun _ _ _ h => h) (by rfl) (fun _ => ⟨(H.at 0 rfl), (H.at 3 rfl), (H.at 1 rfl), trivial⟩) (fun wx => ?_) ?_ ?_; rotate_left 1; (focus (exact Kr.valOf rfl ((by rw [← hm6]; exact andW)))); (focus ((try simp only [Kr.PT]); first | done | rfl)))
          (refine Kr.tPQ 33 (v := .int .u32 ((m7).toNat : Int)) (a' := ?_) rfl (by kernel_rfl) (fun _ _ _ h => h) (by rfl) (fun _ => ⟨(H.at 0 rfl), (H.at 3 rfl), (H.at 1 rfl), trivial⟩) (fun wx => ?_) ?_ ?_; rotate_left 1; (focus (exact Kr.valOf rfl ((by rw [← hm7]; exact xorW)))); (focus ((try simp only [Kr.PT]); first | done | rfl)))
          (refine Kr.tPQ 35 (v := ?_) (a' := ?_) rfl (by kernel_rfl) (fun _ _ _ h => h) (by rfl) (fun _ => ⟨(H.at 0 rfl), (H.at 3 rfl), (H.at 1 rfl), trivial⟩) (fun wx => ?_) ?_ ?_; rotate_left 2; (focus (go_simp; first | done | rfl)); (focus ((try simp only [Kr.PT]); first | done | rfl)))
          (refine Kr.tPQ 36 (v := ?_) (a' := ?_) rfl (by kernel_rfl) (fun _ _ _ h => h) (by rfl) (fun _ => ⟨(H.at 0 rfl), (H.at 3 rfl), (H.at 1 rfl), trivial⟩) (fun wx => ?_) ?_ ?_; rotate_left 2; (focus (go_simp; first | done | rfl)); (focus ((try simp only [Kr.PT]); first | done | rfl)))
          (refine Kr.tPQ 37 (v := .pointer (some ⟨bk, t, none⟩)) (a' := ?_) rfl (by kernel_rfl) (fun _ _ _ h => h) (by rfl) (fun _ => ⟨(H.at 0 rfl), (H.at 3 rfl), (H.at 1 rfl), trivial⟩) (fun wx => ?_) ?_ ?_; rotate_left 1; (focus (exact Kr.valOf rfl (ixW0 htl))); (focus ((try simp only [Kr.PT]); first | done | rfl)))
          (refine Kr.tSQ 38 [] (v := .int .u32 ((k0).toNat : Int)) (a' := ?_) rfl (by kernel_rfl) (fun _ _ _ h => h) (by rfl) ⟨(H.at 0 rfl), (H.at 3 rfl), (H.at 1 rfl), trivial⟩ (fun wx hSx => ?_) ?_ ?_; rotate_left 1; (focus (exact Kr.valOf rfl (ldE32 (rowCell hSx.2.1 hgk)))); (focus ((try simp only [Kr.PT]); first | done | rfl)))
          (refine Kr.tPQ 40 (v := ?_) (a' := ?_) rfl (by kernel_rfl) (fun _ _ _ h => h) (by rfl) (fun _ => ⟨(H.at 0 rfl), (H.at 3 rfl), (H.at 1 rfl), trivial⟩) (fun wx => ?_) ?_ ?_; rotate_left 2; (focus (go_simp; first | done | rfl)); (focus ((try simp only [Kr.PT]); first | done | rfl)))
          (refine Kr.tPQ 41 (v := ?_) (a' := ?_) rfl (by kernel_rfl) (fun _ _ _ h => h) (by rfl) (fun _ => ⟨(H.at 0 rfl), (H.at 3 rfl), (H.at 1 rfl), trivial⟩) (fun wx => ?_) ?_ ?_; rotate_left 2; (focus (go_simp; first | done | rfl)); (focus ((try simp only [Kr.PT]); first | done | rfl)))
          (refine Kr.tPQ 42 (v := .pointer (some ⟨bw, t, none⟩)) (a' := ?_) rfl (by kernel_rfl) (fun _ _ _ h => h) (by rfl) (fun _ => ⟨(H.at 0 rfl), (H.at 3 rfl), (H.at 1 rfl), trivial⟩) (fun wx => ?_) ?_ ?_; rotate_left 1; (focus (exact Kr.valOf rfl (ixW0 htl))); (focus ((try simp only [Kr.PT]); first | done | rfl)))
          (refine Kr.tSQ 43 [] (v := .int .u32 ((w0).toNat : Int)) (a' := ?_) rfl (by kernel_rfl) (fun _ _ _ h => h) (by rfl) ⟨(H.at 0 rfl), (H.at 3 rfl), (H.at 1 rfl), trivial⟩ (fun wx hSx => ?_) ?_ ?_; rotate_left 1; (focus (exact Kr.valOf rfl (ldE32 (rowCell hSx.2.2.1 hgw)))); (focus ((try simp only [Kr.PT]); first | done | rfl)))
          refine Kr.readyL (rs := [6]) (by kernel_rfl) (by simp) ?_
          refine Kr.AllL.cons rfl (fun K hK => ?_) Kr.AllL.nil
          go_simp
          go_at_call 46
          have hP := right_v (x := Z.e) (n := 6) (w := d13) (by decide) (by decide)
          rw [hr6] at hP
          refine (hP).mono ?_
          rintro e y14 ⟨rfl, hg⟩
          replace H := H.grow hg
          clear hg
          clear hP
          (refine Kr.outL hK (a' := ?_) ?_ (fun _ => ⟨(H.at 0 rfl), (H.at 3 rfl), (H.at 1 rfl), trivial⟩) ?_; rotate_left; (focus ((try simp only [Kr.PT]); first | done | rfl))); clear hK K
          refine Kr.readyL (rs := [10]) (by kernel_rfl) (by simp) ?_
          refine Kr.AllL.cons rfl (fun K hK => ?_) Kr.AllL.nil
          go_simp
          go_at_call 46
          have hP := right_v (x := Z.e) (n := 11) (w := y14) (by decide) (by decide)
          rw [hr11] at hP
          refine (hP).mono ?_
          rintro e y15 ⟨rfl, hg⟩
          replace H := H.grow hg
          clear hg
          clear hP
          (refine Kr.outL hK (a' := ?_) ?_ (fun _ => ⟨(H.at 0 rfl), (H.at 3 rfl), (H.at 1 rfl), trivial⟩) ?_; rotate_left; (focus ((try simp only [Kr.PT]); first | done | rfl))); clear hK K
          (refine Kr.tPQ 11 (v := .int .u32 ((m1).toNat : Int)) (a' := ?_) rfl (by kernel_rfl) (fun _ _ _ h => h) (by rfl) (fun _ => ⟨(H.at 0 rfl), (H.at 3 rfl), (H.at 1 rfl), trivial⟩) (fun wx => ?_) ?_ ?_; rotate_left 1; (focus (exact Kr.valOf rfl ((by rw [← hm1]; exact xorW)))); (focus ((try simp only [Kr.PT]); first | done | rfl)))
          refine Kr.readyL (rs := [15]) (by kernel_rfl) (by simp) ?_
          refine Kr.AllL.cons rfl (fun K hK => ?_) Kr.AllL.nil
          go_simp
          go_at_call 46
          have hP := right_v (x := Z.e) (n := 25) (w := y15) (by decide) (by decide)
          rw [hr25] at hP
          refine (hP).mono ?_
          rintro e y16 ⟨rfl, hg⟩
          replace H := H.grow hg
          clear hg
          clear hP
          (refine Kr.outL hK (a' := ?_) ?_ (fun _ => ⟨(H.at 0 rfl), (H.at 3 rfl), (H.at 1 rfl), trivial⟩) ?_; rotate_left; (focus ((try simp only [Kr.PT]); first | done | rfl))); clear hK K
          (refine Kr.tPQ 16 (v := .int .u32 ((m2).toNat : Int)) (a' := ?_) rfl (by kernel_rfl) (fun _ _ _ h => h) (by rfl) (fun _ => ⟨(H.at 0 rfl), (H.at 3 rfl), (H.at 1 rfl), trivial⟩) (fun wx => ?_) ?_ ?_; rotate_left 1; (focus (exact Kr.valOf rfl ((by rw [← hm2]; exact xorW)))); (focus ((try simp only [Kr.PT]); first | done | rfl)))
          (refine Kr.tPQ 17 (v := .int .u32 ((m3).toNat : Int)) (a' := ?_) rfl (by kernel_rfl) (fun _ _ _ h => h) (by rfl) (fun _ => ⟨(H.at 0 rfl), (H.at 3 rfl), (H.at 1 rfl), trivial⟩) (fun wx => ?_) ?_ ?_; rotate_left 1; (focus (exact Kr.valOf rfl ((by rw [← hm3]; exact addW)))); (focus ((try simp only [Kr.PT]); first | done | rfl)))
          (refine Kr.tPQ 34 (v := .int .u32 ((m8).toNat : Int)) (a' := ?_) rfl (by kernel_rfl) (fun _ _ _ h => h) (by rfl) (fun _ => ⟨(H.at 0 rfl), (H.at 3 rfl), (H.at 1 rfl), trivial⟩) (fun wx => ?_) ?_ ?_; rotate_left 1; (focus (exact Kr.valOf rfl ((by rw [← hm8]; exact addW)))); (focus ((try simp only [Kr.PT]); first | done | rfl)))
          (refine Kr.tPQ 39 (v := .int .u32 ((m9).toNat : Int)) (a' := ?_) rfl (by kernel_rfl) (fun _ _ _ h => h) (by rfl) (fun _ => ⟨(H.at 0 rfl), (H.at 3 rfl), (H.at 1 rfl), trivial⟩) (fun wx => ?_) ?_ ?_; rotate_left 1; (focus (exact Kr.valOf rfl ((by rw [← hm9]; exact addW)))); (focus ((try simp only [Kr.PT]); first | done | rfl)))
          (refine Kr.tPQ 44 (v := .int .u32 ((x1).toNat : Int)) (a' := ?_) rfl (by kernel_rfl) (fun _ _ _ h => h) (by rfl) (fun _ => ⟨(H.at 0 rfl), (H.at 3 rfl), (H.at 1 rfl), trivial⟩) (fun wx => ?_) ?_ ?_; rotate_left 1; (focus (exact Kr.valOf rfl ((by rw [← hx1]; exact addW)))); (focus ((try simp only [Kr.PT]); first | done | rfl)))
          (refine Kr.tPQ 45 (v := ?_) (a' := ?_) rfl (by kernel_rfl) (fun _ _ _ h => h) (by rfl) (fun _ => ⟨(H.at 0 rfl), (H.at 3 rfl), (H.at 1 rfl), trivial⟩) (fun wx => ?_) ?_ ?_; rotate_left 2; (focus (go_simp; first | done | rfl)); (focus ((try simp only [Kr.PT]); first | done | rfl)))
          refine Kr.doneL (by kernel_rfl) ?_ _
          obtain ⟨r2, hr2⟩ : ∃ z, rr Z.a 2 = z := ⟨_, rfl⟩
          obtain ⟨r13, hr13⟩ : ∃ z, rr Z.a 13 = z := ⟨_, rfl⟩
          obtain ⟨r22, hr22⟩ : ∃ z, rr Z.a 22 = z := ⟨_, rfl⟩
          obtain ⟨n1, hn1⟩ : ∃ z, r2 ^^^ r13 = z := ⟨_, rfl⟩
          obtain ⟨n2, hn2⟩ : ∃ z, n1 ^^^ r22 = z := ⟨_, rfl⟩
          obtain ⟨n3, hn3⟩ : ∃ z, Z.a &&& Z.b = z := ⟨_, rfl⟩
          obtain ⟨n4, hn4⟩ : ∃ z, Z.a &&& Z.c = z := ⟨_, rfl⟩
          obtain ⟨n5, hn5⟩ : ∃ z, n3 ^^^ n4 = z := ⟨_, rfl⟩
          obtain ⟨n6, hn6⟩ : ∃ z, Z.b &&& Z.c = z := ⟨_, rfl⟩
          obtain ⟨n7, hn7⟩ : ∃ z, n5 ^^^ n6 = z := ⟨_, rfl⟩
          obtain ⟨y1, hy1⟩ : ∃ z, n2 + n7 = z := ⟨_, rfl⟩
          have hT2 : T2 Z = y1 := by unfold T2; rw [hr2, hr13, hr22, hn1, hn2, hn3, hn4, hn5, hn6, hn7, hy1]
          go_upto_region 13 with fail
          refine Kr.startL (fun W' => (W'.heap[bv]? = some (.cells (curv).toArray 38 (0, 0))) ∧ True) [] (by kernel_rfl) ?_
          have gd : Gr y16 y16.drew := (Gr.refl _).drew
          generalize y16.drew = d17 at gd ⊢
          replace H := H.grow gd
          clear gd
          (refine Kr.tPQ 0 (v := ?_) (a' := ?_) rfl (by kernel_rfl) (fun _ _ _ h => h) (by rfl) (fun _ => ⟨(H.at 0 rfl), trivial⟩) (fun wx => ?_) ?_ ?_; rotate_left 2; (focus (go_simp; first | done | rfl)); (focus ((try simp only [Kr.PT]); first | done | rfl)))
          (refine Kr.tPQ 1 (v := .pointer (some ⟨bv, 0, none⟩)) (a' := ?_) rfl (by kernel_rfl) (fun _ _ _ h => h) (by rfl) (fun _ => ⟨(H.at 0 rfl), trivial⟩) (fun wx => ?_) ?_ ?_; rotate_left 1; (focus (exact Kr.valOf rfl (ixC0))); (focus ((try simp only [Kr.PT]); first | done | rfl)))
          (refine Kr.tSQ 2 [] (v := .int .u32 ((Z.a).toNat : Int)) (a' := ?_) rfl (by kernel_rfl) (fun _ _ _ h => h) (by rfl) ⟨(H.at 0 rfl), trivial⟩ (fun wx hSx => ?_) ?_ ?_; rotate_left 1; (focus (exact Kr.valOf rfl (ldE32 (rowCell hSx.1 hz0)))); (focus ((try simp only [Kr.PT]); first | done | rfl)))
          (refine Kr.tPQ 4 (v := ?_) (a' := ?_) rfl (by kernel_rfl) (fun _ _ _ h => h) (by rfl) (fun _ => ⟨(H.at 0 rfl), trivial⟩) (fun wx => ?_) ?_ ?_; rotate_left 2; (focus (go_simp; first | done | rfl)); (focus ((try simp only [Kr.PT]); first | done | rfl)))
          (refine Kr.tPQ 5 (v := .pointer (some ⟨bv, 0, none⟩)) (a' := ?_) rfl (by kernel_rfl) (fun _ _ _ h => h) (by rfl) (fun _ => ⟨(H.at 0 rfl), trivial⟩) (fun wx => ?_) ?_ ?_; rotate_left 1; (focus (exact Kr.valOf rfl (ixC0))); (focus ((try simp only [Kr.PT]); first | done | rfl)))
          (refine Kr.tSQ 6 [] (v := .int .u32 ((Z.a).toNat : Int)) (a' := ?_) rfl (by kernel_rfl) (fun _ _ _ h => h) (by rfl) ⟨(H.at 0 rfl), trivial⟩ (fun wx hSx => ?_) ?_ ?_; rotate_left 1; (focus (exact Kr.valOf rfl (ldE32 (rowCell hSx.1 hz0)))); (focus ((try simp only [Kr.PT]); first | done | rfl)))
          (refine Kr.tPQ 9 (v := ?_) (a' := ?_) rfl (by kernel_rfl) (fun _ _ _ h => h) (by rfl) (fun _ => ⟨(H.at 0 rfl), trivial⟩) (fun wx => ?_) ?_ ?_; rotate_left 2; (focus (go_simp; first | done | rfl)); (focus ((try simp only [Kr.PT]); first | done | rfl)))
          (refine Kr.tPQ 10 (v := .pointer (some ⟨bv, 0, none⟩)) (a' := ?_) rfl (by kernel_rfl) (fun _ _ _ h => h) (by rfl) (fun _ => ⟨(H.at 0 rfl), trivial⟩) (fun wx => ?_) ?_ ?_; rotate_left 1; (focus (exact Kr.valOf rfl (ixC0))); (focus ((try simp only [Kr.PT]); first | done | rfl)))
          (refine Kr.tSQ 11 [] (v := .int .u32 ((Z.a).toNat : Int)) (a' := ?_) rfl (by kernel_rfl) (fun _ _ _ h => h) (by rfl) ⟨(H.at 0 rfl), trivial⟩ (fun wx hSx => ?_) ?_ ?_; rotate_left 1; (focus (exact Kr.valOf rfl (ldE32 (rowCell hSx.1 hz0)))); (focus ((try simp only [Kr.PT]); first | done | rfl)))
          (refine Kr.tPQ 14 (v := ?_) (a' := ?_) rfl (by kernel_rfl) (fun _ _ _ h => h) (by rfl) (fun _ => ⟨(H.at 0 rfl), trivial⟩) (fun wx => ?_) ?_ ?_; rotate_left 2; (focus (go_simp; first | done | rfl)); (focus ((try simp only [Kr.PT]); first | done | rfl)))
          (refine Kr.tPQ 15 (v := .pointer (some ⟨bv, 0, none⟩)) (a' := ?_) rfl (by kernel_rfl) (fun _ _ _ h => h) (by rfl) (fun _ => ⟨(H.at 0 rfl), trivial⟩) (fun wx => ?_) ?_ ?_; rotate_left 1; (focus (exact Kr.valOf rfl (ixC0))); (focus ((try simp only [Kr.PT]); first | done | rfl)))
          (refine Kr.tSQ 16 [] (v := .int .u32 ((Z.a).toNat : Int)) (a' := ?_) rfl (by kernel_rfl) (fun _ _ _ h => h) (by rfl) ⟨(H.at 0 rfl), trivial⟩ (fun wx hSx => ?_) ?_ ?_; rotate_left 1; (focus (exact Kr.valOf rfl (ldE32 (rowCell hSx.1 hz0)))); (focus ((try simp only [Kr.PT]); first | done | rfl)))
          (refine Kr.tPQ 17 (v := ?_) (a' := ?_) rfl (by kernel_rfl) (fun _ _ _ h => h) (by rfl) (fun _ => ⟨(H.at 0 rfl), trivial⟩) (fun wx => ?_) ?_ ?_; rotate_left 2; (focus (go_simp; first | done | rfl)); (focus ((try simp only [Kr.PT]); first | done | rfl)))
          (refine Kr.tPQ 18 (v := .pointer (some ⟨bv, 1, none⟩)) (a' := ?_) rfl (by kernel_rfl) (fun _ _ _ h => h) (by rfl) (fun _ => ⟨(H.at 0 rfl), trivial⟩) (fun wx => ?_) ?_ ?_; rotate_left 1; (focus (exact Kr.valOf rfl (ixC1))); (focus ((try simp only [Kr.PT]); first | done | rfl)))
          (refine Kr.tSQ 19 [] (v := .int .u32 ((Z.b).toNat : Int)) (a' := ?_) rfl (by kernel_rfl) (fun _ _ _ h => h) (by rfl) ⟨(H.at 0 rfl), trivial⟩ (fun wx hSx => ?_) ?_ ?_; rotate_left 1; (focus (exact Kr.valOf rfl (ldE32 (rowCell hSx.1 hz1)))); (focus ((try simp only [Kr.PT]); first | done | rfl)))
          (refine Kr.tPQ 20 (v := .int .u32 ((n3).toNat : Int)) (a' := ?_) rfl (by kernel_rfl) (fun _ _ _ h => h) (by rfl) (fun _ => ⟨(H.at 0 rfl), trivial⟩) (fun wx => ?_) ?_ ?_; rotate_left 1; (focus (exact Kr.valOf rfl ((by rw [← hn3]; exact andW)))); (focus ((try simp only [Kr.PT]); first | done | rfl)))
          (refine Kr.tPQ 21 (v := ?_) (a' := ?_) rfl (by kernel_rfl) (fun _ _ _ h => h) (by rfl) (fun _ => ⟨(H.at 0 rfl), trivial⟩) (fun wx => ?_) ?_ ?_; rotate_left 2; (focus (go_simp; first | done | rfl)); (focus ((try simp only [Kr.PT]); first | done | rfl)))
          (refine Kr.tPQ 22 (v := .pointer (some ⟨bv, 0, none⟩)) (a' := ?_) rfl (by kernel_rfl) (fun _ _ _ h => h) (by rfl) (fun _ => ⟨(H.at 0 rfl), trivial⟩) (fun wx => ?_) ?_ ?_; rotate_left 1; (focus (exact Kr.valOf rfl (ixC0))); (focus ((try simp only [Kr.PT]); first | done | rfl)))
          (refine Kr.tSQ 23 [] (v := .int .u32 ((Z.a).toNat : Int)) (a' := ?_) rfl (by kernel_rfl) (fun _ _ _ h => h) (by rfl) ⟨(H.at 0 rfl), trivial⟩ (fun wx hSx => ?_) ?_ ?_; rotate_left 1; (focus (exact Kr.valOf rfl (ldE32 (rowCell hSx.1 hz0)))); (focus ((try simp only [Kr.PT]); first | done | rfl)))
          (refine Kr.tPQ 24 (v := ?_) (a' := ?_) rfl (by kernel_rfl) (fun _ _ _ h => h) (by rfl) (fun _ => ⟨(H.at 0 rfl), trivial⟩) (fun wx => ?_) ?_ ?_; rotate_left 2; (focus (go_simp; first | done | rfl)); (focus ((try simp only [Kr.PT]); first | done | rfl)))
          (refine Kr.tPQ 25 (v := .pointer (some ⟨bv, 2, none⟩)) (a' := ?_) rfl (by kernel_rfl) (fun _ _ _ h => h) (by rfl) (fun _ => ⟨(H.at 0 rfl), trivial⟩) (fun wx => ?_) ?_ ?_; rotate_left 1; (focus (exact Kr.valOf rfl (ixC2))); (focus ((try simp only [Kr.PT]); first | done | rfl)))
          (refine Kr.tSQ 26 [] (v := .int .u32 ((Z.c).toNat : Int)) (a' := ?_) rfl (by kernel_rfl) (fun _ _ _ h => h) (by rfl) ⟨(H.at 0 rfl), trivial⟩ (fun wx hSx => ?_) ?_ ?_; rotate_left 1; (focus (exact Kr.valOf rfl (ldE32 (rowCell hSx.1 hz2)))); (focus ((try simp only [Kr.PT]); first | done | rfl)))
          (refine Kr.tPQ 27 (v := .int .u32 ((n4).toNat : Int)) (a' := ?_) rfl (by kernel_rfl) (fun _ _ _ h => h) (by rfl) (fun _ => ⟨(H.at 0 rfl), trivial⟩) (fun wx => ?_) ?_ ?_; rotate_left 1; (focus (exact Kr.valOf rfl ((by rw [← hn4]; exact andW)))); (focus ((try simp only [Kr.PT]); first | done | rfl)))
          (refine Kr.tPQ 28 (v := .int .u32 ((n5).toNat : Int)) (a' := ?_) rfl (by kernel_rfl) (fun _ _ _ h => h) (by rfl) (fun _ => ⟨(H.at 0 rfl), trivial⟩) (fun wx => ?_) ?_ ?_; rotate_left 1; (focus (exact Kr.valOf rfl ((by rw [← hn5]; exact xorW)))); (focus ((try simp only [Kr.PT]); first | done | rfl)))
          (refine Kr.tPQ 29 (v := ?_) (a' := ?_) rfl (by kernel_rfl) (fun _ _ _ h => h) (by rfl) (fun _ => ⟨(H.at 0 rfl), trivial⟩) (fun wx => ?_) ?_ ?_; rotate_left 2; (focus (go_simp; first | done | rfl)); (focus ((try simp only [Kr.PT]); first | done | rfl)))
          (refine Kr.tPQ 30 (v := .pointer (some ⟨bv, 1, none⟩)) (a' := ?_) rfl (by kernel_rfl) (fun _ _ _ h => h) (by rfl) (fun _ => ⟨(H.at 0 rfl), trivial⟩) (fun wx => ?_) ?_ ?_; rotate_left 1; (focus (exact Kr.valOf rfl (ixC1))); (focus ((try simp only [Kr.PT]); first | done | rfl)))
          (refine Kr.tSQ 31 [] (v := .int .u32 ((Z.b).toNat : Int)) (a' := ?_) rfl (by kernel_rfl) (fun _ _ _ h => h) (by rfl) ⟨(H.at 0 rfl), trivial⟩ (fun wx hSx => ?_) ?_ ?_; rotate_left 1; (focus (exact Kr.valOf rfl (ldE32 (rowCell hSx.1 hz1)))); (focus ((try simp only [Kr.PT]); first | done | rfl)))
          (refine Kr.tPQ 32 (v := ?_) (a' := ?_) rfl (by kernel_rfl) (fun _ _ _ h => h) (by rfl) (fun _ => ⟨(H.at 0 rfl), trivial⟩) (fun wx => ?_) ?_ ?_; rotate_left 2; (focus (go_simp; first | done | rfl)); (focus ((try simp only [Kr.PT]); first | done | rfl)))
          (refine Kr.tPQ 33 (v := .pointer (some ⟨bv, 2, none⟩)) (a' := ?_) rfl (by kernel_rfl) (fun _ _ _ h => h) (by rfl) (fun _ => ⟨(H.at 0 rfl), trivial⟩) (fun wx => ?_) ?_ ?_; rotate_left 1; (focus (exact Kr.valOf rfl (ixC2))); (focus ((try simp only [Kr.PT]); first | done | rfl)))
          (refine Kr.tSQ 34 [] (v := .int .u32 ((Z.c).toNat : Int)) (a' := ?_) rfl (by kernel_rfl) (fun _ _ _ h => h) (by rfl) ⟨(H.at 0 rfl), trivial⟩ (fun wx hSx => ?_) ?_ ?_; rotate_left 1; (focus (exact Kr.valOf rfl (ldE32 (rowCell hSx.1 hz2)))); (focus ((try simp only [Kr.PT]); first | done | rfl)))
          (refine Kr.tPQ 35 (v := .int .u32 ((n6).toNat : Int)) (a' := ?_) rfl (by kernel_rfl) (fun _ _ _ h => h) (by rfl) (fun _ => ⟨(H.at 0 rfl), trivial⟩) (fun wx => ?_) ?_ ?_; rotate_left 1; (focus (exact Kr.valOf rfl ((by rw [← hn6]; exact andW)))); (focus ((try simp only [Kr.PT]); first | done | rfl)))
          (refine Kr.tPQ 36 (v := .int .u32 ((n7).toNat : Int)) (a' := ?_) rfl (by kernel_rfl) (fun _ _ _ h => h) (by rfl) (fun _ => ⟨(H.at 0 rfl), trivial⟩) (fun wx => ?_) ?_ ?_; rotate_left 1; (focus (exact Kr.valOf rfl ((by rw [← hn7]; exact xorW)))); (focus ((try simp only [Kr.PT]); first | done | rfl)))
          refine Kr.readyL (rs := [3]) (by kernel_rfl) (by simp) ?_
          refine Kr.AllL.cons rfl (fun K hK => ?_) Kr.AllL.nil
          go_simp
          go_at_call 46
          have hP := right_v (x := Z.a) (n := 2) (w := d17) (by decide) (by decide)
          rw [hr2] at hP
          refine (hP).mono ?_
          rintro e y18 ⟨rfl, hg⟩
          replace H := H.grow hg
          clear hg
          clear hP
          (refine Kr.outL hK (a' := ?_) ?_ (fun _ => ⟨(H.at 0 rfl), trivial⟩) ?_; rotate_left; (focus ((try simp only [Kr.PT]); first | done | rfl))); clear hK K
          refine Kr.readyL (rs := [7]) (by kernel_rfl) (by simp) ?_
          refine Kr.AllL.cons rfl (fun K hK => ?_) Kr.AllL.nil
          go_simp
          go_at_call 46
          have hP := right_v (x := Z.a) (n := 13) (w := y18) (by decide) (by decide)
          rw [hr13] at hP
          refine (hP).mono ?_
          rintro e y19 ⟨rfl, hg⟩
          replace H := H.grow hg
          clear hg
          clear hP
          (refine Kr.outL hK (a' := ?_) ?_ (fun _ => ⟨(H.at 0 rfl), trivial⟩) ?_; rotate_left; (focus ((try simp only [Kr.PT]); first | done | rfl))); clear hK K
          (refine Kr.tPQ 8 (v := .int .u32 ((n1).toNat : Int)) (a' := ?_) rfl (by kernel_rfl) (fun _ _ _ h => h) (by rfl) (fun _ => ⟨(H.at 0 rfl), trivial⟩) (fun wx => ?_) ?_ ?_; rotate_left 1; (focus (exact Kr.valOf rfl ((by rw [← hn1]; exact xorW)))); (focus ((try simp only [Kr.PT]); first | done | rfl)))
          refine Kr.readyL (rs := [12]) (by kernel_rfl) (by simp) ?_
          refine Kr.AllL.cons rfl (fun K hK => ?_) Kr.AllL.nil
          go_simp
          go_at_call 46
          have hP := right_v (x := Z.a) (n := 22) (w := y19) (by decide) (by decide)
          rw [hr22] at hP
          refine (hP).mono ?_
          rintro e y20 ⟨rfl, hg⟩
          replace H := H.grow hg
          clear hg
          clear hP
          (refine Kr.outL hK (a' := ?_) ?_ (fun _ => ⟨(H.at 0 rfl), trivial⟩) ?_; rotate_left; (focus ((try simp only [Kr.PT]); first | done | rfl))); clear hK K
          (refine Kr.tPQ 13 (v := .int .u32 ((n2).toNat : Int)) (a' := ?_) rfl (by kernel_rfl) (fun _ _ _ h => h) (by rfl) (fun _ => ⟨(H.at 0 rfl), trivial⟩) (fun wx => ?_) ?_ ?_; rotate_left 1; (focus (exact Kr.valOf rfl ((by rw [← hn2]; exact xorW)))); (focus ((try simp only [Kr.PT]); first | done | rfl)))
          (refine Kr.tPQ 37 (v := .int .u32 ((y1).toNat : Int)) (a' := ?_) rfl (by kernel_rfl) (fun _ _ _ h => h) (by rfl) (fun _ => ⟨(H.at 0 rfl), trivial⟩) (fun wx => ?_) ?_ ?_; rotate_left 1; (focus (exact Kr.valOf rfl ((by rw [← hy1]; exact addW)))); (focus ((try simp only [Kr.PT]); first | done | rfl)))
          (refine Kr.tPQ 38 (v := ?_) (a' := ?_) rfl (by kernel_rfl) (fun _ _ _ h => h) (by rfl) (fun _ => ⟨(H.at 0 rfl), trivial⟩) (fun wx => ?_) ?_ ?_; rotate_left 2; (focus (go_simp; first | done | rfl)); (focus ((try simp only [Kr.PT]); first | done | rfl)))
          refine Kr.doneL (by kernel_rfl) ?_ _
          obtain ⟨u0, hu0⟩ : ∃ z, x1 + y1 = z := ⟨_, rfl⟩
          obtain ⟨u4, hu4⟩ : ∃ z, Z.d + x1 = z := ⟨_, rfl⟩
          have hrn : rnd Z k0 w0 = ⟨u0, Z.a, Z.b, Z.c, u4, Z.e, Z.f, Z.g⟩ := rnd_list hT1 hT2 hu0 hu4
          go_upto_region 14 with fail
          refine Kr.startL (fun W' => (W'.heap[bv]? = some (.cells (curv).toArray 38 (0, 0))) ∧ True) [] (by kernel_rfl) ?_
          have gd : Gr y20 y20.drew := (Gr.refl _).drew
          generalize y20.drew = d21 at gd ⊢
          replace H := H.grow gd
          clear gd
          (refine Kr.tPQ 0 (v := ?_) (a' := ?_) rfl (by kernel_rfl) (fun _ _ _ h => h) (by rfl) (fun _ => ⟨(H.at 0 rfl), trivial⟩) (fun wx => ?_) ?_ ?_; rotate_left 2; (focus (go_simp; first | done | rfl)); (focus ((try simp only [Kr.PT]); first | done | rfl)))
          (refine Kr.tPQ 1 (v := ?_) (a' := ?_) rfl (by kernel_rfl) (fun _ _ _ h => h) (by rfl) (fun _ => ⟨(H.at 0 rfl), trivial⟩) (fun wx => ?_) ?_ ?_; rotate_left 2; (focus (go_simp; first | done | rfl)); (focus ((try simp only [Kr.PT]); first | done | rfl)))
          (refine Kr.tPQ 2 (v := .int .u32 ((u0).toNat : Int)) (a' := ?_) rfl (by kernel_rfl) (fun _ _ _ h => h) (by rfl) (fun _ => ⟨(H.at 0 rfl), trivial⟩) (fun wx => ?_) ?_ ?_; rotate_left 1; (focus (exact Kr.valOf rfl ((by rw [← hu0]; exact addW)))); (focus ((try simp only [Kr.PT]); first | done | rfl)))
          (refine Kr.tPQ 3 (v := ?_) (a' := ?_) rfl (by kernel_rfl) (fun _ _ _ h => h) (by rfl) (fun _ => ⟨(H.at 0 rfl), trivial⟩) (fun wx => ?_) ?_ ?_; rotate_left 2; (focus (go_simp; first | done | rfl)); (focus ((try simp only [Kr.PT]); first | done | rfl)))
          (refine Kr.tPQ 4 (v := .pointer (some ⟨bv, 0, none⟩)) (a' := ?_) rfl (by kernel_rfl) (fun _ _ _ h => h) (by rfl) (fun _ => ⟨(H.at 0 rfl), trivial⟩) (fun wx => ?_) ?_ ?_; rotate_left 1; (focus (exact Kr.valOf rfl (ixC0))); (focus ((try simp only [Kr.PT]); first | done | rfl)))
          (refine Kr.tSQ 5 [] (v := .int .u32 ((Z.a).toNat : Int)) (a' := ?_) rfl (by kernel_rfl) (fun _ _ _ h => h) (by rfl) ⟨(H.at 0 rfl), trivial⟩ (fun wx hSx => ?_) ?_ ?_; rotate_left 1; (focus (exact Kr.valOf rfl (ldE32 (rowCell hSx.1 hz0)))); (focus ((try simp only [Kr.PT]); first | done | rfl)))
          (refine Kr.tPQ 6 (v := ?_) (a' := ?_) rfl (by kernel_rfl) (fun _ _ _ h => h) (by rfl) (fun _ => ⟨(H.at 0 rfl), trivial⟩) (fun wx => ?_) ?_ ?_; rotate_left 2; (focus (go_simp; first | done | rfl)); (focus ((try simp only [Kr.PT]); first | done | rfl)))
          (refine Kr.tPQ 7 (v := .pointer (some ⟨bv, 1, none⟩)) (a' := ?_) rfl (by kernel_rfl) (fun _ _ _ h => h) (by rfl) (fun _ => ⟨(H.at 0 rfl), trivial⟩) (fun wx => ?_) ?_ ?_; rotate_left 1; (focus (exact Kr.valOf rfl (ixC1))); (focus ((try simp only [Kr.PT]); first | done | rfl)))
          (refine Kr.tSQ 8 [] (v := .int .u32 ((Z.b).toNat : Int)) (a' := ?_) rfl (by kernel_rfl) (fun _ _ _ h => h) (by rfl) ⟨(H.at 0 rfl), trivial⟩ (fun wx hSx => ?_) ?_ ?_; rotate_left 1; (focus (exact Kr.valOf rfl (ldE32 (rowCell hSx.1 hz1)))); (focus ((try simp only [Kr.PT]); first | done | rfl)))
          (refine Kr.tPQ 9 (v := ?_) (a' := ?_) rfl (by kernel_rfl) (fun _ _ _ h => h) (by rfl) (fun _ => ⟨(H.at 0 rfl), trivial⟩) (fun wx => ?_) ?_ ?_; rotate_left 2; (focus (go_simp; first | done | rfl)); (focus ((try simp only [Kr.PT]); first | done | rfl)))
          (refine Kr.tPQ 10 (v := .pointer (some ⟨bv, 2, none⟩)) (a' := ?_) rfl (by kernel_rfl) (fun _ _ _ h => h) (by rfl) (fun _ => ⟨(H.at 0 rfl), trivial⟩) (fun wx => ?_) ?_ ?_; rotate_left 1; (focus (exact Kr.valOf rfl (ixC2))); (focus ((try simp only [Kr.PT]); first | done | rfl)))
          (refine Kr.tSQ 11 [] (v := .int .u32 ((Z.c).toNat : Int)) (a' := ?_) rfl (by kernel_rfl) (fun _ _ _ h => h) (by rfl) ⟨(H.at 0 rfl), trivial⟩ (fun wx hSx => ?_) ?_ ?_; rotate_left 1; (focus (exact Kr.valOf rfl (ldE32 (rowCell hSx.1 hz2)))); (focus ((try simp only [Kr.PT]); first | done | rfl)))
          (refine Kr.tPQ 12 (v := ?_) (a' := ?_) rfl (by kernel_rfl) (fun _ _ _ h => h) (by rfl) (fun _ => ⟨(H.at 0 rfl), trivial⟩) (fun wx => ?_) ?_ ?_; rotate_left 2; (focus (go_simp; first | done | rfl)); (focus ((try simp only [Kr.PT]); first | done | rfl)))
          (refine Kr.tPQ 13 (v := .pointer (some ⟨bv, 3, none⟩)) (a' := ?_) rfl (by kernel_rfl) (fun _ _ _ h => h) (by rfl) (fun _ => ⟨(H.at 0 rfl), trivial⟩) (fun wx => ?_) ?_ ?_; rotate_left 1; (focus (exact Kr.valOf rfl (ixC3))); (focus ((try simp only [Kr.PT]); first | done | rfl)))
          (refine Kr.tSQ 14 [] (v := .int .u32 ((Z.d).toNat : Int)) (a' := ?_) rfl (by kernel_rfl) (fun _ _ _ h => h) (by rfl) ⟨(H.at 0 rfl), trivial⟩ (fun wx hSx => ?_) ?_ ?_; rotate_left 1; (focus (exact Kr.valOf rfl (ldE32 (rowCell hSx.1 hz3)))); (focus ((try simp only [Kr.PT]); first | done | rfl)))
          (refine Kr.tPQ 15 (v := ?_) (a' := ?_) rfl (by kernel_rfl) (fun _ _ _ h => h) (by rfl) (fun _ => ⟨(H.at 0 rfl), trivial⟩) (fun wx => ?_) ?_ ?_; rotate_left 2; (focus (go_simp; first | done | rfl)); (focus ((try simp only [Kr.PT]); first | done | rfl)))
          (refine Kr.tPQ 16 (v := .int .u32 ((u4).toNat : Int)) (a' := ?_) rfl (by kernel_rfl) (fun _ _ _ h => h) (by rfl) (fun _ => ⟨(H.at 0 rfl), trivial⟩) (fun wx => ?_) ?_ ?_; rotate_left 1; (focus (exact Kr.valOf rfl ((by rw [← hu4]; exact addW)))); (focus ((try simp only [Kr.PT]); first | done | rfl)))
          (refine Kr.tPQ 17 (v := ?_) (a' := ?_) rfl (by kernel_rfl) (fun _ _ _ h => h) (by rfl) (fun _ => ⟨(H.at 0 rfl), trivial⟩) (fun wx => ?_) ?_ ?_; rotate_left 2; (focus (go_simp; first | done | rfl)); (focus ((try simp only [Kr.PT]); first | done | rfl)))
          (refine Kr.tPQ 18 (v := .pointer (some ⟨bv, 4, none⟩)) (a' := ?_) rfl (by kernel_rfl) (fun _ _ _ h => h) (by rfl) (fun _ => ⟨(H.at 0 rfl), trivial⟩) (fun wx => ?_) ?_ ?_; rotate_left 1; (focus (exact Kr.valOf rfl (ixC4))); (focus ((try simp only [Kr.PT]); first | done | rfl)))
          (refine Kr.tSQ 19 [] (v := .int .u32 ((Z.e).toNat : Int)) (a' := ?_) rfl (by kernel_rfl) (fun _ _ _ h => h) (by rfl) ⟨(H.at 0 rfl), trivial⟩ (fun wx hSx => ?_) ?_ ?_; rotate_left 1; (focus (exact Kr.valOf rfl (ldE32 (rowCell hSx.1 hz4)))); (focus ((try simp only [Kr.PT]); first | done | rfl)))
          (refine Kr.tPQ 20 (v := ?_) (a' := ?_) rfl (by kernel_rfl) (fun _ _ _ h => h) (by rfl) (fun _ => ⟨(H.at 0 rfl), trivial⟩) (fun wx => ?_) ?_ ?_; rotate_left 2; (focus (go_simp; first | done | rfl)); (focus ((try simp only [Kr.PT]); first | done | rfl)))
          (refine Kr.tPQ 21 (v := .pointer (some ⟨bv, 5, none⟩)) (a' := ?_) rfl (by kernel_rfl) (fun _ _ _ h => h) (by rfl) (fun _ => ⟨(H.at 0 rfl), trivial⟩) (fun wx => ?_) ?_ ?_; rotate_left 1; (focus (exact Kr.valOf rfl (ixC5))); (focus ((try simp only [Kr.PT]); first | done | rfl)))
          (refine Kr.tSQ 22 [] (v := .int .u32 ((Z.f).toNat : Int)) (a' := ?_) rfl (by kernel_rfl) (fun _ _ _ h => h) (by rfl) ⟨(H.at 0 rfl), trivial⟩ (fun wx hSx => ?_) ?_ ?_; rotate_left 1; (focus (exact Kr.valOf rfl (ldE32 (rowCell hSx.1 hz5)))); (focus ((try simp only [Kr.PT]); first | done | rfl)))
          (refine Kr.tPQ 23 (v := ?_) (a' := ?_) rfl (by kernel_rfl) (fun _ _ _ h => h) (by rfl) (fun _ => ⟨(H.at 0 rfl), trivial⟩) (fun wx => ?_) ?_ ?_; rotate_left 2; (focus (go_simp; first | done | rfl)); (focus ((try simp only [Kr.PT]); first | done | rfl)))
          (refine Kr.tPQ 24 (v := .pointer (some ⟨bv, 6, none⟩)) (a' := ?_) rfl (by kernel_rfl) (fun _ _ _ h => h) (by rfl) (fun _ => ⟨(H.at 0 rfl), trivial⟩) (fun wx => ?_) ?_ ?_; rotate_left 1; (focus (exact Kr.valOf rfl (ixC6))); (focus ((try simp only [Kr.PT]); first | done | rfl)))
          (refine Kr.tSQ 25 [] (v := .int .u32 ((Z.g).toNat : Int)) (a' := ?_) rfl (by kernel_rfl) (fun _ _ _ h => h) (by rfl) ⟨(H.at 0 rfl), trivial⟩ (fun wx hSx => ?_) ?_ ?_; rotate_left 1; (focus (exact Kr.valOf rfl (ldE32 (rowCell hSx.1 hz6)))); (focus ((try simp only [Kr.PT]); first | done | rfl)))
          refine Kr.readyL (rs := [26]) (by kernel_rfl) (by simp) ?_
          refine Kr.AllL.cons rfl (fun K hK => ?_) Kr.AllL.nil
          go_simp
          obtain ⟨y22, hy⟩ : ∃ y, d21.alloc (.cells #[.int .u32 ((u0).toNat : Int), .int .u32 ((Z.a).toNat : Int), .int .u32 ((Z.b).toNat : Int), .int .u32 ((Z.c).toNat : Int), .int .u32 ((u4).toNat : Int), .int .u32 ((Z.e).toNat : Int), .int .u32 ((Z.f).toNat : Int), .int .u32 ((Z.g).toNat : Int)] 38) = y := ⟨_, rfl⟩
          obtain ⟨bn, hb⟩ : ∃ b, d21.heap.size = b := ⟨_, rfl⟩
          rw [hy, hb]
          have hy2 : d21.alloc (.cells ((⟨u0, Z.a, Z.b, Z.c, u4, Z.e, Z.f, Z.g⟩ : S8).list.map w32).toArray 38) = y22 := hy
          replace H := H.alloc hy2 hb; clear hy hy2 hb
          (refine Kr.outL hK (a' := ?_) ?_ (fun _ => ⟨(H.at 1 rfl), trivial⟩) ?_; rotate_left; (focus ((try simp only [Kr.PT]); first | done | rfl))); clear hK K
          (refine Kr.tPQ 27 (v := ?_) (a' := ?_) rfl (by kernel_rfl) (fun _ _ _ h => h) (by rfl) (fun _ => ⟨(H.at 1 rfl), trivial⟩) (fun wx => ?_) ?_ ?_; rotate_left 2; (focus (go_simp; first | done | rfl)); (focus ((try simp only [Kr.PT]); first | done | rfl)))
          refine Kr.doneL (by kernel_rfl) ?_ _
          replace H := H.erase 1; dsimp only [List.eraseIdx] at H
          obtain ⟨Z2, hZ2⟩ : ∃ z : S8, (⟨u0, Z.a, Z.b, Z.c, u4, Z.e, Z.f, Z.g⟩ : S8) = z := ⟨_, rfl⟩; rw [hZ2] at H hrn; have hZ2t : (Z2.list.map w32).take 8 = Z2.list.map w32 := List.take_of_length_le (Nat.le_refl 8)
          have HADD : IntKind.i64.wrap ((t : Int) + 1) = ((t + 1 : Nat) : Int) := wrap_nat (by omega) (by omega)
          go_upto_region 11 with fail
          refine Kr.seqStartW ?_
          (refine Kr.seqQ (v := ?_) (a' := ?_) (by rfl) ?_ ?_ ?_; rotate_left 2; (focus (go_simp; first | done | rfl)); (focus ((try simp only [Kr.PT]); first | done | rfl)))
          (refine Kr.seqQ (v := .int .i64 ((t + 1 : Nat) : Int)) (a' := ?_) (by rfl) ?_ ?_ ?_; rotate_left 1; (focus (exact Kr.valOf rfl (addI HADD))); (focus ((try simp only [Kr.PT]); first | done | rfl)))
          (refine Kr.seqQ (v := ?_) (a' := ?_) (by rfl) ?_ ?_ ?_; rotate_left 2; (focus (go_simp; first | done | rfl)); (focus ((try simp only [Kr.PT]); first | done | rfl)))
          refine Kr.seqDoneW ?_
          go_wp2; go_roundw
          case rel => exact ⟨t + 1, Z2, bn, 8, Z2.list.map w32, by omega, rfl, rfl, Lib.hid (by rw [rnds, HZ.out, hk0, hw0, hrn]), Lib.hid hZ2t, Lib.hid H⟩
          case measure => simp [intOf]; omega
end Go.Proofs.YtldgjhmefaapeaaDoor.Dg


/- Arguments that are rows of bytes. -/
namespace Go.Proofs.YtldgjhmefaapeaaDoor.Dl
open Go Go.RowKit Go.Proofs.YtldgjhmefaapeaaDoor.Ne Go.Proofs.YtldgjhmefaapeaaDoor.Dg
/-- A slice of bytes among the arguments. -/
def Bin8 (W : World) (p : Option Addr) (n c : Nat) : Prop := ∃ l : List (BitVec 8), l.length = n ∧ n ≤ c ∧ (p = none → c = 0) ∧ SrcB p l W ∧ n ≤ 9223372036854775807
open Go.ChangeShapes Go.WideShapes Go.ChangeAt Go.WideElems in
set_option maxRecDepth 100000 in
theorem open_bytes {H : Type} {enc : TypeId × Value → H} {W : World} {r : Reach} {b0 : Nat} {v : Value} {d : DataW H} {p : List MemPlace}
    (hv : Value.okWide Tryd.prog W r b0 46 v) (h : DataW.Trod enc Tryd.prog W 0 (fun _ => true) true 46 v d p) :
    ∃ (q : Option Addr) (n c : Nat), v = .slice q n c ∧ Bin8 W q n c := by
  obtain ⟨a0, len0, cap0, rfl⟩ := okWide_slice Tryd.underlying46 hv
  obtain ⟨fuel, hf⟩ := h
  rcases open_ints Tryd.underlying46 Tryd.underlying5 cU8 hf with ⟨hc, _⟩ | ⟨a, len, cap, zs, hc, _, hl, hm, hz, _, hcell, hw⟩
  · simp [Value.cells] at hc
    obtain ⟨rfl, rfl, rfl⟩ := hc
    exact ⟨none, 0, 0, rfl, [], rfl, Nat.le_refl _, fun _ => rfl, .inl rfl, by decide⟩
  · simp [Value.cells] at hc
    obtain ⟨rfl, rfl, rfl⟩ := hc
    have hz' : zs.length = cap0 := by simpa using hz
    have hm' : cap0 ≤ 9223372036854775807 := Nat.le_trans hm (by decide)
    refine ⟨some a, len0, cap0, rfl, (zs.take len0).map (fun z => BitVec.ofNat 8 z.toNat), by simp; omega, hl, (fun e => by cases e), ?_, by omega⟩
    rcases Nat.eq_zero_or_pos len0 with h0 | h0
    · subst h0
      exact .inl (by simp)
    · have hs : a.spot = none := Nl.addr_at (v := .int .u8 (zs.getD 0 0)) (by simpa [Addr.add] using hcell 0 (by omega))
      obtain ⟨b, off, sp⟩ := a
      subst hs
      refine .inr ⟨b, off, rfl, fun i x hx => ?_⟩
      rw [List.getElem?_map, Option.map_eq_some_iff] at hx
      obtain ⟨z, hx, rfl⟩ := hx
      have hi : i < len0 := by have := (List.getElem?_eq_some_iff.1 hx).1; simp at this; omega
      rw [List.getElem?_take, if_pos hi] at hx
      have e := hcell i (by omega)
      rw [Ne.addr_add] at e
      rw [e, List.getD_eq_getElem?_getD, hx]
      exact congrArg some (w8_of (wf_u8 (hw z (List.mem_of_getElem? hx))))
end Go.Proofs.YtldgjhmefaapeaaDoor.Dl


/- slices.Concat at bytes. -/
namespace Go.Proofs.YtldgjhmefaapeaaDoor.Dg
open Go Go.RowKit Go.Proofs.YtldgjhmefaapeaaDoor.Ne Go.Proofs.YtldgjhmefaapeaaDoor.Kr

/-- Slices among the values of a row. -/
def Part (W : World) (x : Value × List (BitVec 8)) : Prop := ∃ p n c, x.1 = .slice p n c ∧ x.2.length = n ∧ (p = none → c = 0) ∧ SrcB p x.2 W
theorem Part.grow {W W' : World} {x : Value × List (BitVec 8)} (h : Part W x) (g : Gr W W') : Part W' x := by
  obtain ⟨p, n, c, h1, h2, h3, h4⟩ := h
  exact ⟨p, n, c, h1, h2, h3, h4.grow g⟩
def flat (ps : List (Value × List (BitVec 8))) : List (BitVec 8) := ps.flatMap (·.2)
theorem flat_take {ps : List (Value × List (BitVec 8))} {j : Nat} {x : Value × List (BitVec 8)} (h : ps[j]? = some x) : flat (ps.take (j + 1)) = flat (ps.take j) ++ x.2 := by
  unfold flat
  rw [List.take_add_one, h]
  simp
theorem flat_le (ps : List (Value × List (BitVec 8))) (j : Nat) : (flat (ps.take j)).length ≤ (flat ps).length := by
  conv => rhs; rw [← List.take_append_drop j ps]
  unfold flat
  rw [List.flatMap_append, List.length_append]
  omega
theorem ixS {w : World} {b off n c j : Nat} (h : j < n) : (Instr.indexAt 87 (.slice (some ⟨b, off, none⟩) n c) (.int .i64 (j : Int))).run Tryd.prog w = .ok (.pointer (some ⟨b, off + j, none⟩)) w := by
  have h1 : (0 : Int) ≤ (j : Int) := by omega
  have h2 : (j : Int) < (n : Int) := by omega
  go_simp
theorem ldSl {w : World} {a : Addr} {p : Option Addr} {n c : Nat} (h : w.cell? a = some (.slice p n c)) : (Instr.loadAt 46 (.pointer (some a))).run Tryd.prog w = .ok (.slice p n c) w := by
  go_simp
/-- A row of zeros of which nothing is taken yet. -/
theorem grow_zeros {W : World} {n : Nat} (h0 : 0 < n) (hn : n ≤ 1000000) : ∃ cap y b, W.heap.size = b ∧ (Builtin.append_ #[46, 3] 46 #[.slice none 0 0, .int .i64 (n : Int)]).run Tryd.prog W = .ok (.slice (some ⟨b, 0, none⟩) n cap) y ∧
    n ≤ cap ∧ cap < 9223372036854775808 ∧ RowG 5 W.heap.size (.slice (some ⟨b, 0, none⟩) 0 cap) [] y ∧ Gr W y := by
  obtain ⟨i0, hi, hz0, hz1, hz2⟩ := info_parts info8
  have hr := Lib.run_append_nil_zeros (P := Tryd.prog) W 46 3 46 5 i0 (.int .u8 0) .i64 .i64 Tryd.underlying46 Tryd.underlying3 hi hz0 n h0 (by omega) (by omega) (by rw [hz2]; omega)
  have hge := grownCap_ge W n 0 5
  have hcm : grownCap W n 0 5 ≤ maxLen := grownCap_le_maxLen W n 0 5 (by unfold maxLen; omega)
  generalize grownCap W n 0 5 = cap at hr hge hcm
  refine ⟨cap, _, _, rfl, hr, by omega, by unfold maxLen at hcm; omega, ⟨rfl, .inr ⟨W.heap.size, cap, _, rfl, Nat.le_refl _, heap_alloc_last _ _, Nat.zero_le _, by unfold maxLen at *; omega, ?_, by simp⟩⟩, ((Gr.refl _).drew).alloc _⟩
  simp [Builtin.zeroCells, Value.cells]
  omega
theorem sl0 {w : World} {b n c : Nat} : (Instr.sliceAt 46 (.slice (some ⟨b, 0, none⟩) n c) none (some (.int .i64 0)) none).run Tryd.prog w = .ok (.slice (some ⟨b, 0, none⟩) 0 c) w := by
  have h5 : (0 : Int) ≤ (c : Int) := by omega
  go_simp

set_option linter.unusedSimpArgs false in
set_option maxRecDepth 100000 in
set_option maxHeartbeats 16000000 in
theorem Grow_v {n : Nat} {w : World} (hn : n ≤ 1000000) :
    Calls Tryd.prog 50 #[.slice none 0 0, .int .i64 (n : Int)] w fun e w' => ∃ v, e = .returned v ∧ RowG 5 w.heap.size v [] w' ∧ Gr w w' := by
  have hg0 : n = 0 ∨ 0 < n := by omega
  have H := Ow.start w
  go_enter Tryd.func50, Tryd.ntmps50
  go_upto_region 0 with fail
  refine Kr.seqStartW ?_
  (refine Kr.seqQ (v := ?_) (a' := ?_) (by rfl) ?_ ?_ ?_; rotate_left 2; (focus (go_simp; first | done | rfl)); (focus ((try simp only [Kr.PT]); first | done | rfl)))
  refine Kr.seqDoneW ?_
  have HN := Lib.hid hn; clear hn
  have HC0 : decide ((n : Int) < 0) = false := decide_eq_false (by omega)
  go_upto_region 1 with fail
  refine Kr.seqStartW ?_
  (refine Kr.seqQ (v := ?_) (a' := ?_) (by rfl) ?_ ?_ ?_; rotate_left 2; (focus (go_simp; first | done | rfl)); (focus ((try simp only [Kr.PT]); first | done | rfl)))
  (refine Kr.seqQ (v := .bool false) (a' := ?_) (by rfl) ?_ ?_ ?_; rotate_left 1; (focus (exact Kr.valOf rfl (lssT HC0))); (focus ((try simp only [Kr.PT]); first | done | rfl)))
  refine Kr.seqDoneW ?_
  have hsub : IntKind.i64.wrap ((n : Int) - 0) = (n : Int) := wrap_nat (by omega) (by have := HN.out; omega)
  go_upto_region 3 with fail
  refine Kr.seqStartW ?_
  (refine Kr.seqQ (v := ?_) (a' := ?_) (by rfl) ?_ ?_ ?_; rotate_left 2; (focus (go_simp; first | done | rfl)); (focus ((try simp only [Kr.PT]); first | done | rfl)))
  (refine Kr.seqQ (v := ?_) (a' := ?_) (by rfl) ?_ ?_ ?_; rotate_left 2; (focus (go_simp; first | done | rfl)); (focus ((try simp only [Kr.PT]); first | done | rfl)))
  (refine Kr.seqQ (v := .int .i64 0) (a' := ?_) (by rfl) ?_ ?_ ?_; rotate_left 1; (focus (exact Kr.valOf rfl ((by go_simp)))); (focus ((try simp only [Kr.PT]); first | done | rfl)))
  (refine Kr.seqQ (v := ?_) (a' := ?_) (by rfl) ?_ ?_ ?_; rotate_left 2; (focus (go_simp; first | done | rfl)); (focus ((try simp only [Kr.PT]); first | done | rfl)))
  (refine Kr.seqQ (v := .int .i64 0) (a' := ?_) (by rfl) ?_ ?_ ?_; rotate_left 1; (focus (exact Kr.valOf rfl ((by go_simp)))); (focus ((try simp only [Kr.PT]); first | done | rfl)))
  (refine Kr.seqQ (v := .int .i64 0) (a' := ?_) (by rfl) ?_ ?_ ?_; rotate_left 1; (focus (exact Kr.valOf rfl (subI (by decide)))); (focus ((try simp only [Kr.PT]); first | done | rfl)))
  (refine Kr.seqQ (v := .int .i64 (n : Int)) (a' := ?_) (by rfl) ?_ ?_ ?_; rotate_left 1; (focus (exact Kr.valOf rfl (subI hsub))); (focus ((try simp only [Kr.PT]); first | done | rfl)))
  (refine Kr.seqQ (v := ?_) (a' := ?_) (by rfl) ?_ ?_ ?_; rotate_left 2; (focus (go_simp; first | done | rfl)); (focus ((try simp only [Kr.PT]); first | done | rfl)))
  refine Kr.seqDoneW ?_
  rcases hg0 with h0 | h0
  · have HC : decide ((0 : Int) < (n : Int)) = false := decide_eq_false (by omega)
    clear h0
    go_upto_region 4 with fail
    refine Kr.seqStartW ?_
    (refine Kr.seqQ (v := ?_) (a' := ?_) (by rfl) ?_ ?_ ?_; rotate_left 2; (focus (go_simp; first | done | rfl)); (focus ((try simp only [Kr.PT]); first | done | rfl)))
    (refine Kr.seqQ (v := .bool false) (a' := ?_) (by rfl) ?_ ?_ ?_; rotate_left 1; (focus (exact Kr.valOf rfl (gtrI HC))); (focus ((try simp only [Kr.PT]); first | done | rfl)))
    refine Kr.seqDoneW ?_
    go_upto_region 6 with fail
    refine Kr.seqStartW ?_
    (refine Kr.seqQ (v := ?_) (a' := ?_) (by rfl) ?_ ?_ ?_; rotate_left 2; (focus (go_simp; first | done | rfl)); (focus ((try simp only [Kr.PT]); first | done | rfl)))
    (refine Kr.seqQ (v := ?_) (a' := ?_) (by rfl) ?_ ?_ ?_; rotate_left 2; (focus (go_simp; first | done | rfl)); (focus ((try simp only [Kr.PT]); first | done | rfl)))
    refine Kr.seqDoneW ?_
    have hk := trivial
    go_wp2
    refine bodyPost_ret (v := .slice none 0 0) (by simp [results, Tryd.results50, go_sem, hk]) rfl ⟨_, rfl, RowG.nil _ _ _, H.g⟩
  · have HC : decide ((0 : Int) < (n : Int)) = true := decide_eq_true (by omega)
    have HP := Lib.hid h0; clear h0
    go_upto_region 4 with fail
    refine Kr.seqStartW ?_
    (refine Kr.seqQ (v := ?_) (a' := ?_) (by rfl) ?_ ?_ ?_; rotate_left 2; (focus (go_simp; first | done | rfl)); (focus ((try simp only [Kr.PT]); first | done | rfl)))
    (refine Kr.seqQ (v := .bool true) (a' := ?_) (by rfl) ?_ ?_ ?_; rotate_left 1; (focus (exact Kr.valOf rfl (gtrI HC))); (focus ((try simp only [Kr.PT]); first | done | rfl)))
    refine Kr.seqDoneW ?_
    go_upto_region 5 with fail
    refine Kr.seqStartW ?_
    (refine Kr.seqQ (v := ?_) (a' := ?_) (by rfl) ?_ ?_ ?_; rotate_left 2; (focus (go_simp; first | done | rfl)); (focus ((try simp only [Kr.PT]); first | done | rfl)))
    (refine Kr.seqQ (v := ?_) (a' := ?_) (by rfl) ?_ ?_ ?_; rotate_left 2; (focus (go_simp; first | done | rfl)); (focus ((try simp only [Kr.PT]); first | done | rfl)))
    (refine Kr.seqQ (v := .int .i64 0) (a' := ?_) (by rfl) ?_ ?_ ?_; rotate_left 1; (focus (exact Kr.valOf rfl ((by go_simp)))); (focus ((try simp only [Kr.PT]); first | done | rfl)))
    (refine Kr.seqQ (v := .slice none 0 0) (a' := ?_) (by rfl) ?_ ?_ ?_; rotate_left 1; (focus (exact Kr.valOf rfl ((by go_simp)))); (focus ((try simp only [Kr.PT]); first | done | rfl)))
    (refine Kr.seqQ (v := ?_) (a' := ?_) (by rfl) ?_ ?_ ?_; rotate_left 2; (focus (go_simp; first | done | rfl)); (focus ((try simp only [Kr.PT]); first | done | rfl)))
    refine Kr.seqR (by rfl) (fun K hK => ?_)
    obtain ⟨cap, y1, bk, hbk, hrun, hc1, hc2, hrow, hgr⟩ := grow_zeros (W := w) HP.out HN.out
    refine Lib.wp_append_run _ (.tmp 20) (.tmp 21) 46 3 rfl _ _ rfl rfl _ _ hrun ?_
    have HROW := Lib.hid hrow; clear hrun hc1 hc2 hrow hbk
    replace H := H.grow hgr
    clear hgr
    (refine Kr.outS hK (a' := ?_) ?_ ?_; rotate_left; (focus ((try simp only [Kr.PT]); first | done | rfl))); clear hK K
    (refine Kr.seqQ (v := ?_) (a' := ?_) (by rfl) ?_ ?_ ?_; rotate_left 2; (focus (go_simp; first | done | rfl)); (focus ((try simp only [Kr.PT]); first | done | rfl)))
    (refine Kr.seqQ (v := .int .i64 0) (a' := ?_) (by rfl) ?_ ?_ ?_; rotate_left 1; (focus (exact Kr.valOf rfl ((by go_simp)))); (focus ((try simp only [Kr.PT]); first | done | rfl)))
    (refine Kr.seqQ (v := .slice (some ⟨bk, 0, none⟩) 0 cap) (a' := ?_) (by rfl) ?_ ?_ ?_; rotate_left 1; (focus (exact Kr.valOf rfl (sl0))); (focus ((try simp only [Kr.PT]); first | done | rfl)))
    (refine Kr.seqQ (v := ?_) (a' := ?_) (by rfl) ?_ ?_ ?_; rotate_left 2; (focus (go_simp; first | done | rfl)); (focus ((try simp only [Kr.PT]); first | done | rfl)))
    refine Kr.seqDoneW ?_
    go_upto_region 6 with fail
    refine Kr.seqStartW ?_
    (refine Kr.seqQ (v := ?_) (a' := ?_) (by rfl) ?_ ?_ ?_; rotate_left 2; (focus (go_simp; first | done | rfl)); (focus ((try simp only [Kr.PT]); first | done | rfl)))
    (refine Kr.seqQ (v := ?_) (a' := ?_) (by rfl) ?_ ?_ ?_; rotate_left 2; (focus (go_simp; first | done | rfl)); (focus ((try simp only [Kr.PT]); first | done | rfl)))
    refine Kr.seqDoneW ?_
    have hk := trivial
    go_wp2
    refine bodyPost_ret (v := .slice (some ⟨bk, 0, none⟩) 0 cap) (by simp [results, Tryd.results50, go_sem, hk]) rfl ⟨_, rfl, HROW.out, H.g⟩
theorem rowG_low {T : TypeId} {A B : Nat} {v : Value} {xs : List Value} {W : World} (hab : A ≤ B) (h : RowG T B v xs W) : RowG T A v xs W := by
  obtain ⟨h1, h2 | ⟨g, cap, cur, e1, e2, e3⟩⟩ := h
  · exact ⟨h1, .inl h2⟩
  · exact ⟨h1, .inr ⟨g, cap, cur, e1, Nat.le_trans hab e2, e3⟩⟩
set_option linter.unusedSimpArgs false in
set_option maxRecDepth 100000 in
set_option maxHeartbeats 16000000 in
theorem Concat_v {q : Option Addr} {ps : List (Value × List (BitVec 8))} {c : Nat} {w : World} (hQ : SrcG q (ps.map (·.1)) w) (hp : ∀ x ∈ ps, Part w x) (hk : ps.length ≤ 1000000) (hN : (flat ps).length ≤ 1000000) :
    Calls Tryd.prog 39 #[.slice q ps.length c] w fun e w' => ∃ p c, e = .returned (.slice p (flat ps).length c) ∧ (flat ps).length ≤ c ∧ (p = none → c = 0) ∧ SrcB p (flat ps) w' ∧ Gr w w' := by
  obtain ⟨k, hk0⟩ : ∃ k, ps.length = k := ⟨_, rfl⟩; rw [hk0] at hk ⊢
  obtain ⟨N, hN0⟩ : ∃ N, (flat ps).length = N := ⟨_, rfl⟩; rw [hN0] at hN ⊢
  have HQ := Lib.hid hQ; have HPS := Lib.hid hp; have HK := Lib.hid hk0; have HNN := Lib.hid hN0; clear hQ hp hk0 hN0
  have H := Ow.start w
  go_enter Tryd.func39, Tryd.ntmps39
  go_upto_region 0 with fail
  refine Kr.seqStartW ?_
  (refine Kr.seqQ (v := ?_) (a' := ?_) (by rfl) ?_ ?_ ?_; rotate_left 2; (focus (go_simp; first | done | rfl)); (focus ((try simp only [Kr.PT]); first | done | rfl)))
  refine Kr.seqDoneW ?_
  go_upto_region 1 with fail
  refine Kr.seqStartW ?_
  (refine Kr.seqQ (v := ?_) (a' := ?_) (by rfl) ?_ ?_ ?_; rotate_left 2; (focus (go_simp; first | done | rfl)); (focus ((try simp only [Kr.PT]); first | done | rfl)))
  refine Kr.seqDoneW ?_
  go_upto_region 2 with fail
  refine Kr.seqStartW ?_
  (refine Kr.seqQ (v := ?_) (a' := ?_) (by rfl) ?_ ?_ ?_; rotate_left 2; (focus (go_simp; first | done | rfl)); (focus ((try simp only [Kr.PT]); first | done | rfl)))
  (refine Kr.seqQ (v := .int .i64 (k : Int)) (a' := ?_) (by rfl) ?_ ?_ ?_; rotate_left 1; (focus (exact Kr.valOf rfl ((by go_simp)))); (focus ((try simp only [Kr.PT]); first | done | rfl)))
  (refine Kr.seqQ (v := ?_) (a' := ?_) (by rfl) ?_ ?_ ?_; rotate_left 2; (focus (go_simp; first | done | rfl)); (focus ((try simp only [Kr.PT]); first | done | rfl)))
  refine Kr.seqDoneW ?_
  have H2 := Lib.hid H; clear H
  go_wp2_with fail
  go_loopw [3, 11] (fun sv jv wr => ∃ (j m : Nat), j ≤ k ∧ m ≤ N ∧ jv = .int .i64 (j : Int) ∧ sv = .int .i64 (m : Int) ∧ Hid (m = (flat (ps.take j)).length) ∧ Hid (Ow w wr [])) (fun _ jv _ => (k - (intOf jv).toNat))
  case atStart => exact ⟨0, 0, by omega, by omega, rfl, rfl, Lib.hid rfl, H2⟩
  case round =>
    clear H2; obtain ⟨j, m, hj, hm, rfl, rfl, HM, HH⟩ := hrel; have H := HH.out; clear HH
    by_cases hje : j = k
    · have HC : decide ((j : Int) < (k : Int)) = false := decide_eq_false (by omega)
      have hmN : m = N := by rw [HM.out, ← HNN.out, hje, ← HK.out, List.take_of_length_le (Nat.le_refl _)]
      subst hmN; clear HM hje hj hm
      go_upto_region 3 with fail
      refine Kr.seqStartW ?_
      (refine Kr.seqQ (v := .bool false) (a' := ?_) (by rfl) ?_ ?_ ?_; rotate_left 1; (focus (exact Kr.valOf rfl (lssT HC))); (focus ((try simp only [Kr.PT]); first | done | rfl)))
      refine Kr.seqDoneW ?_
      go_upto_region 9 with fail
      refine Kr.seqStartW ?_
      (refine Kr.seqQ (v := ?_) (a' := ?_) (by rfl) ?_ ?_ ?_; rotate_left 2; (focus (go_simp; first | done | rfl)); (focus ((try simp only [Kr.PT]); first | done | rfl)))
      refine Kr.seqR (by rfl) (fun K hK => ?_)
      go_simp
      go_at_call 50
      refine (Grow_v (n := m) (w := wr) hN).mono ?_
      rintro e y1 ⟨v0, rfl, hrow, hg⟩
      have HR := Lib.hid (show RowG 5 w.heap.size v0 [] y1 from rowG_low H.g.le hrow); have HA := Apt.none v0; clear hrow
      replace H := H.grow hg
      clear hg
      (refine Kr.outS hK (a' := ?_) ?_ ?_; rotate_left; (focus ((try simp only [Kr.PT]); first | done | rfl))); clear hK K
      (refine Kr.seqQ (v := ?_) (a' := ?_) (by rfl) ?_ ?_ ?_; rotate_left 2; (focus (go_simp; first | done | rfl)); (focus ((try simp only [Kr.PT]); first | done | rfl)))
      refine Kr.seqDoneW ?_
      go_upto_region 10 with fail
      refine Kr.seqStartW ?_
      (refine Kr.seqQ (v := ?_) (a' := ?_) (by rfl) ?_ ?_ ?_; rotate_left 2; (focus (go_simp; first | done | rfl)); (focus ((try simp only [Kr.PT]); first | done | rfl)))
      (refine Kr.seqQ (v := .int .i64 (k : Int)) (a' := ?_) (by rfl) ?_ ?_ ?_; rotate_left 1; (focus (exact Kr.valOf rfl ((by go_simp)))); (focus ((try simp only [Kr.PT]); first | done | rfl)))
      (refine Kr.seqQ (v := ?_) (a' := ?_) (by rfl) ?_ ?_ ?_; rotate_left 2; (focus (go_simp; first | done | rfl)); (focus ((try simp only [Kr.PT]); first | done | rfl)))
      refine Kr.seqDoneW ?_
      have H2 := Lib.hid H; clear H
      go_wp2_with fail
      go_loopw [6, 27] (fun v jv wr => ∃ (j : Nat), j ≤ k ∧ jv = .int .i64 (j : Int) ∧ Hid (RowG 5 w.heap.size v ((flat (ps.take j)).map w8) wr) ∧ Hid (Apt v []) ∧ Hid (Ow w wr [])) (fun _ jv _ => (k - (intOf jv).toNat))
      case atStart => exact ⟨0, by omega, rfl, HR, Lib.hid HA, H2⟩
      case round =>
        clear H2 HR HA HC; obtain ⟨j, hj, rfl, HR, HA, HH⟩ := hrel; have H := HH.out; replace HA := HA.out; clear HH
        by_cases hje : j = k
        · have HC : decide ((j : Int) < (k : Int)) = false := decide_eq_false (by omega)
          have hfl : flat (ps.take j) = flat ps := by rw [hje, ← HK.out, List.take_of_length_le (Nat.le_refl _)]
          rw [hfl] at HR; clear hfl hje
          obtain ⟨p, c2, rfl, hc, hpn, hsrc⟩ := HR.out.src
          rw [List.length_map, HNN.out] at hc ⊢
          have HSRC := Lib.hid (srcB_of hsrc); have HPN := Lib.hid hpn; clear hsrc HR HA hpn
          go_upto_region 11 with fail
          refine Kr.seqStartW ?_
          (refine Kr.seqQ (v := .bool false) (a' := ?_) (by rfl) ?_ ?_ ?_; rotate_left 1; (focus (exact Kr.valOf rfl (lssT HC))); (focus ((try simp only [Kr.PT]); first | done | rfl)))
          refine Kr.seqDoneW ?_
          go_upto_region 15 with fail
          refine Kr.seqStartW ?_
          (refine Kr.seqQ (v := ?_) (a' := ?_) (by rfl) ?_ ?_ ?_; rotate_left 2; (focus (go_simp; first | done | rfl)); (focus ((try simp only [Kr.PT]); first | done | rfl)))
          (refine Kr.seqQ (v := ?_) (a' := ?_) (by rfl) ?_ ?_ ?_; rotate_left 2; (focus (go_simp; first | done | rfl)); (focus ((try simp only [Kr.PT]); first | done | rfl)))
          refine Kr.seqDoneW ?_
          have hk := trivial
          go_wp2
          refine bodyPost_ret (v := .slice p m c2) (by simp [results, Tryd.results39, go_sem, hk]) rfl ⟨p, c2, rfl, hc, HPN.out, HSRC.out, H.g⟩
        · have hjl : j < k := by omega
          have HC : decide ((j : Int) < (k : Int)) = true := decide_eq_true (by omega)
          obtain ⟨x, hx⟩ : ∃ x, ps[j]? = some x := ⟨_, List.getElem?_eq_getElem (by rw [HK.out]; exact hjl)⟩
          obtain ⟨p, n, c2, hx1, hx2, hx3, hx4⟩ := (HPS.out x (List.mem_of_getElem? hx)).grow H.g
          obtain ⟨b, off, hq⟩ := srcG_some HQ.out (by rw [List.length_map, HK.out]; omega)
          subst hq
          have HX := Lib.hid (srcG_get HQ.out (show (ps.map (·.1))[j]? = some (.slice p n c2) by rw [List.getElem?_map, hx, ← hx1]; rfl))
          have htk := Lib.hid (flat_take hx); have hle := flat_le ps (j + 1); rw [htk.out, List.length_append, HNN.out, hx2] at hle
          obtain ⟨d, hd⟩ : ∃ d, x.2 = d := ⟨_, rfl⟩; rw [hd] at hx2 hx4 htk
          have HS := Lib.hid hx4; clear hx hx1 hd hx4
          go_upto_region 11 with fail
          refine Kr.seqStartW ?_
          (refine Kr.seqQ (v := .bool true) (a' := ?_) (by rfl) ?_ ?_ ?_; rotate_left 1; (focus (exact Kr.valOf rfl (lssT HC))); (focus ((try simp only [Kr.PT]); first | done | rfl)))
          refine Kr.seqDoneW ?_
          go_upto_region 12 with fail
          refine Kr.seqStartW ?_
          (refine Kr.seqQ (v := .pointer (some ⟨b, off + j, none⟩)) (a' := ?_) (by rfl) ?_ ?_ ?_; rotate_left 1; (focus (exact Kr.valOf rfl (ixS hjl))); (focus ((try simp only [Kr.PT]); first | done | rfl)))
          (refine Kr.seqQ (v := .slice p n c2) (a' := ?_) (by rfl) ?_ ?_ ?_; rotate_left 1; (focus (exact Kr.valOf rfl (ldSl (H.g.cell HX.out)))); (focus ((try simp only [Kr.PT]); first | done | rfl)))
          (refine Kr.seqQ (v := ?_) (a' := ?_) (by rfl) ?_ ?_ ?_; rotate_left 2; (focus (go_simp; first | done | rfl)); (focus ((try simp only [Kr.PT]); first | done | rfl)))
          refine Kr.seqDoneW ?_
          go_upto_region 13 with fail
          refine Kr.seqStartW ?_
          (refine Kr.seqQ (v := ?_) (a' := ?_) (by rfl) ?_ ?_ ?_; rotate_left 2; (focus (go_simp; first | done | rfl)); (focus ((try simp only [Kr.PT]); first | done | rfl)))
          (refine Kr.seqQ (v := ?_) (a' := ?_) (by rfl) ?_ ?_ ?_; rotate_left 2; (focus (go_simp; first | done | rfl)); (focus ((try simp only [Kr.PT]); first | done | rfl)))
          refine Kr.seqR (by rfl) (fun K hK => ?_)
          refine wp_appG (T := 5) (TS := 46) Tryd.underlying46 info8 rfl (.tmp 31) (.tmp 32) rfl (v := u6) (r := ((flat (ps.take j)).map w8)) (d := (d.map w8)) (p := p) (m := n) (c := c2) (rs := []) rfl rfl (by rw [List.length_map]; exact hx2) (HS.out.srcG) (one_lit8 d) (hx3) H HR.out HA (by rw [List.length_map]; omega) (by decide) ?_
          intro v1 y2 H3 hR3 hA3
          clear H HR HA HS HX; have H := H3; have HR := Lib.hid hR3; have HA := hA3; clear H3 hR3 hA3
          (refine Kr.outS hK (a' := ?_) ?_ ?_; rotate_left; (focus ((try simp only [Kr.PT]); first | done | rfl))); clear hK K
          (refine Kr.seqQ (v := ?_) (a' := ?_) (by rfl) ?_ ?_ ?_; rotate_left 2; (focus (go_simp; first | done | rfl)); (focus ((try simp only [Kr.PT]); first | done | rfl)))
          refine Kr.seqDoneW ?_
          have htm : (flat (ps.take (j + 1))).map w8 = (flat (ps.take j)).map w8 ++ d.map w8 := by rw [htk.out, List.map_append]
          rw [← htm] at HR
          have HADD : IntKind.i64.wrap ((j : Int) + 1) = ((j + 1 : Nat) : Int) := wrap_nat (by omega) (by omega)
          go_upto_region 14 with fail
          refine Kr.seqStartW ?_
          (refine Kr.seqQ (v := .int .i64 ((j + 1 : Nat) : Int)) (a' := ?_) (by rfl) ?_ ?_ ?_; rotate_left 1; (focus (exact Kr.valOf rfl (addI HADD))); (focus ((try simp only [Kr.PT]); first | done | rfl)))
          (refine Kr.seqQ (v := ?_) (a' := ?_) (by rfl) ?_ ?_ ?_; rotate_left 2; (focus (go_simp; first | done | rfl)); (focus ((try simp only [Kr.PT]); first | done | rfl)))
          refine Kr.seqDoneW ?_
          go_wp2; go_roundw
          case rel => exact ⟨j + 1, by omega, rfl, HR, Lib.hid HA, Lib.hid H⟩
          case measure => simp [intOf]; omega
    · have hjl : j < k := by omega
      have HC : decide ((j : Int) < (k : Int)) = true := decide_eq_true (by omega)
      obtain ⟨x, hx⟩ : ∃ x, ps[j]? = some x := ⟨_, List.getElem?_eq_getElem (by rw [HK.out]; exact hjl)⟩
      obtain ⟨p, n, c2, hx1, hx2, hx3, hx4⟩ := HPS.out x (List.mem_of_getElem? hx)
      obtain ⟨b, off, hq⟩ := srcG_some HQ.out (by rw [List.length_map, HK.out]; omega)
      subst hq
      have HX := Lib.hid (srcG_get HQ.out (show (ps.map (·.1))[j]? = some (.slice p n c2) by rw [List.getElem?_map, hx, ← hx1]; rfl))
      have htk := flat_take hx; have hle := flat_le ps (j + 1); rw [htk, List.length_append, HNN.out, hx2, ← HM.out] at hle
      have hm2 : m + n = (flat (ps.take (j + 1))).length := by rw [htk, List.length_append, hx2, ← HM.out]
      have HM2 := Lib.hid hm2; clear hx hx1 hx2 hx3 hx4 htk hm2 HM
      go_upto_region 3 with fail
      refine Kr.seqStartW ?_
      (refine Kr.seqQ (v := .bool true) (a' := ?_) (by rfl) ?_ ?_ ?_; rotate_left 1; (focus (exact Kr.valOf rfl (lssT HC))); (focus ((try simp only [Kr.PT]); first | done | rfl)))
      refine Kr.seqDoneW ?_
      go_upto_region 4 with fail
      refine Kr.seqStartW ?_
      (refine Kr.seqQ (v := .pointer (some ⟨b, off + j, none⟩)) (a' := ?_) (by rfl) ?_ ?_ ?_; rotate_left 1; (focus (exact Kr.valOf rfl (ixS hjl))); (focus ((try simp only [Kr.PT]); first | done | rfl)))
      (refine Kr.seqQ (v := .slice p n c2) (a' := ?_) (by rfl) ?_ ?_ ?_; rotate_left 1; (focus (exact Kr.valOf rfl (ldSl (H.g.cell HX.out)))); (focus ((try simp only [Kr.PT]); first | done | rfl)))
      (refine Kr.seqQ (v := ?_) (a' := ?_) (by rfl) ?_ ?_ ?_; rotate_left 2; (focus (go_simp; first | done | rfl)); (focus ((try simp only [Kr.PT]); first | done | rfl)))
      refine Kr.seqDoneW ?_
      have hadd : IntKind.i64.wrap ((m : Int) + (n : Int)) = ((m + n : Nat) : Int) := wrap_nat (by omega) (by omega)
      go_upto_region 5 with fail
      refine Kr.seqStartW ?_
      (refine Kr.seqQ (v := ?_) (a' := ?_) (by rfl) ?_ ?_ ?_; rotate_left 2; (focus (go_simp; first | done | rfl)); (focus ((try simp only [Kr.PT]); first | done | rfl)))
      (refine Kr.seqQ (v := ?_) (a' := ?_) (by rfl) ?_ ?_ ?_; rotate_left 2; (focus (go_simp; first | done | rfl)); (focus ((try simp only [Kr.PT]); first | done | rfl)))
      (refine Kr.seqQ (v := .int .i64 (n : Int)) (a' := ?_) (by rfl) ?_ ?_ ?_; rotate_left 1; (focus (exact Kr.valOf rfl ((by go_simp)))); (focus ((try simp only [Kr.PT]); first | done | rfl)))
      (refine Kr.seqQ (v := .int .i64 ((m + n : Nat) : Int)) (a' := ?_) (by rfl) ?_ ?_ ?_; rotate_left 1; (focus (exact Kr.valOf rfl (addI hadd))); (focus ((try simp only [Kr.PT]); first | done | rfl)))
      (refine Kr.seqQ (v := ?_) (a' := ?_) (by rfl) ?_ ?_ ?_; rotate_left 2; (focus (go_simp; first | done | rfl)); (focus ((try simp only [Kr.PT]); first | done | rfl)))
      refine Kr.seqDoneW ?_
      have HC2 : decide (((m + n : Nat) : Int) < 0) = false := decide_eq_false (by omega)
      go_upto_region 6 with fail
      refine Kr.seqStartW ?_
      (refine Kr.seqQ (v := ?_) (a' := ?_) (by rfl) ?_ ?_ ?_; rotate_left 2; (focus (go_simp; first | done | rfl)); (focus ((try simp only [Kr.PT]); first | done | rfl)))
      (refine Kr.seqQ (v := .bool false) (a' := ?_) (by rfl) ?_ ?_ ?_; rotate_left 1; (focus (exact Kr.valOf rfl (lssT HC2))); (focus ((try simp only [Kr.PT]); first | done | rfl)))
      refine Kr.seqDoneW ?_
      have HADD : IntKind.i64.wrap ((j : Int) + 1) = ((j + 1 : Nat) : Int) := wrap_nat (by omega) (by omega)
      go_upto_region 8 with fail
      refine Kr.seqStartW ?_
      (refine Kr.seqQ (v := .int .i64 ((j + 1 : Nat) : Int)) (a' := ?_) (by rfl) ?_ ?_ ?_; rotate_left 1; (focus (exact Kr.valOf rfl (addI HADD))); (focus ((try simp only [Kr.PT]); first | done | rfl)))
      (refine Kr.seqQ (v := ?_) (a' := ?_) (by rfl) ?_ ?_ ?_; rotate_left 2; (focus (go_simp; first | done | rfl)); (focus ((try simp only [Kr.PT]); first | done | rfl)))
      refine Kr.seqDoneW ?_
      go_wp2; go_roundw
      case rel => exact ⟨j + 1, m + n, by omega, by omega, rfl, rfl, HM2, Lib.hid H⟩
      case measure => simp [intOf]; omega
end Go.Proofs.YtldgjhmefaapeaaDoor.Dg


/- Tagged. -/
namespace Go.Proofs.YtldgjhmefaapeaaDoor.Dg
open Go Go.RowKit Go.Proofs.YtldgjhmefaapeaaDoor.Ne Go.Proofs.YtldgjhmefaapeaaDoor.Kr

/-- The bytes of a string. -/
def s8 (s : ByteArray) : List (BitVec 8) := s.data.toList.map UInt8.toBitVec
theorem s8_length (s : ByteArray) : (s8 s).length = s.size := by simp [s8]
theorem conv_str (W : World) (s : ByteArray) : ∃ cap y b, W.heap.size = b ∧ (convert 9 46 (.string s)).run Tryd.prog W = .ok (.slice (some ⟨b, 0, none⟩) s.size cap) y ∧ s.size ≤ cap ∧ BytesAt b 0 (s8 s) y ∧ Gr W y := by
  have hr := run_bytes_of_string (P := Tryd.prog) W 9 46 5 s Tryd.underlying9 Tryd.underlying46 Tryd.underlying5
  refine ⟨_, _, _, rfl, hr, grownCap_ge _ _ _ _, fun j x hx => ?_, ((Gr.refl _).drew).alloc _⟩
  rw [Nat.zero_add]
  have := World.cell?_alloc_mark W.drew (bytesRow s (grownCap W s.size 0 5)) 5 ((bytesRow s (grownCap W s.size 0 5)).size, (bytesRow s (grownCap W s.size 0 5)).size + 1) j
  rw [show W.drew.heap.size = W.heap.size from rfl] at this
  rw [this]
  unfold s8 at hx
  rw [List.getElem?_map, Option.map_eq_some_iff] at hx
  obtain ⟨b, hb, rfl⟩ := hx
  have hj : j < s.size := by simpa using (List.getElem?_eq_some_iff.1 hb).1
  have hb2 : s.data[j]? = some b := by simpa using hb
  simp [bytesRow, Array.getElem?_append, hb2, w8]
  intro h
  omega
theorem run_eqlS {P : Program} {w : World} (t : TypeId) (a b : ByteArray) : (binOp .eql t (.string a) (.string b)).run P w = .ok (.bool (decide (a = b))) w := by
  rw [binOp_string_eql, Sem.run_pure]
  congr 2
  rw [ByteArray.toList_eq, ByteArray.toList_eq, Bool.eq_iff_iff]
  simp only [beq_iff_eq, decide_eq_true_eq]
  constructor
  · intro h
    cases a; cases b
    simpa using h
  · rintro rfl; rfl
theorem strEmpty {w : World} {s : ByteArray} {b : Bool} (h : decide (s.size = 0) = b) : (binOp .eql 9 (.string s) (.string ⟨#[]⟩)).run Tryd.prog w = .ok (.bool b) w := by
  have e : decide (s = (⟨#[]⟩ : ByteArray)) = b := by
    rw [← h]
    refine decide_eq_decide.2 ⟨fun h0 => by rw [h0]; rfl, fun h0 => ?_⟩
    rcases s with ⟨a⟩
    have h1 : a = #[] := Array.eq_empty_of_size_eq_zero h0
    rw [h1]
  rw [← e]
  exact run_eqlS _ _ _
/-- The tagged digest. -/
def tg (s : ByteArray) (l : List (BitVec 8)) : List (BitVec 8) := sha (sha (s8 s) ++ (sha (s8 s) ++ l))
theorem tg_length (s : ByteArray) (l : List (BitVec 8)) : (tg s l).length = 32 := sha_length _
def zH : List (BitVec 8) := List.replicate 32 0
theorem zH_length : zH.length = 32 := rfl
theorem zH_map : zH.map w8 = List.replicate 32 (.int .u8 0) := rfl
theorem buildH {w : World} : (Instr.build 23 #[]).run Tryd.prog w = .ok (.agg (zH.map w8).toArray) w := by
  go_simp
  rfl
theorem newHz {w : World} : (Instr.alloc 23 true (.tuple #[])).run Tryd.prog w = .ok (.pointer (some ⟨w.heap.size, 0, none⟩)) (w.alloc (.cells (zH.map w8).toArray 23)) := newH
theorem results_row_tmp {P : Program} {fn : Func} {p u : Tmp} {ty : TypeId} (h : fn.results = #[.cell p ty, .tmp u]) (tmps : Array Value) (w : World) (g : Nat) (t : TypeId) (cs : Array Value) (fr : Nat × Nat) (d : TypeDesc) {v : Value}
    (hp : tmps.getD p undef = .pointer (some ⟨g, 0, none⟩)) (hg : w.heap[g]? = some (.cells cs t fr))
    (hu : P.underlying ty = some d) (hd : (match d with | .struct _ | .array _ _ => true | _ => false) = true) (hi : (P.info? ty).map (·.size) = some cs.size) (hv : tmps.getD u undef = v) :
    (results fn tmps).run P w = .ok (.tuple #[.agg cs, v]) w := by
  have hp' : tmps[p]?.getD undef = .pointer (some ⟨g, 0, none⟩) := by simpa using hp
  have hv' : tmps[u]?.getD undef = v := by simpa using hv
  rw [results_cell_tmp h]
  simp [hp', hv', asAddr, run_loadVar_row w g t ty cs fr d hg hu hd hi, Result.andThen]
theorem slH2 {w : World} {b : Nat} : (Instr.sliceAt 23 (.pointer (some ⟨b, 0, none⟩)) none none none).run Tryd.prog w = .ok (.slice (some ⟨b, 0, none⟩) 32 32) w := slH

set_option linter.unusedSimpArgs false in
set_option maxRecDepth 100000 in
set_option maxHeartbeats 16000000 in
theorem Tagged_empty {t : ByteArray} {v0 : Value} {w : World} (ht : t.size = 0) :
    Calls Tryd.prog 25 #[.string t, v0] w fun e w' => e = .returned (.tuple #[.agg (zH.map w8).toArray, .int .i64 2]) ∧ Gr w w' := by
  have h0 : (zH.map w8).length = 32 := rfl
  have H := Ow.start w
  go_enter Tryd.func25, Tryd.ntmps25
  go_upto_region 0 with fail
  refine Kr.seqStartW ?_
  refine Kr.seqR (by rfl) (fun K hK => ?_)
  refine wp_runV rfl newHz ?_
  obtain ⟨y1, hy⟩ : ∃ y, w.alloc (.cells (zH.map w8).toArray 23) = y := ⟨_, rfl⟩
  obtain ⟨br, hb⟩ : ∃ b, w.heap.size = b := ⟨_, rfl⟩
  rw [hy, hb]
  have hg : Gr w y1 := hy ▸ (Gr.refl _).alloc _
  replace H := H.alloc hy hb
  clear hy hb hg
  (refine Kr.outS hK (a' := ?_) ?_ ?_; rotate_left; (focus ((try simp only [Kr.PT]); first | done | rfl))); clear hK K
  (refine Kr.seqQ (v := ?_) (a' := ?_) (by rfl) ?_ ?_ ?_; rotate_left 2; (focus (go_simp; first | done | rfl)); (focus ((try simp only [Kr.PT]); first | done | rfl)))
  refine Kr.seqDoneW ?_
  have HC : decide (t.size = 0) = true := decide_eq_true ht
  go_upto_region 1 with fail
  refine Kr.seqStartW ?_
  (refine Kr.seqQ (v := ?_) (a' := ?_) (by rfl) ?_ ?_ ?_; rotate_left 2; (focus (go_simp; first | done | rfl)); (focus ((try simp only [Kr.PT]); first | done | rfl)))
  (refine Kr.seqQ (v := .bool true) (a' := ?_) (by rfl) ?_ ?_ ?_; rotate_left 1; (focus (exact Kr.valOf rfl (strEmpty HC))); (focus ((try simp only [Kr.PT]); first | done | rfl)))
  (refine Kr.seqQ (v := ?_) (a' := ?_) (by rfl) ?_ ?_ ?_; rotate_left 2; (focus (go_simp; first | done | rfl)); (focus ((try simp only [Kr.PT]); first | done | rfl)))
  (refine Kr.seqSkipQ (a' := ?_) (by rfl) ?_ ?_; rotate_left; (focus ((try simp only [Kr.PT]); first | done | rfl)))
  (refine Kr.seqSkipQ (a' := ?_) (by rfl) ?_ ?_; rotate_left; (focus ((try simp only [Kr.PT]); first | done | rfl)))
  (refine Kr.seqSkipQ (a' := ?_) (by rfl) ?_ ?_; rotate_left; (focus ((try simp only [Kr.PT]); first | done | rfl)))
  (refine Kr.seqQ (v := ?_) (a' := ?_) (by rfl) ?_ ?_ ?_; rotate_left 2; (focus (go_simp; first | done | rfl)); (focus ((try simp only [Kr.PT]); first | done | rfl)))
  refine Kr.seqDoneW ?_
  go_upto_region 2 with fail
  refine Kr.seqStartW ?_
  (refine Kr.seqQ (v := .agg (zH.map w8).toArray) (a' := ?_) (by rfl) ?_ ?_ ?_; rotate_left 1; (focus (go_simp; first | done | rfl)); (focus ((try simp only [Kr.PT]); first | done | rfl)))
  refine Kr.seqR (by rfl) (fun K hK => ?_)
  refine wp_run rfl (stH (H.at 0 rfl) h0 h0 (oneCell_bytes _)) ?_
  obtain ⟨y2, hy⟩ : ∃ y, y1.setRow br (zH.map w8).toArray = y := ⟨_, rfl⟩
  rw [hy]
  replace H := H.put 0 hy rfl
  dsimp only [List.set] at H
  clear hy
  (refine Kr.outS hK (a' := ?_) ?_ ?_; rotate_left; (focus ((try simp only [Kr.PT]); first | done | rfl))); clear hK K
  (refine Kr.seqQ (v := ?_) (a' := ?_) (by rfl) ?_ ?_ ?_; rotate_left 2; (focus (go_simp; first | done | rfl)); (focus ((try simp only [Kr.PT]); first | done | rfl)))
  refine Kr.seqDoneW ?_
  go_wp2
  refine bodyPost_ret (v := .tuple #[.agg (zH.map w8).toArray, .int .i64 2]) (results_row_tmp rfl _ _ br 23 _ _ _ (by rfl) (H.at 0 rfl) Tryd.underlying23 rfl (by rw [List.size_toArray, h0]; exact infoH) (by rfl)) rfl ⟨rfl, H.g⟩
set_option linter.unusedSimpArgs false in
set_option maxRecDepth 100000 in
set_option maxHeartbeats 16000000 in
theorem Tagged_long {t : ByteArray} {v0 : Value} {w : World} (ht : 100 < t.size) :
    Calls Tryd.prog 25 #[.string t, v0] w fun e w' => e = .returned (.tuple #[.agg (zH.map w8).toArray, .int .i64 2]) ∧ Gr w w' := by
  have h0 : (zH.map w8).length = 32 := rfl
  have H := Ow.start w
  go_enter Tryd.func25, Tryd.ntmps25
  go_upto_region 0 with fail
  refine Kr.seqStartW ?_
  refine Kr.seqR (by rfl) (fun K hK => ?_)
  refine wp_runV rfl newHz ?_
  obtain ⟨y1, hy⟩ : ∃ y, w.alloc (.cells (zH.map w8).toArray 23) = y := ⟨_, rfl⟩
  obtain ⟨br, hb⟩ : ∃ b, w.heap.size = b := ⟨_, rfl⟩
  rw [hy, hb]
  have hg : Gr w y1 := hy ▸ (Gr.refl _).alloc _
  replace H := H.alloc hy hb
  clear hy hb hg
  (refine Kr.outS hK (a' := ?_) ?_ ?_; rotate_left; (focus ((try simp only [Kr.PT]); first | done | rfl))); clear hK K
  (refine Kr.seqQ (v := ?_) (a' := ?_) (by rfl) ?_ ?_ ?_; rotate_left 2; (focus (go_simp; first | done | rfl)); (focus ((try simp only [Kr.PT]); first | done | rfl)))
  refine Kr.seqDoneW ?_
  have HC : decide (t.size = 0) = false := decide_eq_false (by omega)
  have HC2 : decide ((100 : Int) < (t.size : Int)) = true := decide_eq_true (by omega)
  go_upto_region 1 with fail
  refine Kr.seqStartW ?_
  (refine Kr.seqQ (v := ?_) (a' := ?_) (by rfl) ?_ ?_ ?_; rotate_left 2; (focus (go_simp; first | done | rfl)); (focus ((try simp only [Kr.PT]); first | done | rfl)))
  (refine Kr.seqQ (v := .bool false) (a' := ?_) (by rfl) ?_ ?_ ?_; rotate_left 1; (focus (exact Kr.valOf rfl (strEmpty HC))); (focus ((try simp only [Kr.PT]); first | done | rfl)))
  (refine Kr.seqQ (v := ?_) (a' := ?_) (by rfl) ?_ ?_ ?_; rotate_left 2; (focus (go_simp; first | done | rfl)); (focus ((try simp only [Kr.PT]); first | done | rfl)))
  (refine Kr.seqQ (v := ?_) (a' := ?_) (by rfl) ?_ ?_ ?_; rotate_left 2; (focus (go_simp; first | done | rfl)); (focus ((try simp only [Kr.PT]); first | done | rfl)))
  (refine Kr.seqQ (v := .int .i64 (t.size : Int)) (a' := ?_) (by rfl) ?_ ?_ ?_; rotate_left 1; (focus (exact Kr.valOf rfl ((by go_simp)))); (focus ((try simp only [Kr.PT]); first | done | rfl)))
  (refine Kr.seqQ (v := .bool true) (a' := ?_) (by rfl) ?_ ?_ ?_; rotate_left 1; (focus (exact Kr.valOf rfl (gtrI HC2))); (focus ((try simp only [Kr.PT]); first | done | rfl)))
  (refine Kr.seqQ (v := ?_) (a' := ?_) (by rfl) ?_ ?_ ?_; rotate_left 2; (focus (go_simp; first | done | rfl)); (focus ((try simp only [Kr.PT]); first | done | rfl)))
  refine Kr.seqDoneW ?_
  go_upto_region 2 with fail
  refine Kr.seqStartW ?_
  (refine Kr.seqQ (v := .agg (zH.map w8).toArray) (a' := ?_) (by rfl) ?_ ?_ ?_; rotate_left 1; (focus (go_simp; first | done | rfl)); (focus ((try simp only [Kr.PT]); first | done | rfl)))
  refine Kr.seqR (by rfl) (fun K hK => ?_)
  refine wp_run rfl (stH (H.at 0 rfl) h0 h0 (oneCell_bytes _)) ?_
  obtain ⟨y2, hy⟩ : ∃ y, y1.setRow br (zH.map w8).toArray = y := ⟨_, rfl⟩
  rw [hy]
  replace H := H.put 0 hy rfl
  dsimp only [List.set] at H
  clear hy
  (refine Kr.outS hK (a' := ?_) ?_ ?_; rotate_left; (focus ((try simp only [Kr.PT]); first | done | rfl))); clear hK K
  (refine Kr.seqQ (v := ?_) (a' := ?_) (by rfl) ?_ ?_ ?_; rotate_left 2; (focus (go_simp; first | done | rfl)); (focus ((try simp only [Kr.PT]); first | done | rfl)))
  refine Kr.seqDoneW ?_
  go_wp2
  refine bodyPost_ret (v := .tuple #[.agg (zH.map w8).toArray, .int .i64 2]) (results_row_tmp rfl _ _ br 23 _ _ _ (by rfl) (H.at 0 rfl) Tryd.underlying23 rfl (by rw [List.size_toArray, h0]; exact infoH) (by rfl)) rfl ⟨rfl, H.g⟩
set_option linter.unusedSimpArgs false in
set_option maxRecDepth 100000 in
set_option maxHeartbeats 16000000 in
theorem Tagged_ok {t : ByteArray} {p : Option Addr} {n c : Nat} {l : List (BitVec 8)} {w : World} (ht : 1 ≤ t.size) (ht2 : t.size ≤ 100) (hS : SrcB p l w) (hl : l.length = n) (hp : p = none → c = 0) (hn : n ≤ 100000) (hC : Con w) (hT : Sta0 w) :
    Calls Tryd.prog 25 #[.string t, .slice p n c] w fun e w' => e = .returned (.tuple #[.agg ((tg t l).map w8).toArray, .int .i64 0]) ∧ Gr w w' := by
  have h0 : (zH.map w8).length = 32 := rfl
  have HS := Lib.hid hS; have HCN := Lib.hid hC; have HT0 := Lib.hid hT; clear hS hC hT
  obtain ⟨A, hA⟩ : ∃ z, sha (s8 t) = z := ⟨_, rfl⟩; obtain ⟨R, hR⟩ : ∃ z, tg t l = z := ⟨_, rfl⟩
  have hAl : A.length = 32 := by rw [← hA]; exact sha_length _
  have hRl : R.length = 32 := by rw [← hR]; exact sha_length _
  have hR2 : sha (A ++ (A ++ l)) = R := by rw [← hR, ← hA]; rfl
  rw [hR]; have HRR := Lib.hid hR2; have HAA := Lib.hid hA; clear hR hR2 hA
  have hA32 : (A.map w8).length = 32 := by rw [List.length_map]; exact hAl
  have hR32 : (R.map w8).length = 32 := by rw [List.length_map]; exact hRl
  have H := Ow.start w
  go_enter Tryd.func25, Tryd.ntmps25
  go_upto_region 0 with fail
  refine Kr.seqStartW ?_
  refine Kr.seqR (by rfl) (fun K hK => ?_)
  refine wp_runV rfl newHz ?_
  obtain ⟨y1, hy⟩ : ∃ y, w.alloc (.cells (zH.map w8).toArray 23) = y := ⟨_, rfl⟩
  obtain ⟨br, hb⟩ : ∃ b, w.heap.size = b := ⟨_, rfl⟩
  rw [hy, hb]
  have hg : Gr w y1 := hy ▸ (Gr.refl _).alloc _
  replace H := H.alloc hy hb
  clear hy hb hg
  (refine Kr.outS hK (a' := ?_) ?_ ?_; rotate_left; (focus ((try simp only [Kr.PT]); first | done | rfl))); clear hK K
  (refine Kr.seqQ (v := ?_) (a' := ?_) (by rfl) ?_ ?_ ?_; rotate_left 2; (focus (go_simp; first | done | rfl)); (focus ((try simp only [Kr.PT]); first | done | rfl)))
  refine Kr.seqDoneW ?_
  have HC : decide (t.size = 0) = false := decide_eq_false (by omega)
  have HC2 : decide ((100 : Int) < (t.size : Int)) = false := decide_eq_false (by omega)
  go_upto_region 1 with fail
  refine Kr.seqStartW ?_
  (refine Kr.seqQ (v := ?_) (a' := ?_) (by rfl) ?_ ?_ ?_; rotate_left 2; (focus (go_simp; first | done | rfl)); (focus ((try simp only [Kr.PT]); first | done | rfl)))
  (refine Kr.seqQ (v := .bool false) (a' := ?_) (by rfl) ?_ ?_ ?_; rotate_left 1; (focus (exact Kr.valOf rfl (strEmpty HC))); (focus ((try simp only [Kr.PT]); first | done | rfl)))
  (refine Kr.seqQ (v := ?_) (a' := ?_) (by rfl) ?_ ?_ ?_; rotate_left 2; (focus (go_simp; first | done | rfl)); (focus ((try simp only [Kr.PT]); first | done | rfl)))
  (refine Kr.seqQ (v := ?_) (a' := ?_) (by rfl) ?_ ?_ ?_; rotate_left 2; (focus (go_simp; first | done | rfl)); (focus ((try simp only [Kr.PT]); first | done | rfl)))
  (refine Kr.seqQ (v := .int .i64 (t.size : Int)) (a' := ?_) (by rfl) ?_ ?_ ?_; rotate_left 1; (focus (exact Kr.valOf rfl ((by go_simp)))); (focus ((try simp only [Kr.PT]); first | done | rfl)))
  (refine Kr.seqQ (v := .bool false) (a' := ?_) (by rfl) ?_ ?_ ?_; rotate_left 1; (focus (exact Kr.valOf rfl (gtrI HC2))); (focus ((try simp only [Kr.PT]); first | done | rfl)))
  (refine Kr.seqQ (v := ?_) (a' := ?_) (by rfl) ?_ ?_ ?_; rotate_left 2; (focus (go_simp; first | done | rfl)); (focus ((try simp only [Kr.PT]); first | done | rfl)))
  refine Kr.seqDoneW ?_
  go_upto_region 3 with fail
  refine Kr.seqStartW ?_
  (refine Kr.seqQ (v := ?_) (a' := ?_) (by rfl) ?_ ?_ ?_; rotate_left 2; (focus (go_simp; first | done | rfl)); (focus ((try simp only [Kr.PT]); first | done | rfl)))
  refine Kr.seqR (by rfl) (fun K hK => ?_)
  obtain ⟨cap, y2, bs, hbk, hrun, hcp, hba, hgr⟩ := conv_str y1 t
  refine wp_runV rfl hrun ?_
  have HB := Lib.hid hba; have HBc := Lib.hid hcp; clear hrun hbk hba hcp
  replace H := H.grow hgr
  clear hgr
  (refine Kr.outS hK (a' := ?_) ?_ ?_; rotate_left; (focus ((try simp only [Kr.PT]); first | done | rfl))); clear hK K
  refine Kr.seqR (by rfl) (fun K hK => ?_)
  go_simp
  go_at_call 38
  have hP := Sum_v (.inr ⟨bs, 0, rfl, HB.out⟩) (s8_length t) (HBc.out) (by omega) (HCN.out.grow H.g) (HT0.out.grow H.g); rw [HAA.out] at hP
  refine (hP).mono ?_
  rintro e y3 ⟨rfl, hg⟩
  replace H := H.grow hg
  clear hg
  clear hP
  (refine Kr.outS hK (a' := ?_) ?_ ?_; rotate_left; (focus ((try simp only [Kr.PT]); first | done | rfl))); clear hK K
  refine Kr.seqR (by rfl) (fun K hK => ?_)
  refine wp_runV rfl newHz ?_
  obtain ⟨y4, hy⟩ : ∃ y, y3.alloc (.cells (zH.map w8).toArray 23) = y := ⟨_, rfl⟩
  obtain ⟨bh, hb⟩ : ∃ b, y3.heap.size = b := ⟨_, rfl⟩
  rw [hy, hb]
  have hg : Gr y3 y4 := hy ▸ (Gr.refl _).alloc _
  replace H := H.alloc hy hb
  clear hy hb hg
  (refine Kr.outS hK (a' := ?_) ?_ ?_; rotate_left; (focus ((try simp only [Kr.PT]); first | done | rfl))); clear hK K
  refine Kr.seqR (by rfl) (fun K hK => ?_)
  refine wp_run rfl (stH (H.at 0 rfl) h0 hA32 (oneCell_bytes _)) ?_
  obtain ⟨y5, hy⟩ : ∃ y, y4.setRow bh (A.map w8).toArray = y := ⟨_, rfl⟩
  rw [hy]
  replace H := H.put 0 hy rfl
  dsimp only [List.set] at H
  clear hy
  (refine Kr.outS hK (a' := ?_) ?_ ?_; rotate_left; (focus ((try simp only [Kr.PT]); first | done | rfl))); clear hK K
  refine Kr.seqDoneW ?_
  go_upto_region 4 with fail
  refine Kr.startL (fun W' => True) [6] (by kernel_rfl) ?_
  have gd : Gr y5 y5.drew := (Gr.refl _).drew
  generalize y5.drew = d6 at gd ⊢
  replace H := H.grow gd
  clear gd
  (refine Kr.tPQ 0 (v := .slice (some ⟨bh, 0, none⟩) 32 32) (a' := ?_) rfl (by kernel_rfl) (fun _ _ _ h => h) (by rfl) (fun _ => trivial) (fun wx => ?_) ?_ ?_; rotate_left 1; (focus (exact Kr.valOf rfl (slH))); (focus ((try simp only [Kr.PT]); first | done | rfl)))
  (refine Kr.tPQ 1 (v := .slice (some ⟨bh, 0, none⟩) 32 32) (a' := ?_) rfl (by kernel_rfl) (fun _ _ _ h => h) (by rfl) (fun _ => trivial) (fun wx => ?_) ?_ ?_; rotate_left 1; (focus (exact Kr.valOf rfl (slH))); (focus ((try simp only [Kr.PT]); first | done | rfl)))
  (refine Kr.tPQ 2 (v := ?_) (a' := ?_) rfl (by kernel_rfl) (fun _ _ _ h => h) (by rfl) (fun _ => trivial) (fun wx => ?_) ?_ ?_; rotate_left 2; (focus (go_simp; first | done | rfl)); (focus ((try simp only [Kr.PT]); first | done | rfl)))
  refine Kr.readyL (rs := [3]) (by kernel_rfl) (by simp) ?_
  refine Kr.AllL.cons rfl (fun K hK => ?_) Kr.AllL.nil
  go_simp
  obtain ⟨y7, hy⟩ : ∃ y, d6.alloc (.cells #[.slice (some ⟨bh, 0, none⟩) 32 32, .slice (some ⟨bh, 0, none⟩) 32 32, .slice p n c] 46) = y := ⟨_, rfl⟩
  obtain ⟨bone, hbn⟩ : ∃ b, d6.heap.size = b := ⟨_, rfl⟩
  rw [hy, hbn]
  have hy2 : d6.alloc (.cells ([.slice (some ⟨bh, 0, none⟩) 32 32, .slice (some ⟨bh, 0, none⟩) 32 32, .slice p n c] : List Value).toArray 46) = y7 := hy
  have hg : Gr d6 y7 := hy ▸ (Gr.refl _).alloc _
  have HLIT := Lib.hid (hbn ▸ hy2 ▸ lit_src (W := d6) (T := 46) [.slice (some ⟨bh, 0, none⟩) 32 32, .slice (some ⟨bh, 0, none⟩) 32 32, .slice p n c]); clear hy2
  replace H := H.grow hg
  clear hg hy hbn
  (refine Kr.outL hK (a' := ?_) ?_ (fun _ => trivial) ?_; rotate_left; (focus ((try simp only [Kr.PT]); first | done | rfl))); clear hK K
  refine Kr.readyL (rs := [4]) (by kernel_rfl) (by simp) ?_
  refine Kr.AllL.cons rfl (fun K hK => ?_) Kr.AllL.nil
  go_simp
  go_at_call 39
  have hbh := bytesAt_row (H.at 0 rfl)
  have hps : ∀ x ∈ [((.slice (some ⟨bh, 0, none⟩) 32 32 : Value), A), (.slice (some ⟨bh, 0, none⟩) 32 32, A), (.slice p n c, l)], Part y7 x := by
    intro x hx
    simp only [List.mem_cons, List.not_mem_nil, or_false] at hx
    rcases hx with rfl | rfl | rfl
    · exact ⟨_, _, _, rfl, hAl, (fun e => by cases e), .inr ⟨bh, 0, rfl, hbh⟩⟩
    · exact ⟨_, _, _, rfl, hAl, (fun e => by cases e), .inr ⟨bh, 0, rfl, hbh⟩⟩
    · exact ⟨_, _, _, rfl, hl, hp, HS.out.grow H.g⟩
  have hfl : (flat [((.slice (some ⟨bh, 0, none⟩) 32 32 : Value), A), (.slice (some ⟨bh, 0, none⟩) 32 32, A), (.slice p n c, l)]) = A ++ (A ++ l) := by simp [flat]
  have hfn : (A ++ (A ++ l)).length = 64 + n := by simp [hAl, hl]; omega
  have hP := Concat_v (c := 3) HLIT.out hps (by show 3 ≤ 1000000; decide) (by rw [hfl, hfn]; omega); rw [hfl, hfn] at hP
  refine hP.mono ?_; clear hP hps hfl hbh HLIT
  rintro e y8 ⟨p5, c5, rfl, hc5, hp5, hs5, hg⟩
  have HS5 := Lib.hid hs5; have HC5 := Lib.hid hc5; clear hs5 hc5 hp5
  replace H := H.grow hg
  clear hg
  (refine Kr.outL hK (a' := ?_) ?_ (fun _ => trivial) ?_; rotate_left; (focus ((try simp only [Kr.PT]); first | done | rfl))); clear hK K
  refine Kr.readyL (rs := [5]) (by kernel_rfl) (by simp) ?_
  refine Kr.AllL.cons rfl (fun K hK => ?_) Kr.AllL.nil
  go_simp
  go_at_call 38
  have hP := Sum_v (HS5.out) (hfn) (HC5.out) (by omega) (HCN.out.grow H.g) (HT0.out.grow H.g); rw [HRR.out] at hP
  refine (hP).mono ?_
  rintro e y9 ⟨rfl, hg⟩
  replace H := H.grow hg
  clear hg
  clear hP
  (refine Kr.outL hK (a' := ?_) ?_ (fun _ => trivial) ?_; rotate_left; (focus ((try simp only [Kr.PT]); first | done | rfl))); clear hK K
  refine Kr.readyL (rs := [6]) (by kernel_rfl) (by simp) ?_
  refine Kr.AllL.cons rfl (fun K hK => ?_) Kr.AllL.nil
  rw [if_pos (by rfl)]
  refine wp_run rfl (stH (H.at 1 rfl) h0 hR32 (oneCell_bytes _)) ?_
  obtain ⟨y10, hy⟩ : ∃ y, y9.setRow br (R.map w8).toArray = y := ⟨_, rfl⟩
  rw [hy]
  replace H := H.put 1 hy rfl
  dsimp only [List.set] at H
  clear hy
  (refine Kr.outL hK (a' := ?_) ?_ (Kr.noStill (by kernel_rfl)) ?_; rotate_left; (focus ((try simp only [Kr.PT]); first | done | rfl))); clear hK K
  (refine Kr.tPQ 7 (v := ?_) (a' := ?_) rfl (by kernel_rfl) (fun _ _ _ h => h) (by rfl) (Kr.noStill (by kernel_rfl)) (fun wx => ?_) ?_ ?_; rotate_left 2; (focus (go_simp; first | done | rfl)); (focus ((try simp only [Kr.PT]); first | done | rfl)))
  refine Kr.doneL (by kernel_rfl) ?_ _
  go_wp2
  refine bodyPost_ret (v := .tuple #[.agg (R.map w8).toArray, .int .i64 0]) (results_row_tmp rfl _ _ br 23 _ _ _ (by rfl) (H.at 1 rfl) Tryd.underlying23 rfl (by rw [List.size_toArray, hR32]; exact infoH) (by rfl)) rfl ⟨rfl, H.g⟩
end Go.Proofs.YtldgjhmefaapeaaDoor.Dg


/- The reference's Tag, Join, Tagged. -/
namespace Go.Proofs.YtldgjhmefaapeaaDoor.Dg
open Go Go.RowKit Go.Proofs.YtldgjhmefaapeaaDoor.Ne Go.Proofs.YtldgjhmefaapeaaDoor.Kr

set_option linter.unusedSimpArgs false in
set_option maxRecDepth 100000 in
set_option maxHeartbeats 16000000 in
theorem Join_v {p : Option Addr} {n c : Nat} {l h : List (BitVec 8)} {w : World} (hS : SrcB p l w) (hl : l.length = n) (hp : p = none → c = 0) (hn : n ≤ 1000000) (hh : h.length = 32) :
    Calls Tryd.prog 35 #[.slice p n c, .agg (h.map w8).toArray] w fun e w' => ∃ q c2, e = .returned (.slice q (n + 32) c2) ∧ n + 32 ≤ c2 ∧ (q = none → c2 = 0) ∧ SrcB q (l ++ h) w' ∧ RowG 5 w.heap.size (.slice q (n + 32) c2) ((l ++ h).map w8) w' ∧ Gr w w' := by
  have HS := Lib.hid hS; clear hS
  have hh32 : (h.map w8).length = 32 := by rw [List.length_map]; exact hh
  have H := Ow.start w
  go_enter Tryd.func35, Tryd.ntmps35
  go_upto_region 0 with fail
  refine Kr.seqStartW ?_
  refine Kr.seqR (by rfl) (fun K hK => ?_)
  refine wp_runV rfl boxH ?_
  obtain ⟨y1, hy⟩ : ∃ y, w.alloc (.cells (h.map w8).toArray 23) = y := ⟨_, rfl⟩
  obtain ⟨ba, hb⟩ : ∃ b, w.heap.size = b := ⟨_, rfl⟩
  rw [hy, hb]
  have hg : Gr w y1 := hy ▸ (Gr.refl _).alloc _
  replace H := H.alloc hy hb
  clear hy hb hg
  (refine Kr.outS hK (a' := ?_) ?_ ?_; rotate_left; (focus ((try simp only [Kr.PT]); first | done | rfl))); clear hK K
  (refine Kr.seqQ (v := ?_) (a' := ?_) (by rfl) ?_ ?_ ?_; rotate_left 2; (focus (go_simp; first | done | rfl)); (focus ((try simp only [Kr.PT]); first | done | rfl)))
  refine Kr.seqDoneW ?_
  go_upto_region 1 with fail
  refine Kr.seqStartW ?_
  refine Kr.seqR (by rfl) (fun K hK => ?_)
  go_simp
  obtain ⟨y2, hy⟩ : ∃ y, y1.alloc (.cells #[] 5) = y := ⟨_, rfl⟩
  obtain ⟨bnew, hbn⟩ : ∃ b, y1.heap.size = b := ⟨_, rfl⟩
  have hnew := row_new2 H hy hbn; rw [hy, hbn]
  have hg : Gr y1 y2 := hy ▸ (Gr.refl _).alloc _
  obtain ⟨hR, HA⟩ := hnew; have HR := Lib.hid hR; clear hR
  replace H := H.grow hg
  clear hg hy hbn
  (refine Kr.outS hK (a' := ?_) ?_ ?_; rotate_left; (focus ((try simp only [Kr.PT]); first | done | rfl))); clear hK K
  (refine Kr.seqQ (v := ?_) (a' := ?_) (by rfl) ?_ ?_ ?_; rotate_left 2; (focus (go_simp; first | done | rfl)); (focus ((try simp only [Kr.PT]); first | done | rfl)))
  refine Kr.seqR (by rfl) (fun K hK => ?_)
  refine wp_appG (T := 5) (TS := 46) Tryd.underlying46 info8 rfl (.tmp 7) (.tmp 8) rfl (v := .slice (some ⟨bnew, 0, none⟩) 0 0) (r := []) (d := (l.map w8)) (p := p) (m := n) (c := c) (rs := [(ba, 23, h.map w8)]) rfl rfl (by rw [List.length_map]; exact hl) ((HS.out.grow H.g).srcG) (one_lit8 l) (hp) H HR.out HA (by show 0 + n ≤ _; omega) (by decide) ?_
  intro v1 y3 H3 hR3 hA3
  clear H HR HA ; have H := H3; have HR := Lib.hid hR3; have HA := hA3; clear H3 hR3 hA3
  (refine Kr.outS hK (a' := ?_) ?_ ?_; rotate_left; (focus ((try simp only [Kr.PT]); first | done | rfl))); clear hK K
  (refine Kr.seqQ (v := ?_) (a' := ?_) (by rfl) ?_ ?_ ?_; rotate_left 2; (focus (go_simp; first | done | rfl)); (focus ((try simp only [Kr.PT]); first | done | rfl)))
  refine Kr.seqDoneW ?_
  go_upto_region 2 with fail
  refine Kr.seqStartW ?_
  (refine Kr.seqQ (v := ?_) (a' := ?_) (by rfl) ?_ ?_ ?_; rotate_left 2; (focus (go_simp; first | done | rfl)); (focus ((try simp only [Kr.PT]); first | done | rfl)))
  refine Kr.seqDoneW ?_
  rw [List.nil_append] at HR
  have H2 := Lib.hid H; clear H
  go_wp2_with fail
  go_loopw [5, 6] (fun v iv wr => ∃ (j : Nat), j ≤ 32 ∧ iv = .int .i64 (j : Int) ∧ Hid (RowG 5 w.heap.size v ((l ++ h.take j).map w8) wr) ∧ Hid (Apt v [(ba, 23, h.map w8)]) ∧ Hid (Ow w wr [(ba, 23, h.map w8)])) (fun _ iv _ => (32 - (intOf iv).toNat))
  case atStart => exact ⟨0, by decide, rfl, (by rw [List.take_zero, List.append_nil]; exact HR), Lib.hid HA, H2⟩
  case round =>
    clear H2 HR HA; obtain ⟨j, hj, rfl, HR, HA, HH⟩ := hrel; have H := HH.out; replace HA := HA.out; clear HH
    by_cases hje : j = 32
    · have HC : decide ((j : Int) < 32) = false := decide_eq_false (by omega)
      rw [show h.take j = h from List.take_of_length_le (by omega)] at HR
      clear hje
      obtain ⟨q, c2, rfl, hc, hpn, hsrc⟩ := HR.out.src
      rw [List.length_map, List.length_append, hl, hh] at hc HR ⊢
      have HSRC := Lib.hid (srcB_of hsrc); have HPN := Lib.hid hpn; clear hsrc HA hpn
      go_upto_region 3 with fail
      refine Kr.seqStartW ?_
      (refine Kr.seqQ (v := ?_) (a' := ?_) (by rfl) ?_ ?_ ?_; rotate_left 2; (focus (go_simp; first | done | rfl)); (focus ((try simp only [Kr.PT]); first | done | rfl)))
      (refine Kr.seqQ (v := .bool false) (a' := ?_) (by rfl) ?_ ?_ ?_; rotate_left 1; (focus (exact Kr.valOf rfl (lssT HC))); (focus ((try simp only [Kr.PT]); first | done | rfl)))
      refine Kr.seqDoneW ?_
      go_upto_region 6 with fail
      refine Kr.seqStartW ?_
      (refine Kr.seqQ (v := ?_) (a' := ?_) (by rfl) ?_ ?_ ?_; rotate_left 2; (focus (go_simp; first | done | rfl)); (focus ((try simp only [Kr.PT]); first | done | rfl)))
      (refine Kr.seqQ (v := ?_) (a' := ?_) (by rfl) ?_ ?_ ?_; rotate_left 2; (focus (go_simp; first | done | rfl)); (focus ((try simp only [Kr.PT]); first | done | rfl)))
      refine Kr.seqDoneW ?_
      have hk := trivial
      go_wp2
      refine bodyPost_ret (v := .slice q (n + 32) c2) (by simp [results, Tryd.results35, go_sem, hk]) rfl ⟨q, c2, rfl, hc, HPN.out, HSRC.out, HR.out, H.g⟩
    · have hjl : j < 32 := by omega
      have HC : decide ((j : Int) < 32) = true := decide_eq_true (by omega)
      obtain ⟨x, hx⟩ : ∃ x, h[j]? = some x := ⟨_, List.getElem?_eq_getElem (by omega)⟩
      have htk : (l ++ h.take (j + 1)).map w8 = (l ++ h.take j).map w8 ++ [w8 x] := by rw [List.take_add_one, hx, ← List.append_assoc, List.map_append (l₁ := l ++ h.take j)]; rfl
      have hln : ((l ++ h.take j).map w8).length = n + j := by rw [List.length_map, List.length_append, List.length_take, hl, hh]; omega
      go_upto_region 3 with fail
      refine Kr.seqStartW ?_
      (refine Kr.seqQ (v := ?_) (a' := ?_) (by rfl) ?_ ?_ ?_; rotate_left 2; (focus (go_simp; first | done | rfl)); (focus ((try simp only [Kr.PT]); first | done | rfl)))
      (refine Kr.seqQ (v := .bool true) (a' := ?_) (by rfl) ?_ ?_ ?_; rotate_left 1; (focus (exact Kr.valOf rfl (lssT HC))); (focus ((try simp only [Kr.PT]); first | done | rfl)))
      refine Kr.seqDoneW ?_
      go_upto_region 5 with fail
      refine Kr.seqStartW ?_
      (refine Kr.seqQ (v := ?_) (a' := ?_) (by rfl) ?_ ?_ ?_; rotate_left 2; (focus (go_simp; first | done | rfl)); (focus ((try simp only [Kr.PT]); first | done | rfl)))
      (refine Kr.seqQ (v := ?_) (a' := ?_) (by rfl) ?_ ?_ ?_; rotate_left 2; (focus (go_simp; first | done | rfl)); (focus ((try simp only [Kr.PT]); first | done | rfl)))
      (refine Kr.seqQ (v := .pointer (some ⟨ba, j, none⟩)) (a' := ?_) (by rfl) ?_ ?_ ?_; rotate_left 1; (focus (exact Kr.valOf rfl (ixH hjl))); (focus ((try simp only [Kr.PT]); first | done | rfl)))
      (refine Kr.seqQ (v := .int .u8 ((x).toNat : Int)) (a' := ?_) (by rfl) ?_ ?_ ?_; rotate_left 1; (focus (exact Kr.valOf rfl (ldE8 (rowCell (H.at 0 rfl) (map_get8 hx))))); (focus ((try simp only [Kr.PT]); first | done | rfl)))
      refine Kr.seqR (by rfl) (fun K hK => ?_)
      go_simp
      obtain ⟨y4, hy⟩ : ∃ y, wr.alloc (.cells #[.int .u8 ((x).toNat : Int)] 5) = y := ⟨_, rfl⟩
      obtain ⟨bone, hbn⟩ : ∃ b, wr.heap.size = b := ⟨_, rfl⟩
      rw [hy, hbn]
      have hy2 : wr.alloc (.cells ([.int .u8 ((x).toNat : Int)] : List Value).toArray 5) = y4 := hy
      have hg : Gr wr y4 := hy ▸ (Gr.refl _).alloc _
      have HLIT := Lib.hid (hbn ▸ hy2 ▸ lit_src (W := wr) (T := 5) [.int .u8 ((x).toNat : Int)]); clear hy2
      replace H := H.grow hg
      replace HR := Lib.hid (HR.out.grow hg)
      clear hg hy hbn
      (refine Kr.outS hK (a' := ?_) ?_ ?_; rotate_left; (focus ((try simp only [Kr.PT]); first | done | rfl))); clear hK K
      refine Kr.seqR (by rfl) (fun K hK => ?_)
      refine wp_appG (T := 5) (TS := 46) Tryd.underlying46 info8 rfl (.tmp 14) (.tmp 18) rfl (v := u5) (r := ((l ++ h.take j).map w8)) (d := [w8 x]) (p := (some ⟨bone, 0, none⟩)) (m := 1) (c := 1) (rs := [(ba, 23, h.map w8)]) rfl rfl (rfl) (HLIT.out) (one_lit8 [x]) (fun e => by cases e) H HR.out HA (by rw [hln]; omega) (by decide) ?_
      intro v1 y5 H3 hR3 hA3
      clear H HR HA HLIT; have H := H3; have HR := Lib.hid hR3; have HA := hA3; clear H3 hR3 hA3
      (refine Kr.outS hK (a' := ?_) ?_ ?_; rotate_left; (focus ((try simp only [Kr.PT]); first | done | rfl))); clear hK K
      (refine Kr.seqQ (v := ?_) (a' := ?_) (by rfl) ?_ ?_ ?_; rotate_left 2; (focus (go_simp; first | done | rfl)); (focus ((try simp only [Kr.PT]); first | done | rfl)))
      refine Kr.seqDoneW ?_
      rw [← htk] at HR
      have HADD : IntKind.i64.wrap ((j : Int) + 1) = ((j + 1 : Nat) : Int) := wrap_nat (by omega) (by omega)
      go_upto_region 4 with fail
      refine Kr.seqStartW ?_
      (refine Kr.seqQ (v := ?_) (a' := ?_) (by rfl) ?_ ?_ ?_; rotate_left 2; (focus (go_simp; first | done | rfl)); (focus ((try simp only [Kr.PT]); first | done | rfl)))
      (refine Kr.seqQ (v := .int .i64 ((j + 1 : Nat) : Int)) (a' := ?_) (by rfl) ?_ ?_ ?_; rotate_left 1; (focus (exact Kr.valOf rfl (addI HADD))); (focus ((try simp only [Kr.PT]); first | done | rfl)))
      (refine Kr.seqQ (v := ?_) (a' := ?_) (by rfl) ?_ ?_ ?_; rotate_left 2; (focus (go_simp; first | done | rfl)); (focus ((try simp only [Kr.PT]); first | done | rfl)))
      refine Kr.seqDoneW ?_
      go_wp2; go_roundw
      case rel => exact ⟨j + 1, by omega, rfl, HR, Lib.hid HA, Lib.hid H⟩
      case measure => simp [intOf]; omega
theorem apt_rowG {w W W' : World} {T : TypeId} {rs : List Blk} {v : Value} {xs : List Value} (H : Ow w W rs) (h : RowG T W.heap.size v xs W') : Apt v rs := fun k hk x hx e => by
  have h1 := (h.lt k hk).1
  have h2 := H.lt hx
  omega
set_option linter.unusedSimpArgs false in
set_option maxRecDepth 100000 in
set_option maxHeartbeats 16000000 in
theorem rTagged_v {t : ByteArray} {p : Option Addr} {n c : Nat} {l : List (BitVec 8)} {w : World} (ht2 : t.size ≤ 100) (hS : SrcB p l w) (hl : l.length = n) (hp : p = none → c = 0) (hn : n ≤ 100000) :
    Calls Tryd.prog 20 #[.string t, .slice p n c] w fun e w' => e = .returned (.agg ((tg t l).map w8).toArray) ∧ Gr w w' := by
  have h0 : (zH.map w8).length = 32 := rfl
  have HS := Lib.hid hS; clear hS
  obtain ⟨A, hA⟩ : ∃ z, sha (s8 t) = z := ⟨_, rfl⟩; obtain ⟨R, hR⟩ : ∃ z, tg t l = z := ⟨_, rfl⟩
  have hAl : A.length = 32 := by rw [← hA]; exact sha_length _
  have hRl : R.length = 32 := by rw [← hR]; exact sha_length _
  have hR2 : sha ([] ++ A ++ A ++ l) = R := by rw [← hR, ← hA, List.nil_append, List.append_assoc]; rfl
  rw [hR]; have HRR := Lib.hid hR2; have HAA := Lib.hid hA; clear hR hR2 hA
  have hA32 : (A.map w8).length = 32 := by rw [List.length_map]; exact hAl
  have hR32 : (R.map w8).length = 32 := by rw [List.length_map]; exact hRl
  have H := Ow.start w
  go_enter Tryd.func20, Tryd.ntmps20
  go_upto_region 0 with fail
  refine Kr.seqStartW ?_
  refine Kr.seqR (by rfl) (fun K hK => ?_)
  refine wp_runV rfl newHz ?_
  obtain ⟨y1, hy⟩ : ∃ y, w.alloc (.cells (zH.map w8).toArray 23) = y := ⟨_, rfl⟩
  obtain ⟨br, hb⟩ : ∃ b, w.heap.size = b := ⟨_, rfl⟩
  rw [hy, hb]
  have hg : Gr w y1 := hy ▸ (Gr.refl _).alloc _
  replace H := H.alloc hy hb
  clear hy hb hg
  (refine Kr.outS hK (a' := ?_) ?_ ?_; rotate_left; (focus ((try simp only [Kr.PT]); first | done | rfl))); clear hK K
  refine Kr.seqDoneW ?_
  go_upto_region 1 with fail
  refine Kr.seqStartW ?_
  (refine Kr.seqQ (v := ?_) (a' := ?_) (by rfl) ?_ ?_ ?_; rotate_left 2; (focus (go_simp; first | done | rfl)); (focus ((try simp only [Kr.PT]); first | done | rfl)))
  refine Kr.seqR (by rfl) (fun K hK => ?_)
  obtain ⟨cap, y2, bs, hbk, hrun, hcp, hba, hgr⟩ := conv_str y1 t
  refine wp_runV rfl hrun ?_
  have HB := Lib.hid hba; have HBc := Lib.hid hcp; clear hrun hbk hba hcp
  replace H := H.grow hgr
  clear hgr
  (refine Kr.outS hK (a' := ?_) ?_ ?_; rotate_left; (focus ((try simp only [Kr.PT]); first | done | rfl))); clear hK K
  refine Kr.seqR (by rfl) (fun K hK => ?_)
  go_simp
  go_at_call 34
  have hP := rSum_v (c := cap) (.inr ⟨bs, 0, rfl, HB.out⟩) (s8_length t) (fun e => by cases e) (by omega); rw [HAA.out] at hP
  refine (hP).mono ?_
  rintro e y3 ⟨rfl, hg⟩
  replace H := H.grow hg
  clear hg
  clear hP
  (refine Kr.outS hK (a' := ?_) ?_ ?_; rotate_left; (focus ((try simp only [Kr.PT]); first | done | rfl))); clear hK K
  refine Kr.seqR (by rfl) (fun K hK => ?_)
  refine wp_runV rfl newHz ?_
  obtain ⟨y4, hy⟩ : ∃ y, y3.alloc (.cells (zH.map w8).toArray 23) = y := ⟨_, rfl⟩
  obtain ⟨bh, hb⟩ : ∃ b, y3.heap.size = b := ⟨_, rfl⟩
  rw [hy, hb]
  have hg : Gr y3 y4 := hy ▸ (Gr.refl _).alloc _
  replace H := H.alloc hy hb
  clear hy hb hg
  (refine Kr.outS hK (a' := ?_) ?_ ?_; rotate_left; (focus ((try simp only [Kr.PT]); first | done | rfl))); clear hK K
  refine Kr.seqR (by rfl) (fun K hK => ?_)
  refine wp_run rfl (stH (H.at 0 rfl) h0 hA32 (oneCell_bytes _)) ?_
  obtain ⟨y5, hy⟩ : ∃ y, y4.setRow bh (A.map w8).toArray = y := ⟨_, rfl⟩
  rw [hy]
  replace H := H.put 0 hy rfl
  dsimp only [List.set] at H
  clear hy
  (refine Kr.outS hK (a' := ?_) ?_ ?_; rotate_left; (focus ((try simp only [Kr.PT]); first | done | rfl))); clear hK K
  refine Kr.seqDoneW ?_
  go_upto_region 2 with fail
  refine Kr.startL (fun W' => (W'.heap[bh]? = some (.cells (A.map w8).toArray 23 (0, 0))) ∧ True) [7] (by kernel_rfl) ?_
  have gd : Gr y5 y5.drew := (Gr.refl _).drew
  generalize y5.drew = d6 at gd ⊢
  replace H := H.grow gd
  clear gd
  (refine Kr.tSQ 0 [1, 3, 5, 6, 7] (v := .agg (A.map w8).toArray) (a' := ?_) rfl (by kernel_rfl) (fun _ _ _ h => h) (by rfl) ⟨(H.at 0 rfl), trivial⟩ (fun wx hSx => ?_) ?_ ?_; rotate_left 1; (focus (exact Kr.valOf rfl (ldH hSx.1 hA32))); (focus ((try simp only [Kr.PT]); first | done | rfl)))
  (refine Kr.tSQ 2 [3, 5, 6, 7] (v := .agg (A.map w8).toArray) (a' := ?_) rfl (by kernel_rfl) (fun _ _ _ h => h) (by rfl) ⟨(H.at 0 rfl), trivial⟩ (fun wx hSx => ?_) ?_ ?_; rotate_left 1; (focus (exact Kr.valOf rfl (ldH hSx.1 hA32))); (focus ((try simp only [Kr.PT]); first | done | rfl)))
  (refine Kr.tPQ 4 (v := ?_) (a' := ?_) rfl (by kernel_rfl) (fun _ _ _ h => h) (by rfl) (fun _ => ⟨(H.at 0 rfl), trivial⟩) (fun wx => ?_) ?_ ?_; rotate_left 2; (focus (go_simp; first | done | rfl)); (focus ((try simp only [Kr.PT]); first | done | rfl)))
  refine Kr.readyL (rs := [1]) (by kernel_rfl) (by simp) ?_
  refine Kr.AllL.cons rfl (fun K hK => ?_) Kr.AllL.nil
  go_simp
  go_at_call 35
  have hP := Join_v (p := none) (n := 0) (c := 0) (l := []) (h := A) (w := d6) (.inl rfl) rfl (fun _ => rfl) (by decide) hAl
  refine hP.mono ?_; clear hP
  rintro e y7 ⟨q1, c1, rfl, hc1, hp1, hs1, hr1, hg⟩
  have HJ1 := Lib.hid hs1; have HJ1p := Lib.hid hp1; have hJ1 : ([] ++ A).length = 0 + 32 := by rw [List.nil_append, hAl]
  clear hs1 hp1 hr1 hc1
  replace H := H.grow hg
  clear hg
  (refine Kr.outL hK (a' := ?_) ?_ (fun _ => ⟨(H.at 0 rfl), trivial⟩) ?_; rotate_left; (focus ((try simp only [Kr.PT]); first | done | rfl))); clear hK K
  refine Kr.readyL (rs := [3]) (by kernel_rfl) (by simp) ?_
  refine Kr.AllL.cons rfl (fun K hK => ?_) Kr.AllL.nil
  go_simp
  go_at_call 35
  have hP := Join_v (c := c1) (h := A) (w := y7) HJ1.out hJ1 HJ1p.out (by decide) hAl
  refine hP.mono ?_; clear hP
  rintro e y8 ⟨q2, c2, rfl, hc2, hp2, hs2, hr2, hg⟩
  have HR := Lib.hid (show RowG 5 w.heap.size (.slice q2 (0 + 32 + 32) c2) (([] ++ A ++ A).map w8) y8 from rowG_low H.g.le hr2)
  have HA := apt_rowG H hr2
  clear hs2 hp2 hr2 hc2 HJ1 HJ1p hJ1
  replace H := H.grow hg
  clear hg
  (refine Kr.outL hK (a' := ?_) ?_ (fun _ => ⟨(H.at 0 rfl), trivial⟩) ?_; rotate_left; (focus ((try simp only [Kr.PT]); first | done | rfl))); clear hK K
  refine Kr.readyL (rs := [5]) (by kernel_rfl) (by simp) ?_
  refine Kr.AllL.cons rfl (fun K hK => ?_) Kr.AllL.nil
  rw [if_pos (by rfl)]
  refine wp_appG (T := 5) (TS := 46) Tryd.underlying46 info8 rfl (.tmp 12) (.tmp 13) rfl (v := .slice q2 (0 + 32 + 32) c2) (r := (([] ++ A ++ A).map w8)) (d := (l.map w8)) (p := p) (m := n) (c := c) (rs := [(bh, 23, A.map w8), (br, 23, zH.map w8)]) rfl rfl (by rw [List.length_map]; exact hl) ((HS.out.grow H.g).srcG) (one_lit8 l) (hp) H HR.out HA (by simp [hAl]; omega) (by decide) ?_
  intro v1 y9 H3 hR3 hA3
  clear H HR HA ; have H := H3; have HR := Lib.hid hR3; have HA := hA3; clear H3 hR3 hA3
  (refine Kr.outL hK (a' := ?_) ?_ (fun _ => ⟨(H.at 0 rfl), trivial⟩) ?_; rotate_left; (focus ((try simp only [Kr.PT]); first | done | rfl))); clear hK K
  refine Kr.readyL (rs := [6]) (by kernel_rfl) (by simp) ?_
  refine Kr.AllL.cons rfl (fun K hK => ?_) Kr.AllL.nil
  go_simp
  go_at_call 34
  obtain ⟨q3, c3, rfl, hc3, hp3, hs3⟩ := HR.out.src
  rw [← List.map_append] at hs3 hc3 ⊢; have hln : ([] ++ A ++ A ++ l).length = 64 + n := by simp [hAl, hl]; omega
  rw [List.length_map, hln] at hc3 ⊢
  have hP := rSum_v (c := c3) (w := y9) (srcB_of hs3) hln hp3 (by omega); rw [HRR.out] at hP
  clear hs3 hp3 hc3 HR HA
  refine (hP).mono ?_
  rintro e y10 ⟨rfl, hg⟩
  replace H := H.grow hg
  clear hg
  clear hP
  (refine Kr.outL hK (a' := ?_) ?_ (fun _ => ⟨(H.at 0 rfl), trivial⟩) ?_; rotate_left; (focus ((try simp only [Kr.PT]); first | done | rfl))); clear hK K
  refine Kr.readyL (rs := [7]) (by kernel_rfl) (by simp) ?_
  refine Kr.AllL.cons rfl (fun K hK => ?_) Kr.AllL.nil
  rw [if_pos (by rfl)]
  refine wp_run rfl (stH (H.at 1 rfl) h0 hR32 (oneCell_bytes _)) ?_
  obtain ⟨y11, hy⟩ : ∃ y, y10.setRow br (R.map w8).toArray = y := ⟨_, rfl⟩
  rw [hy]
  replace H := H.put 1 hy rfl
  dsimp only [List.set] at H
  clear hy
  (refine Kr.outL hK (a' := ?_) ?_ (Kr.noStill (by kernel_rfl)) ?_; rotate_left; (focus ((try simp only [Kr.PT]); first | done | rfl))); clear hK K
  refine Kr.doneL (by kernel_rfl) ?_ _
  go_wp2
  refine bodyPost_ret (v := .agg (R.map w8).toArray) (results_cell_row rfl _ _ br 23 _ _ _ (by rfl) (H.at 1 rfl) Tryd.underlying23 rfl (by rw [List.size_toArray, hR32]; exact infoH)) rfl ⟨rfl, H.g⟩
end Go.Proofs.YtldgjhmefaapeaaDoor.Dg


/- Expand. -/
namespace Go.Proofs.YtldgjhmefaapeaaDoor.Dg
open Go Go.RowKit Go.Proofs.YtldgjhmefaapeaaDoor.Ne Go.Proofs.YtldgjhmefaapeaaDoor.Kr

theorem eqS {w : World} {a b : ByteArray} {c : Bool} (h : decide (a = b) = c) : (binOp .eql 9 (.string a) (.string b)).run Tryd.prog w = .ok (.bool c) w := by
  rw [← h]; exact run_eqlS _ _ _
theorem strB_dec {l k : List (BitVec 8)} {b : Bool} (h : decide (l = k) = b) : decide (strB l = strB k) = b := by
  rw [← h]
  exact decide_eq_decide.2 ⟨strB_inj, fun e => by rw [e]⟩
theorem apt_new {W : World} {T T2 : TypeId} {rs : List Blk} {v : Value} {xs l : List Value} {b B : Nat} (h : RowG T B v xs W) (HA : Apt v rs) (hb : W.heap.size = b) : Apt v ((b, T2, l) :: rs) := fun k hk x hx e => by
  rcases List.mem_cons.1 hx with rfl | hx
  · have := (h.lt k hk).2
    have e2 : b = k := e
    omega
  · exact HA k hk x hx e
theorem apt_tail {rs : List Blk} {v : Value} {x : Blk} (h : Apt v (x :: rs)) : Apt v rs := fun k hk y hy => h k hk y (List.mem_cons_of_mem _ hy)
theorem apt_set {rs : List Blk} {v : Value} {b : Nat} {T : TypeId} {l l2 : List Value} (h : Apt v rs) (i : Nat) (hi : rs[i]? = some (b, T, l)) : Apt v (rs.set i (b, T, l2)) := fun k hk y hy => by
  rcases List.mem_or_eq_of_mem_set hy with hy | rfl
  · exact h k hk y hy
  · exact h k hk (b, T, l) (List.mem_of_getElem? hi)
theorem rowG_putA {T T2 : TypeId} {rs : List Blk} {v : Value} {xs l : List Value} {b B : Nat} {W : World} {cs : Array Value} (h : RowG T B v xs W) (HA : Apt v rs) (i : Nat) (hi : rs[i]? = some (b, T2, l)) : RowG T B v xs (W.setRow b cs) := by
  obtain ⟨h1, h2 | ⟨g, cap, cur, e1, e2, e3, e4⟩⟩ := h
  · exact ⟨h1, .inl h2⟩
  · refine ⟨h1, .inr ⟨g, cap, cur, e1, e2, ?_, e4⟩⟩
    rw [setRow_other]
    · exact e3
    · intro e
      exact HA g (by rw [e1]; rfl) _ (List.mem_of_getElem? hi) e.symm
theorem rowG_ptr {T : TypeId} {B n c : Nat} {p : Option Addr} {xs : List Value} {W : World} (h : RowG T B (.slice p n c) xs W) : ∀ ad, p = some ad → ∃ g, ad = ⟨g, 0, none⟩ := fun ad e => by
  rcases h.2 with ⟨h1, _⟩ | ⟨g, cap, cur, h1, _⟩
  · cases h1; cases e
  · cases h1; exact ⟨g, (Option.some.inj e).symm⟩
def Shp (p : Option Addr) (n : Nat) : Prop := (p = none ∧ n = 0) ∨ ∃ g, p = some ⟨g, 0, none⟩
/-- The stream of a digest: so many blocks. -/
def stm (S : List (BitVec 8)) : Nat → List (BitVec 8)
  | 0 => []
  | i + 1 => stm S i ++ sha (S ++ be8 i)
theorem stm_length (S : List (BitVec 8)) : ∀ i, (stm S i).length = 32 * i
  | 0 => rfl
  | i + 1 => by rw [stm, List.length_append, stm_length S i, sha_length]; omega
theorem stm_take (S : List (BitVec 8)) {i : Nat} : ∀ {j : Nat}, i ≤ j → (stm S j).take (32 * i) = stm S i
  | 0, h => by
    obtain rfl : i = 0 := by omega
    rfl
  | j + 1, h => by
    rcases Nat.lt_or_ge j i with h1 | h1
    · obtain rfl : i = j + 1 := by omega
      exact List.take_of_length_le (by rw [stm_length]; exact Nat.le_refl _)
    · rw [stm, List.take_append_of_le_length (by rw [stm_length]; omega)]
      exact stm_take S h1
/-- The first n bytes of the stream. -/
def ex (S : List (BitVec 8)) (n : Nat) : List (BitVec 8) := (stm S ((n + 31) / 32)).take n
theorem ex_length (S : List (BitVec 8)) (n : Nat) : (ex S n).length = n := by rw [ex, List.length_take, stm_length]; omega
theorem stm_ex (S : List (BitVec 8)) {i n : Nat} (h : n ≤ 32 * i) : (stm S i).take n = ex S n := by
  have h1 : (n + 31) / 32 ≤ i := by omega
  rw [ex, ← stm_take S h1, List.take_take, Nat.min_eq_left (by omega)]
theorem ex_take (S : List (BitVec 8)) {k n : Nat} (h : k ≤ n) : (ex S n).take k = ex S k := by
  rw [ex, List.take_take, Nat.min_eq_left h, stm_ex S (by omega)]
theorem srcB_take {p : Option Addr} {l : List (BitVec 8)} {W : World} (h : SrcB p l W) (k : Nat) : SrcB p (l.take k) W := by
  rcases h with h | ⟨b, off, e, h⟩
  · exact .inl (by rw [h, List.take_nil])
  · refine .inr ⟨b, off, e, fun j x hx => h j x ?_⟩
    rw [List.getElem?_take] at hx
    split at hx
    · exact hx
    · cases hx
theorem slTo {w : World} {b off n c k : Nat} (h : k ≤ c) : (Instr.sliceAt 46 (.slice (some ⟨b, off, none⟩) n c) none (some (.int .i64 (k : Int))) none).run Tryd.prog w = .ok (.slice (some ⟨b, off, none⟩) k c) w := by
  have h5 : (k : Int) ≤ (c : Int) := by omega
  have h6 : (0 : Int) ≤ (k : Int) := by omega
  go_simp
theorem slTo0 {w : World} : (Instr.sliceAt 46 (.slice none 0 0) none (some (.int .i64 ((0 : Nat) : Int))) none).run Tryd.prog w = .ok (.slice none 0 0) w := by
  go_simp
theorem slTo3 {w : World} {b off n c k : Nat} (h : k ≤ c) : (Instr.sliceAt 46 (.slice (some ⟨b, off, none⟩) n c) none (some (.int .i64 (k : Int))) (some (.int .i64 (k : Int)))).run Tryd.prog w = .ok (.slice (some ⟨b, off, none⟩) k k) w := by
  have h5 : (k : Int) ≤ (c : Int) := by omega
  have h6 : (0 : Int) ≤ (k : Int) := by omega
  go_simp
theorem slTo30 {w : World} {m c n : Nat} (hm : m = 0) (hc : c = 0) (hn : n = 0) : (Instr.sliceAt 46 (.slice none m c) none (some (.int .i64 (n : Int))) (some (.int .i64 (n : Int)))).run Tryd.prog w = .ok (.slice none n n) w := by
  subst hm hc hn
  go_simp
theorem slToP {w : World} {p : Option Addr} {m c k : Nat} (h : Shp p c) (hk : k ≤ c) (hm : p = none → m = 0) : (Instr.sliceAt 46 (.slice p m c) none (some (.int .i64 (k : Int))) none).run Tryd.prog w = .ok (.slice p k c) w := by
  rcases h with ⟨rfl, rfl⟩ | ⟨g, rfl⟩
  · obtain rfl : k = 0 := by omega
    obtain rfl := hm rfl
    exact slTo0
  · exact slTo hk

end Go.Proofs.YtldgjhmefaapeaaDoor.Dg


/- slices.Clone at bytes. -/
namespace Go.Proofs.YtldgjhmefaapeaaDoor.Dg
open Go Go.RowKit Go.Proofs.YtldgjhmefaapeaaDoor.Ne Go.Proofs.YtldgjhmefaapeaaDoor.Kr

theorem xor8 {w : World} {x y z : BitVec 8} (hz : x ^^^ y = z) : (binOp .xor 5 (.int .u8 (x.toNat : Int)) (.int .u8 (y.toNat : Int))).run Tryd.prog w = .ok (.int .u8 (z.toNat : Int)) w := by
  have e : bits BinOp.xor IntKind.u8 (x.toNat : Int) (y.toNat : Int) = (z.toNat : Int) := by
    rw [u8_xor_nat _ _ x.isLt y.isLt, ← hz]; simp
  clear hz
  go_simp
theorem eqBool {w : World} {b : Bool} : (binOp .eql 4 (.bool b) (.bool b)).run Tryd.prog w = .ok (.bool true) w := by
  cases b <;> go_simp
theorem take_set8 {cur : List Value} {l : List (BitVec 8)} {n i : Nat} {z : BitVec 8} (h : cur.take n = l.map w8) : (cur.set i (.int .u8 (z.toNat : Int))).take n = (l.set i z).map w8 := by
  rw [List.take_set, h, List.map_set]; rfl
theorem cur_get {cur : List Value} {l : List (BitVec 8)} {n i : Nat} {x : BitVec 8} (h : cur.take n = l.map w8) (hi : i < n) (hx : l[i]? = some x) : cur[i]? = some (.int .u8 (x.toNat : Int)) := of_take h hi (map_get8 hx)
theorem notNil {w : World} {a : Addr} {n c : Nat} : (binOp .eql 46 (.slice (some a) n c) (.slice none 0 0)).run Tryd.prog w = .ok (.bool false) w := by
  kernel_rfl

end Go.Proofs.YtldgjhmefaapeaaDoor.Dg


/- The reference's digit. -/
namespace Go.Proofs.YtldgjhmefaapeaaDoor.Dg
open Go Go.RowKit Go.Proofs.YtldgjhmefaapeaaDoor.Ne Go.Proofs.YtldgjhmefaapeaaDoor.Kr

theorem geqB {w : World} {x y : Int} {b : Bool} (h : decide (y ≤ x) = b) : (binOp .geq 5 (.int .u8 x) (.int .u8 y)).run Tryd.prog w = .ok (.bool b) w := by
  go_simp
theorem leqB {w : World} {x y : Int} {b : Bool} (h : decide (x ≤ y) = b) : (binOp .leq 5 (.int .u8 x) (.int .u8 y)).run Tryd.prog w = .ok (.bool b) w := by
  go_simp
theorem lssB {w : World} {x y : Int} {b : Bool} (h : decide (x < y) = b) : (binOp .lss 5 (.int .u8 x) (.int .u8 y)).run Tryd.prog w = .ok (.bool b) w := by
  go_simp
theorem gtrB {w : World} {x y : Int} {b : Bool} (h : decide (y < x) = b) : (binOp .gtr 5 (.int .u8 x) (.int .u8 y)).run Tryd.prog w = .ok (.bool b) w := by
  go_simp
theorem subB {w : World} {x y z : Int} (h : x - y = z) (h1 : 0 ≤ z) (h2 : z < 256) : (binOp .sub 5 (.int .u8 x) (.int .u8 y)).run Tryd.prog w = .ok (.int .u8 z) w := by
  have e : IntKind.u8.wrap (x - y) = z := by rw [h, IntKind.wrap_u8']; omega
  clear h h1 h2
  go_simp
theorem cvB {w : World} {z : Int} (h1 : 0 ≤ z) (h2 : z < 256) : (convert 5 3 (.int .u8 z)).run Tryd.prog w = .ok (.int .i64 z) w := by
  have e : IntKind.i64.wrap z = z := IntWalk.i64_in _ (by omega)
  clear h1 h2
  go_simp
theorem mul16B {w : World} {x y : BitVec 8} (h : x * 16 = y) : (binOp .mul 5 (.int .u8 (x.toNat : Int)) (.int .u8 16)).run Tryd.prog w = .ok (.int .u8 (y.toNat : Int)) w := by
  have e : IntKind.u8.wrap ((x.toNat : Int) * 16) = (y.toNat : Int) := by
    rw [← h, IntKind.wrap_u8', BitVec.toNat_mul]; simp
  clear h
  go_simp
theorem addB {w : World} {x y z : BitVec 8} (h : x + y = z) : (binOp .add 5 (.int .u8 (x.toNat : Int)) (.int .u8 (y.toNat : Int))).run Tryd.prog w = .ok (.int .u8 (z.toNat : Int)) w := by
  have e : IntKind.u8.wrap ((x.toNat : Int) + (y.toNat : Int)) = (z.toNat : Int) := by
    rw [← h, IntKind.wrap_u8', BitVec.toNat_add]; simp
  clear h
  go_simp
theorem quoB16 {w : World} {x : BitVec 8} {q : Nat} (h : x.toNat / 16 = q) : (binOp .quo 5 (.int .u8 (x.toNat : Int)) (.int .u8 16)).run Tryd.prog w = .ok (.int .u8 (q : Int)) w := by
  have e : IntKind.u8.wrap ((x.toNat : Int) / 16) = (q : Int) := by
    rw [IntKind.wrap_u8']
    have := x.isLt
    omega
  clear h
  go_simp
theorem remB16 {w : World} {x : BitVec 8} {q : Nat} (h : x.toNat % 16 = q) : (binOp .rem 5 (.int .u8 (x.toNat : Int)) (.int .u8 16)).run Tryd.prog w = .ok (.int .u8 (q : Int)) w := by
  have e : (x.toNat : Int).tmod 16 = (q : Int) := by
    rw [Int.tmod_eq_emod_of_nonneg (by omega)]
    omega
  clear h
  go_simp
theorem neqS {w : World} {a b : ByteArray} {c : Bool} (h : (!decide (a = b)) = c) : (binOp .neq 9 (.string a) (.string b)).run Tryd.prog w = .ok (.bool c) w := by
  have h1 := run_eqlS (P := Tryd.prog) (w := w) 9 a b
  rw [binOp_string_eql, Sem.run_pure] at h1
  rw [binOp_string_neq, Sem.run_pure, ← h]
  injection h1 with h1 _
  injection h1 with h1
  rw [h1]
set_option maxRecDepth 100000 in
theorem neqH {w : World} {la lb : List (BitVec 8)} {b : Bool} (ha : la.length = 32) (hb : lb.length = 32) (h : (!decide (la = lb)) = b) : (binOp .neq 23 (.agg (la.map w8).toArray) (.agg (lb.map w8).toArray)).run Tryd.prog w = .ok (.bool b) w := by
  have hi : ∃ i, Tryd.prog.info? 5 = some i := ⟨_, rfl⟩
  obtain ⟨i, hi⟩ := hi
  have hr := run_equalIn_array (P := Tryd.prog) w 9999 (la.map w8).toArray (lb.map w8).toArray Tryd.underlying23 hi
  have hc : Tryd.prog.cellsOf 5 = 1 := by kernel_rfl
  rw [hc, List.range_eq_range', eqItems8 32 0 (by omega) (by omega), List.drop_zero, List.drop_zero] at hr
  rw [run_neq_struct, hr, ← h]
  rfl

end Go.Proofs.YtldgjhmefaapeaaDoor.Dg


/- Items. -/
namespace Go.Proofs.YtldgjhmefaapeaaDoor.Dg
open Go Go.RowKit Go.Proofs.YtldgjhmefaapeaaDoor.Ne Go.Proofs.YtldgjhmefaapeaaDoor.Kr

/-- An item as a tree. -/
inductive It where
  | mk : Int → Int → List (BitVec 8) → List It → It
def It.k : It → Int | .mk k _ _ _ => k
def It.n : It → Int | .mk _ n _ _ => n
def It.b : It → List (BitVec 8) | .mk _ _ b _ => b
def It.l : It → List It | .mk _ _ _ l => l
def InR (n : Int) : Prop := -9223372036854775808 ≤ n ∧ n < 9223372036854775808
/-- The value reads as this item, to this depth, over these blocks. -/
def ItV (W : World) : Nat → (Nat → Prop) → Value → It → Prop
  | 0, _, _, _ => False
  | d + 1, F, v, t => ∃ (pb : Option Addr) (cb : Nat) (pl : Option Addr) (cl : Nat),
      v = .agg #[.int .i64 t.k, .int .i64 t.n, .slice pb t.b.length cb, .slice pl t.l.length cl] ∧ InR t.k ∧ InR t.n ∧
      (pb = none → cb = 0) ∧ t.b.length ≤ cb ∧ t.b.length ≤ 4611686018427387904 ∧ t.l.length ≤ 4611686018427387904 ∧
      (t.b = [] ∨ ∃ b off, pb = some ⟨b, off, none⟩ ∧ F b ∧ BytesAt b off t.b W) ∧
      ∀ (j : Nat) (x : It), t.l[j]? = some x → ∃ (b off : Nat) (v0 v1 v2 v3 : Value), pl = some ⟨b, off, none⟩ ∧ F b ∧ W.cell? ⟨b, off + j * 4, none⟩ = some v0 ∧ W.cell? ⟨b, off + j * 4 + 1, none⟩ = some v1 ∧ W.cell? ⟨b, off + j * 4 + 2, none⟩ = some v2 ∧ W.cell? ⟨b, off + j * 4 + 3, none⟩ = some v3 ∧ ItV W d F (.agg #[v0, v1, v2, v3]) x
theorem ItV.grow {W W' : World} (g : Gr W W') {F : Nat → Prop} : ∀ {d : Nat} {v : Value} {t : It}, ItV W d F v t → ItV W' d F v t
  | 0, _, _, h => h
  | _ + 1, _, _, ⟨pb, cb, pl, cl, e, h1, h2, h3, h4, h5, h6, hb, hl⟩ =>
    ⟨pb, cb, pl, cl, e, h1, h2, h3, h4, h5, h6, hb.imp id (fun ⟨b, off, e, f, h⟩ => ⟨b, off, e, f, h.grow g⟩), fun j x hx => by
      obtain ⟨b, off, v0, v1, v2, v3, e, f, c0, c1, c2, c3, h⟩ := hl j x hx
      exact ⟨b, off, v0, v1, v2, v3, e, f, g.cell c0, g.cell c1, g.cell c2, g.cell c3, h.grow g⟩⟩
theorem ItV.kept {W W' : World} {F : Nat → Prop} (g : ∀ b, F b → W'.heap[b]? = W.heap[b]?) : ∀ {d : Nat} {v : Value} {t : It}, ItV W d F v t → ItV W' d F v t
  | 0, _, _, h => h
  | _ + 1, _, _, ⟨pb, cb, pl, cl, e, h1, h2, h3, h4, h5, h6, hb, hl⟩ =>
    ⟨pb, cb, pl, cl, e, h1, h2, h3, h4, h5, h6, hb.imp id (fun ⟨b, off, e, f, h⟩ => ⟨b, off, e, f, fun j x hx => (World.cell?_of_block (a := ⟨b, off + j, none⟩) (g b f)).trans (h j x hx)⟩), fun j x hx => by
      obtain ⟨b, off, v0, v1, v2, v3, e, f, c0, c1, c2, c3, h⟩ := hl j x hx
      exact ⟨b, off, v0, v1, v2, v3, e, f, (World.cell?_of_block (a := ⟨b, off + j * 4, none⟩) (g b f)).trans c0, (World.cell?_of_block (a := ⟨b, off + j * 4 + 1, none⟩) (g b f)).trans c1, (World.cell?_of_block (a := ⟨b, off + j * 4 + 2, none⟩) (g b f)).trans c2, (World.cell?_of_block (a := ⟨b, off + j * 4 + 3, none⟩) (g b f)).trans c3, h.kept g⟩⟩
theorem ItV.mono {W : World} {F G : Nat → Prop} (g : ∀ b, F b → G b) : ∀ {d : Nat} {v : Value} {t : It}, ItV W d F v t → ItV W d G v t
  | 0, _, _, h => h
  | _ + 1, _, _, ⟨pb, cb, pl, cl, e, h1, h2, h3, h4, h5, h6, hb, hl⟩ =>
    ⟨pb, cb, pl, cl, e, h1, h2, h3, h4, h5, h6, hb.imp id (fun ⟨b, off, e, f, h⟩ => ⟨b, off, e, g b f, h⟩), fun j x hx => by
      obtain ⟨b, off, v0, v1, v2, v3, e, f, c0, c1, c2, c3, h⟩ := hl j x hx
      exact ⟨b, off, v0, v1, v2, v3, e, g b f, c0, c1, c2, c3, h.mono g⟩⟩
theorem ItV.deep {W : World} {F : Nat → Prop} : ∀ {d d2 : Nat} {v : Value} {t : It}, d ≤ d2 → ItV W d F v t → ItV W d2 F v t
  | 0, _, _, _, _, h => h.elim
  | _ + 1, 0, _, _, h0, _ => by omega
  | d + 1, d2 + 1, _, _, h0, ⟨pb, cb, pl, cl, e, h1, h2, h3, h4, h5, h6, hb, hl⟩ =>
    ⟨pb, cb, pl, cl, e, h1, h2, h3, h4, h5, h6, hb, fun j x hx => by
      obtain ⟨b, off, v0, v1, v2, v3, e, f, c0, c1, c2, c3, h⟩ := hl j x hx
      exact ⟨b, off, v0, v1, v2, v3, e, f, c0, c1, c2, c3, h.deep (by omega)⟩⟩
theorem boxI {w : World} {v0 v1 v2 v3 : Value} : (Instr.box 49 (.agg #[v0, v1, v2, v3])).run Tryd.prog w = .ok (.pointer (some ⟨w.heap.size, 0, none⟩)) (w.alloc (.cells ([v0, v1, v2, v3] : List Value).toArray 49)) := by
  go_simp
theorem newI {w : World} : (Instr.alloc 49 true (.tuple #[])).run Tryd.prog w = .ok (.pointer (some ⟨w.heap.size, 0, none⟩)) (w.alloc (.cells ([.int .i64 0, .int .i64 0, .slice none 0 0, .slice none 0 0] : List Value).toArray 49)) := by
  go_simp
theorem ldI {w : World} {b : Nat} {T : TypeId} {v0 v1 v2 v3 : Value} (h : w.heap[b]? = some (.cells ([v0, v1, v2, v3] : List Value).toArray T (0, 0))) : (Instr.loadAt 49 (.pointer (some ⟨b, 0, none⟩))).run Tryd.prog w = .ok (.agg #[v0, v1, v2, v3]) w := by
  simp only [Instr.loadAt, Instr.sureAddr, Sem.run_bind, Sem.run_pure, Result.andThen_ok, run_loadVar_row w b T 49 ([v0, v1, v2, v3] : List Value).toArray (0, 0) _ h Tryd.underlying49 rfl (by kernel_rfl)]
theorem stI {w : World} {b : Nat} {T : TypeId} {u0 u1 u2 u3 v0 v1 v2 v3 : Value} (h : w.heap[b]? = some (.cells ([u0, u1, u2, u3] : List Value).toArray T (0, 0))) (h1 : ∀ v ∈ ([v0, v1, v2, v3] : List Value), v.oneCell' = true) :
    (Instr.storeAt 49 (.pointer (some ⟨b, 0, none⟩)) (.agg #[v0, v1, v2, v3])).run Tryd.prog w = .ok () (w.setRow b ([v0, v1, v2, v3] : List Value).toArray) := by
  simp only [Instr.storeAt, Instr.sureAddr, Sem.run_bind, Sem.run_pure, Result.andThen_ok]
  exact run_storeVar_row w b T 49 ([u0, u1, u2, u3] : List Value).toArray ([v0, v1, v2, v3] : List Value).toArray h (by kernel_rfl) (by simp) (Array.all_eq_true_iff_forall_mem.2 (fun v hv => h1 v (by simpa using hv)))
theorem ixI {w : World} {b off n c j : Nat} (h : j < n) : (Instr.indexAt 47 (.slice (some ⟨b, off, none⟩) n c) (.int .i64 (j : Int))).run Tryd.prog w = .ok (.pointer (some ⟨b, off + j * 4, none⟩)) w := by
  have h1 : (0 : Int) ≤ (j : Int) := by omega
  have h2 : (j : Int) < (n : Int) := by omega
  go_simp
theorem ldItem {w : World} {b o : Nat} {v0 v1 v2 v3 : Value} (c0 : w.cell? ⟨b, o, none⟩ = some v0) (c1 : w.cell? ⟨b, o + 1, none⟩ = some v1) (c2 : w.cell? ⟨b, o + 2, none⟩ = some v2) (c3 : w.cell? ⟨b, o + 3, none⟩ = some v3) :
    (Instr.loadAt 49 (.pointer (some ⟨b, o, none⟩))).run Tryd.prog w = .ok (.agg #[v0, v1, v2, v3]) w := by
  go_simp
theorem ldLs {w : World} {a : Addr} {p : Option Addr} {n c : Nat} (h : w.cell? a = some (.slice p n c)) : (Instr.loadAt 47 (.pointer (some a))).run Tryd.prog w = .ok (.slice p n c) w := by
  go_simp
theorem ldInt {w : World} {a : Addr} {n : Int} (h : w.cell? a = some (.int .i64 n)) : (Instr.loadAt 3 (.pointer (some a))).run Tryd.prog w = .ok (.int .i64 n) w := by
  go_simp
theorem fdI {w : World} {b : Nat} : ∀ j, j < 4 → (Instr.fieldAt 49 (.pointer (some ⟨b, 0, none⟩)) j).run Tryd.prog w = .ok (.pointer (some ⟨b, j, none⟩)) w
  | 0, _ => by go_simp
  | 1, _ => by go_simp
  | 2, _ => by go_simp
  | 3, _ => by go_simp
  | _ + 4, h => absurd h (by omega)
/-- An integer, or bytes. -/
def leaf (t : It) : Bool := (decide (t.k = 1) && (decide (t.b.length = 0) && decide (t.l.length = 0))) || (decide (t.k = 2) && (decide (t.n = 0) && decide (t.l.length = 0)))
/-- Valid, of at most this depth. -/
def vld : Nat → It → Bool
  | 0, t => leaf t
  | d + 1, t => leaf t || (decide (t.k = 3) && (decide (t.n = 0) && (decide (t.b.length = 0) && (decide (t.l.length ≤ 1000) && t.l.all (vld d)))))
theorem vld1 {t : It} (h : t.k = 1) : ∀ d, vld d t = (decide (t.b.length = 0) && decide (t.l.length = 0))
  | 0 => by simp [vld, leaf, h]
  | d + 1 => by simp [vld, leaf, h]
theorem vld2 {t : It} (h : t.k = 2) : ∀ d, vld d t = (decide (t.n = 0) && decide (t.l.length = 0))
  | 0 => by simp [vld, leaf, h]
  | d + 1 => by simp [vld, leaf, h]
theorem vld3 {t : It} (h : t.k = 3) (d : Nat) : vld (d + 1) t = (decide (t.n = 0) && (decide (t.b.length = 0) && (decide (t.l.length ≤ 1000) && t.l.all (vld d)))) := by simp [vld, leaf, h]
theorem vld30 {t : It} (h : t.k = 3) : vld 0 t = false := by simp [vld, leaf, h]
theorem vldN {t : It} (h1 : t.k ≠ 1) (h2 : t.k ≠ 2) (h3 : t.k ≠ 3) : ∀ d, vld d t = false
  | 0 => by simp [vld, leaf, h1, h2]
  | d + 1 => by simp [vld, leaf, h1, h2, h3]

end Go.Proofs.YtldgjhmefaapeaaDoor.Dg


/- validWithin. -/
namespace Go.Proofs.YtldgjhmefaapeaaDoor.Dg
open Go Go.RowKit Go.Proofs.YtldgjhmefaapeaaDoor.Ne Go.Proofs.YtldgjhmefaapeaaDoor.Kr

theorem ItV.one {W : World} {F : Nat → Prop} {k : Nat} {v0 v1 v2 v3 : Value} {t : It} (h : ItV W k F (.agg #[v0, v1, v2, v3]) t) : ∀ v ∈ ([v0, v1, v2, v3] : List Value), v.oneCell' = true := by
  cases k with
  | zero => exact h.elim
  | succ k =>
    obtain ⟨pb, cb, pl, cl, hv, _⟩ := h
    simp only [Value.agg.injEq, Array.mk.injEq, List.cons.injEq] at hv
    obtain ⟨rfl, rfl, rfl, rfl, _⟩ := hv
    intro v hv
    simp only [List.mem_cons, List.not_mem_nil, or_false] at hv
    rcases hv with rfl | rfl | rfl | rfl <;> rfl
set_option linter.unusedSimpArgs false in
set_option maxRecDepth 100000 in
set_option maxHeartbeats 16000000 in
theorem within_step {d : Nat} (hd : d ≤ 8) (ih : ∀ e, e + 1 = d → ∀ {k : Nat} {F : Nat → Prop} {v : Value} {t : It} {w : World}, ItV w k F v t →
      Calls Tryd.prog 60 #[v, .int .i64 (e : Int)] w fun r w' => r = .returned (.bool (vld e t)) ∧ Gr w w')
    {k : Nat} {F : Nat → Prop} {v : Value} {t : It} {w : World} (hI : ItV w k F v t) :
    Calls Tryd.prog 60 #[v, .int .i64 (d : Int)] w fun e w' => e = .returned (.bool (vld d t)) ∧ Gr w w' := by
  have hd8 := hd
  obtain ⟨k0, rfl⟩ : ∃ k0, k = k0 + 1 := by cases k with
    | zero => exact hI.elim
    | succ k0 => exact ⟨k0, rfl⟩
  obtain ⟨pb, cb, pl, cl, hv, hk1, hn1, hpb, hcb, hbl, hll, hB, hL⟩ := hI; subst hv
  obtain ⟨tk, htk⟩ : ∃ z, t.k = z := ⟨_, rfl⟩; obtain ⟨tn, htn⟩ : ∃ z, t.n = z := ⟨_, rfl⟩; obtain ⟨bl, hbl2⟩ : ∃ z, t.b.length = z := ⟨_, rfl⟩; obtain ⟨ll, hll2⟩ : ∃ z, t.l.length = z := ⟨_, rfl⟩
  rw [htk] at hk1; rw [htn] at hn1; rw [hbl2] at hcb hbl; rw [hll2] at hll; have HTK := Lib.hid htk; have HTN := Lib.hid htn; have HBL := Lib.hid hbl2; have HLL := Lib.hid hll2; have HBB := Lib.hid hB; have HLS := Lib.hid hL; have HPB := Lib.hid hpb; have HI1 := Lib.hid hk1; have HI2 := Lib.hid hn1; rw [htk, htn, hbl2, hll2]; clear htk htn hbl2 hll2 hB hL hpb hk1 hn1
  obtain ⟨RES, hRS⟩ : ∃ z, vld d t = z := ⟨_, rfl⟩; rw [hRS]; have HRES := Lib.hid hRS; clear hRS
  have H := Ow.start w
  go_enter Tryd.func60, Tryd.ntmps60
  go_upto_region 0 with fail
  refine Kr.seqStartW ?_
  refine Kr.seqR (by rfl) (fun K hK => ?_)
  refine wp_runV rfl boxI ?_
  obtain ⟨y1, hy⟩ : ∃ y, w.alloc (.cells ([.int .i64 tk, .int .i64 tn, .slice pb bl cb, .slice pl ll cl]).toArray 49) = y := ⟨_, rfl⟩
  obtain ⟨ba, hb⟩ : ∃ b, w.heap.size = b := ⟨_, rfl⟩
  rw [hy, hb]
  have hg : Gr w y1 := hy ▸ (Gr.refl _).alloc _
  replace H := H.alloc hy hb
  clear hy hb hg
  (refine Kr.outS hK (a' := ?_) ?_ ?_; rotate_left; (focus ((try simp only [Kr.PT]); first | done | rfl))); clear hK K
  (refine Kr.seqQ (v := ?_) (a' := ?_) (by rfl) ?_ ?_ ?_; rotate_left 2; (focus (go_simp; first | done | rfl)); (focus ((try simp only [Kr.PT]); first | done | rfl)))
  refine Kr.seqDoneW ?_
  go_upto_region 1 with fail
  refine Kr.seqStartW ?_
  (refine Kr.seqQ (v := .pointer (some ⟨ba, 0, none⟩)) (a' := ?_) (by rfl) ?_ ?_ ?_; rotate_left 1; (focus (go_simp; first | done | rfl)); (focus ((try simp only [Kr.PT]); first | done | rfl)))
  (refine Kr.seqQ (v := .int .i64 tk) (a' := ?_) (by rfl) ?_ ?_ ?_; rotate_left 1; (focus (exact Kr.valOf rfl (ldInt (rowCell (j := 0) (H.at 0 rfl) rfl)))); (focus ((try simp only [Kr.PT]); first | done | rfl)))
  refine Kr.seqDoneW ?_
  by_cases k1 : tk = 1
  · have C1 : decide (tk = 1) = true := decide_eq_true (by exact k1)
    have HR : Hid (RES = (decide (bl = 0) && decide (ll = 0))) := Lib.hid (by rw [← HRES.out, vld1 (HTK.out.trans k1) d, HBL.out, HLL.out]); clear k1
    go_upto_region 2 with fail
    refine Kr.seqStartW ?_
    (refine Kr.seqQ (v := .bool true) (a' := ?_) (by rfl) ?_ ?_ ?_; rotate_left 1; (focus (exact Kr.valOf rfl (eqlI C1))); (focus ((try simp only [Kr.PT]); first | done | rfl)))
    (refine Kr.seqQ (v := ?_) (a' := ?_) (by rfl) ?_ ?_ ?_; rotate_left 2; (focus (go_simp; first | done | rfl)); (focus ((try simp only [Kr.PT]); first | done | rfl)))
    refine Kr.seqDoneW ?_
    obtain ⟨b1, hb1⟩ : ∃ z, decide ((bl : Int) = 0) = z := ⟨_, rfl⟩; obtain ⟨b2, hb2⟩ : ∃ z, decide ((ll : Int) = 0) = z := ⟨_, rfl⟩
    have hr2 : (decide (bl = 0) && decide (ll = 0)) = (b1 && b2) := by rw [← hb1, ← hb2, Bool.eq_iff_iff]; simp
    have HR2 := Lib.hid (HR.out.trans hr2); clear hr2
    cases b1
    · have hr : RES = false := HR2.out; subst hr
      go_upto_region 3 with fail
      refine Kr.seqStartW ?_
      (refine Kr.seqQ (v := .pointer (some ⟨ba, 2, none⟩)) (a' := ?_) (by rfl) ?_ ?_ ?_; rotate_left 1; (focus (go_simp; first | done | rfl)); (focus ((try simp only [Kr.PT]); first | done | rfl)))
      (refine Kr.seqQ (v := .slice pb bl cb) (a' := ?_) (by rfl) ?_ ?_ ?_; rotate_left 1; (focus (exact Kr.valOf rfl (ldSl (rowCell (j := 2) (H.at 0 rfl) rfl)))); (focus ((try simp only [Kr.PT]); first | done | rfl)))
      (refine Kr.seqQ (v := .int .i64 (bl : Int)) (a' := ?_) (by rfl) ?_ ?_ ?_; rotate_left 1; (focus (exact Kr.valOf rfl ((by go_simp)))); (focus ((try simp only [Kr.PT]); first | done | rfl)))
      (refine Kr.seqQ (v := .bool false) (a' := ?_) (by rfl) ?_ ?_ ?_; rotate_left 1; (focus (exact Kr.valOf rfl (eqlI hb1))); (focus ((try simp only [Kr.PT]); first | done | rfl)))
      (refine Kr.seqQ (v := ?_) (a' := ?_) (by rfl) ?_ ?_ ?_; rotate_left 2; (focus (go_simp; first | done | rfl)); (focus ((try simp only [Kr.PT]); first | done | rfl)))
      (refine Kr.seqSkipQ (a' := ?_) (by rfl) ?_ ?_; rotate_left; (focus ((try simp only [Kr.PT]); first | done | rfl)))
      (refine Kr.seqSkipQ (a' := ?_) (by rfl) ?_ ?_; rotate_left; (focus ((try simp only [Kr.PT]); first | done | rfl)))
      (refine Kr.seqSkipQ (a' := ?_) (by rfl) ?_ ?_; rotate_left; (focus ((try simp only [Kr.PT]); first | done | rfl)))
      (refine Kr.seqSkipQ (a' := ?_) (by rfl) ?_ ?_; rotate_left; (focus ((try simp only [Kr.PT]); first | done | rfl)))
      (refine Kr.seqQ (v := ?_) (a' := ?_) (by rfl) ?_ ?_ ?_; rotate_left 2; (focus (go_simp; first | done | rfl)); (focus ((try simp only [Kr.PT]); first | done | rfl)))
      (refine Kr.seqQ (v := ?_) (a' := ?_) (by rfl) ?_ ?_ ?_; rotate_left 2; (focus (go_simp; first | done | rfl)); (focus ((try simp only [Kr.PT]); first | done | rfl)))
      refine Kr.seqDoneW ?_
      have hk := trivial
      go_wp2
      refine bodyPost_ret (v := .bool false) (by simp [results, Tryd.results60, go_sem, hk]) rfl ⟨rfl, H.g⟩
    · have hr : RES = b2 := HR2.out; subst hr
      go_upto_region 3 with fail
      refine Kr.seqStartW ?_
      (refine Kr.seqQ (v := .pointer (some ⟨ba, 2, none⟩)) (a' := ?_) (by rfl) ?_ ?_ ?_; rotate_left 1; (focus (go_simp; first | done | rfl)); (focus ((try simp only [Kr.PT]); first | done | rfl)))
      (refine Kr.seqQ (v := .slice pb bl cb) (a' := ?_) (by rfl) ?_ ?_ ?_; rotate_left 1; (focus (exact Kr.valOf rfl (ldSl (rowCell (j := 2) (H.at 0 rfl) rfl)))); (focus ((try simp only [Kr.PT]); first | done | rfl)))
      (refine Kr.seqQ (v := .int .i64 (bl : Int)) (a' := ?_) (by rfl) ?_ ?_ ?_; rotate_left 1; (focus (exact Kr.valOf rfl ((by go_simp)))); (focus ((try simp only [Kr.PT]); first | done | rfl)))
      (refine Kr.seqQ (v := .bool true) (a' := ?_) (by rfl) ?_ ?_ ?_; rotate_left 1; (focus (exact Kr.valOf rfl (eqlI hb1))); (focus ((try simp only [Kr.PT]); first | done | rfl)))
      (refine Kr.seqQ (v := ?_) (a' := ?_) (by rfl) ?_ ?_ ?_; rotate_left 2; (focus (go_simp; first | done | rfl)); (focus ((try simp only [Kr.PT]); first | done | rfl)))
      (refine Kr.seqQ (v := .pointer (some ⟨ba, 3, none⟩)) (a' := ?_) (by rfl) ?_ ?_ ?_; rotate_left 1; (focus (go_simp; first | done | rfl)); (focus ((try simp only [Kr.PT]); first | done | rfl)))
      (refine Kr.seqQ (v := .slice pl ll cl) (a' := ?_) (by rfl) ?_ ?_ ?_; rotate_left 1; (focus (exact Kr.valOf rfl (ldLs (rowCell (j := 3) (H.at 0 rfl) rfl)))); (focus ((try simp only [Kr.PT]); first | done | rfl)))
      (refine Kr.seqQ (v := .int .i64 (ll : Int)) (a' := ?_) (by rfl) ?_ ?_ ?_; rotate_left 1; (focus (exact Kr.valOf rfl ((by go_simp)))); (focus ((try simp only [Kr.PT]); first | done | rfl)))
      (refine Kr.seqQ (v := .bool RES) (a' := ?_) (by rfl) ?_ ?_ ?_; rotate_left 1; (focus (exact Kr.valOf rfl (eqlI hb2))); (focus ((try simp only [Kr.PT]); first | done | rfl)))
      (refine Kr.seqQ (v := ?_) (a' := ?_) (by rfl) ?_ ?_ ?_; rotate_left 2; (focus (go_simp; first | done | rfl)); (focus ((try simp only [Kr.PT]); first | done | rfl)))
      (refine Kr.seqQ (v := ?_) (a' := ?_) (by rfl) ?_ ?_ ?_; rotate_left 2; (focus (go_simp; first | done | rfl)); (focus ((try simp only [Kr.PT]); first | done | rfl)))
      refine Kr.seqDoneW ?_
      have hk := trivial
      go_wp2
      refine bodyPost_ret (v := .bool RES) (by simp [results, Tryd.results60, go_sem, hk]) rfl ⟨rfl, H.g⟩
  by_cases k2 : tk = 2
  · have C1 : decide (tk = 1) = false := decide_eq_false (by exact k1)
    have C2 : decide (tk = 2) = true := decide_eq_true (by exact k2)
    have HR : Hid (RES = (decide (tn = 0) && decide (ll = 0))) := Lib.hid (by rw [← HRES.out, vld2 (HTK.out.trans k2) d, HTN.out, HLL.out]); clear k1 k2
    go_upto_region 2 with fail
    refine Kr.seqStartW ?_
    (refine Kr.seqQ (v := .bool false) (a' := ?_) (by rfl) ?_ ?_ ?_; rotate_left 1; (focus (exact Kr.valOf rfl (eqlI C1))); (focus ((try simp only [Kr.PT]); first | done | rfl)))
    (refine Kr.seqQ (v := ?_) (a' := ?_) (by rfl) ?_ ?_ ?_; rotate_left 2; (focus (go_simp; first | done | rfl)); (focus ((try simp only [Kr.PT]); first | done | rfl)))
    refine Kr.seqDoneW ?_
    go_upto_region 4 with fail
    refine Kr.seqStartW ?_
    (refine Kr.seqQ (v := .bool true) (a' := ?_) (by rfl) ?_ ?_ ?_; rotate_left 1; (focus (exact Kr.valOf rfl (eqlI C2))); (focus ((try simp only [Kr.PT]); first | done | rfl)))
    (refine Kr.seqQ (v := ?_) (a' := ?_) (by rfl) ?_ ?_ ?_; rotate_left 2; (focus (go_simp; first | done | rfl)); (focus ((try simp only [Kr.PT]); first | done | rfl)))
    refine Kr.seqDoneW ?_
    obtain ⟨b1, hb1⟩ : ∃ z, decide (tn = 0) = z := ⟨_, rfl⟩; obtain ⟨b2, hb2⟩ : ∃ z, decide ((ll : Int) = 0) = z := ⟨_, rfl⟩
    have hr2 : (decide (tn = 0) && decide (ll = 0)) = (b1 && b2) := by rw [← hb1, ← hb2, Bool.eq_iff_iff]; simp
    have HR2 := Lib.hid (HR.out.trans hr2); clear hr2
    cases b1
    · have hr : RES = false := HR2.out; subst hr
      go_upto_region 5 with fail
      refine Kr.seqStartW ?_
      (refine Kr.seqQ (v := .pointer (some ⟨ba, 1, none⟩)) (a' := ?_) (by rfl) ?_ ?_ ?_; rotate_left 1; (focus (go_simp; first | done | rfl)); (focus ((try simp only [Kr.PT]); first | done | rfl)))
      (refine Kr.seqQ (v := .int .i64 tn) (a' := ?_) (by rfl) ?_ ?_ ?_; rotate_left 1; (focus (exact Kr.valOf rfl (ldInt (rowCell (j := 1) (H.at 0 rfl) rfl)))); (focus ((try simp only [Kr.PT]); first | done | rfl)))
      (refine Kr.seqQ (v := .bool false) (a' := ?_) (by rfl) ?_ ?_ ?_; rotate_left 1; (focus (exact Kr.valOf rfl (eqlI hb1))); (focus ((try simp only [Kr.PT]); first | done | rfl)))
      (refine Kr.seqQ (v := ?_) (a' := ?_) (by rfl) ?_ ?_ ?_; rotate_left 2; (focus (go_simp; first | done | rfl)); (focus ((try simp only [Kr.PT]); first | done | rfl)))
      (refine Kr.seqSkipQ (a' := ?_) (by rfl) ?_ ?_; rotate_left; (focus ((try simp only [Kr.PT]); first | done | rfl)))
      (refine Kr.seqSkipQ (a' := ?_) (by rfl) ?_ ?_; rotate_left; (focus ((try simp only [Kr.PT]); first | done | rfl)))
      (refine Kr.seqSkipQ (a' := ?_) (by rfl) ?_ ?_; rotate_left; (focus ((try simp only [Kr.PT]); first | done | rfl)))
      (refine Kr.seqSkipQ (a' := ?_) (by rfl) ?_ ?_; rotate_left; (focus ((try simp only [Kr.PT]); first | done | rfl)))
      (refine Kr.seqQ (v := ?_) (a' := ?_) (by rfl) ?_ ?_ ?_; rotate_left 2; (focus (go_simp; first | done | rfl)); (focus ((try simp only [Kr.PT]); first | done | rfl)))
      (refine Kr.seqQ (v := ?_) (a' := ?_) (by rfl) ?_ ?_ ?_; rotate_left 2; (focus (go_simp; first | done | rfl)); (focus ((try simp only [Kr.PT]); first | done | rfl)))
      refine Kr.seqDoneW ?_
      have hk := trivial
      go_wp2
      refine bodyPost_ret (v := .bool false) (by simp [results, Tryd.results60, go_sem, hk]) rfl ⟨rfl, H.g⟩
    · have hr : RES = b2 := HR2.out; subst hr
      go_upto_region 5 with fail
      refine Kr.seqStartW ?_
      (refine Kr.seqQ (v := .pointer (some ⟨ba, 1, none⟩)) (a' := ?_) (by rfl) ?_ ?_ ?_; rotate_left 1; (focus (go_simp; first | done | rfl)); (focus ((try simp only [Kr.PT]); first | done | rfl)))
      (refine Kr.seqQ (v := .int .i64 tn) (a' := ?_) (by rfl) ?_ ?_ ?_; rotate_left 1; (focus (exact Kr.valOf rfl (ldInt (rowCell (j := 1) (H.at 0 rfl) rfl)))); (focus ((try simp only [Kr.PT]); first | done | rfl)))
      (refine Kr.seqQ (v := .bool true) (a' := ?_) (by rfl) ?_ ?_ ?_; rotate_left 1; (focus (exact Kr.valOf rfl (eqlI hb1))); (focus ((try simp only [Kr.PT]); first | done | rfl)))
      (refine Kr.seqQ (v := ?_) (a' := ?_) (by rfl) ?_ ?_ ?_; rotate_left 2; (focus (go_simp; first | done | rfl)); (focus ((try simp only [Kr.PT]); first | done | rfl)))
      (refine Kr.seqQ (v := .pointer (some ⟨ba, 3, none⟩)) (a' := ?_) (by rfl) ?_ ?_ ?_; rotate_left 1; (focus (go_simp; first | done | rfl)); (focus ((try simp only [Kr.PT]); first | done | rfl)))
      (refine Kr.seqQ (v := .slice pl ll cl) (a' := ?_) (by rfl) ?_ ?_ ?_; rotate_left 1; (focus (exact Kr.valOf rfl (ldLs (rowCell (j := 3) (H.at 0 rfl) rfl)))); (focus ((try simp only [Kr.PT]); first | done | rfl)))
      (refine Kr.seqQ (v := .int .i64 (ll : Int)) (a' := ?_) (by rfl) ?_ ?_ ?_; rotate_left 1; (focus (exact Kr.valOf rfl ((by go_simp)))); (focus ((try simp only [Kr.PT]); first | done | rfl)))
      (refine Kr.seqQ (v := .bool RES) (a' := ?_) (by rfl) ?_ ?_ ?_; rotate_left 1; (focus (exact Kr.valOf rfl (eqlI hb2))); (focus ((try simp only [Kr.PT]); first | done | rfl)))
      (refine Kr.seqQ (v := ?_) (a' := ?_) (by rfl) ?_ ?_ ?_; rotate_left 2; (focus (go_simp; first | done | rfl)); (focus ((try simp only [Kr.PT]); first | done | rfl)))
      (refine Kr.seqQ (v := ?_) (a' := ?_) (by rfl) ?_ ?_ ?_; rotate_left 2; (focus (go_simp; first | done | rfl)); (focus ((try simp only [Kr.PT]); first | done | rfl)))
      refine Kr.seqDoneW ?_
      have hk := trivial
      go_wp2
      refine bodyPost_ret (v := .bool RES) (by simp [results, Tryd.results60, go_sem, hk]) rfl ⟨rfl, H.g⟩
  by_cases k3 : tk = 3
  · have C1 : decide (tk = 1) = false := decide_eq_false (by exact k1)
    have C2 : decide (tk = 2) = false := decide_eq_false (by exact k2)
    have C3 : decide (tk = 3) = true := decide_eq_true (by exact k3)
    have HK3 := Lib.hid (HTK.out.trans k3); clear k1 k2 k3
    go_upto_region 2 with fail
    refine Kr.seqStartW ?_
    (refine Kr.seqQ (v := .bool false) (a' := ?_) (by rfl) ?_ ?_ ?_; rotate_left 1; (focus (exact Kr.valOf rfl (eqlI C1))); (focus ((try simp only [Kr.PT]); first | done | rfl)))
    (refine Kr.seqQ (v := ?_) (a' := ?_) (by rfl) ?_ ?_ ?_; rotate_left 2; (focus (go_simp; first | done | rfl)); (focus ((try simp only [Kr.PT]); first | done | rfl)))
    refine Kr.seqDoneW ?_
    go_upto_region 4 with fail
    refine Kr.seqStartW ?_
    (refine Kr.seqQ (v := .bool false) (a' := ?_) (by rfl) ?_ ?_ ?_; rotate_left 1; (focus (exact Kr.valOf rfl (eqlI C2))); (focus ((try simp only [Kr.PT]); first | done | rfl)))
    (refine Kr.seqQ (v := ?_) (a' := ?_) (by rfl) ?_ ?_ ?_; rotate_left 2; (focus (go_simp; first | done | rfl)); (focus ((try simp only [Kr.PT]); first | done | rfl)))
    refine Kr.seqDoneW ?_
    go_upto_region 6 with fail
    refine Kr.seqStartW ?_
    (refine Kr.seqQ (v := .bool true) (a' := ?_) (by rfl) ?_ ?_ ?_; rotate_left 1; (focus (exact Kr.valOf rfl (eqlI C3))); (focus ((try simp only [Kr.PT]); first | done | rfl)))
    (refine Kr.seqQ (v := ?_) (a' := ?_) (by rfl) ?_ ?_ ?_; rotate_left 2; (focus (go_simp; first | done | rfl)); (focus ((try simp only [Kr.PT]); first | done | rfl)))
    refine Kr.seqDoneW ?_
    cases d with
    | zero =>
      have hr : RES = false := by rw [← HRES.out, vld30 HK3.out]
      subst hr
      have C4 : decide (((0 : Nat) : Int) = 0) = true := decide_eq_true (by omega)
      go_upto_region 7 with fail
      refine Kr.seqStartW ?_
      (refine Kr.seqQ (v := ?_) (a' := ?_) (by rfl) ?_ ?_ ?_; rotate_left 2; (focus (go_simp; first | done | rfl)); (focus ((try simp only [Kr.PT]); first | done | rfl)))
      (refine Kr.seqQ (v := .bool true) (a' := ?_) (by rfl) ?_ ?_ ?_; rotate_left 1; (focus (exact Kr.valOf rfl (eqlI C4))); (focus ((try simp only [Kr.PT]); first | done | rfl)))
      (refine Kr.seqQ (v := ?_) (a' := ?_) (by rfl) ?_ ?_ ?_; rotate_left 2; (focus (go_simp; first | done | rfl)); (focus ((try simp only [Kr.PT]); first | done | rfl)))
      (refine Kr.seqSkipQ (a' := ?_) (by rfl) ?_ ?_; rotate_left; (focus ((try simp only [Kr.PT]); first | done | rfl)))
      (refine Kr.seqSkipQ (a' := ?_) (by rfl) ?_ ?_; rotate_left; (focus ((try simp only [Kr.PT]); first | done | rfl)))
      (refine Kr.seqSkipQ (a' := ?_) (by rfl) ?_ ?_; rotate_left; (focus ((try simp only [Kr.PT]); first | done | rfl)))
      (refine Kr.seqQ (v := ?_) (a' := ?_) (by rfl) ?_ ?_ ?_; rotate_left 2; (focus (go_simp; first | done | rfl)); (focus ((try simp only [Kr.PT]); first | done | rfl)))
      (refine Kr.seqQ (v := ?_) (a' := ?_) (by rfl) ?_ ?_ ?_; rotate_left 2; (focus (go_simp; first | done | rfl)); (focus ((try simp only [Kr.PT]); first | done | rfl)))
      (refine Kr.seqSkipQ (a' := ?_) (by rfl) ?_ ?_; rotate_left; (focus ((try simp only [Kr.PT]); first | done | rfl)))
      (refine Kr.seqSkipQ (a' := ?_) (by rfl) ?_ ?_; rotate_left; (focus ((try simp only [Kr.PT]); first | done | rfl)))
      (refine Kr.seqSkipQ (a' := ?_) (by rfl) ?_ ?_; rotate_left; (focus ((try simp only [Kr.PT]); first | done | rfl)))
      (refine Kr.seqSkipQ (a' := ?_) (by rfl) ?_ ?_; rotate_left; (focus ((try simp only [Kr.PT]); first | done | rfl)))
      (refine Kr.seqQ (v := ?_) (a' := ?_) (by rfl) ?_ ?_ ?_; rotate_left 2; (focus (go_simp; first | done | rfl)); (focus ((try simp only [Kr.PT]); first | done | rfl)))
      (refine Kr.seqQ (v := ?_) (a' := ?_) (by rfl) ?_ ?_ ?_; rotate_left 2; (focus (go_simp; first | done | rfl)); (focus ((try simp only [Kr.PT]); first | done | rfl)))
      (refine Kr.seqSkipQ (a' := ?_) (by rfl) ?_ ?_; rotate_left; (focus ((try simp only [Kr.PT]); first | done | rfl)))
      (refine Kr.seqSkipQ (a' := ?_) (by rfl) ?_ ?_; rotate_left; (focus ((try simp only [Kr.PT]); first | done | rfl)))
      (refine Kr.seqSkipQ (a' := ?_) (by rfl) ?_ ?_; rotate_left; (focus ((try simp only [Kr.PT]); first | done | rfl)))
      (refine Kr.seqSkipQ (a' := ?_) (by rfl) ?_ ?_; rotate_left; (focus ((try simp only [Kr.PT]); first | done | rfl)))
      (refine Kr.seqQ (v := ?_) (a' := ?_) (by rfl) ?_ ?_ ?_; rotate_left 2; (focus (go_simp; first | done | rfl)); (focus ((try simp only [Kr.PT]); first | done | rfl)))
      refine Kr.seqDoneW ?_
      go_upto_region 8 with fail
      refine Kr.seqStartW ?_
      (refine Kr.seqQ (v := ?_) (a' := ?_) (by rfl) ?_ ?_ ?_; rotate_left 2; (focus (go_simp; first | done | rfl)); (focus ((try simp only [Kr.PT]); first | done | rfl)))
      refine Kr.seqDoneW ?_
      have hk := trivial
      go_wp2
      refine bodyPost_ret (v := .bool false) (by simp [results, Tryd.results60, go_sem, hk]) rfl ⟨rfl, H.g⟩
    | succ d =>
      have HR3 : Hid (RES = (decide (tn = 0) && (decide (bl = 0) && (decide (ll ≤ 1000) && t.l.all (vld d))))) := Lib.hid (by rw [← HRES.out, vld3 HK3.out d, HTN.out, HBL.out, HLL.out])
      have C4 : decide (((d + 1 : Nat) : Int) = 0) = false := decide_eq_false (by omega)
      by_cases n0 : tn ≠ 0
      · have hr : RES = false := by rw [HR3.out, decide_eq_false n0, Bool.false_and]
        subst hr
        have C5 : (!decide (tn = 0)) = true := by rw [decide_eq_false n0]; rfl
        go_upto_region 7 with fail
        refine Kr.seqStartW ?_
        (refine Kr.seqQ (v := ?_) (a' := ?_) (by rfl) ?_ ?_ ?_; rotate_left 2; (focus (go_simp; first | done | rfl)); (focus ((try simp only [Kr.PT]); first | done | rfl)))
        (refine Kr.seqQ (v := .bool false) (a' := ?_) (by rfl) ?_ ?_ ?_; rotate_left 1; (focus (exact Kr.valOf rfl (eqlI C4))); (focus ((try simp only [Kr.PT]); first | done | rfl)))
        (refine Kr.seqQ (v := ?_) (a' := ?_) (by rfl) ?_ ?_ ?_; rotate_left 2; (focus (go_simp; first | done | rfl)); (focus ((try simp only [Kr.PT]); first | done | rfl)))
        (refine Kr.seqQ (v := .pointer (some ⟨ba, 1, none⟩)) (a' := ?_) (by rfl) ?_ ?_ ?_; rotate_left 1; (focus (go_simp; first | done | rfl)); (focus ((try simp only [Kr.PT]); first | done | rfl)))
        (refine Kr.seqQ (v := .int .i64 tn) (a' := ?_) (by rfl) ?_ ?_ ?_; rotate_left 1; (focus (exact Kr.valOf rfl (ldInt (rowCell (j := 1) (H.at 0 rfl) rfl)))); (focus ((try simp only [Kr.PT]); first | done | rfl)))
        (refine Kr.seqQ (v := .bool true) (a' := ?_) (by rfl) ?_ ?_ ?_; rotate_left 1; (focus (exact Kr.valOf rfl (neqI C5))); (focus ((try simp only [Kr.PT]); first | done | rfl)))
        (refine Kr.seqQ (v := ?_) (a' := ?_) (by rfl) ?_ ?_ ?_; rotate_left 2; (focus (go_simp; first | done | rfl)); (focus ((try simp only [Kr.PT]); first | done | rfl)))
        (refine Kr.seqQ (v := ?_) (a' := ?_) (by rfl) ?_ ?_ ?_; rotate_left 2; (focus (go_simp; first | done | rfl)); (focus ((try simp only [Kr.PT]); first | done | rfl)))
        (refine Kr.seqSkipQ (a' := ?_) (by rfl) ?_ ?_; rotate_left; (focus ((try simp only [Kr.PT]); first | done | rfl)))
        (refine Kr.seqSkipQ (a' := ?_) (by rfl) ?_ ?_; rotate_left; (focus ((try simp only [Kr.PT]); first | done | rfl)))
        (refine Kr.seqSkipQ (a' := ?_) (by rfl) ?_ ?_; rotate_left; (focus ((try simp only [Kr.PT]); first | done | rfl)))
        (refine Kr.seqSkipQ (a' := ?_) (by rfl) ?_ ?_; rotate_left; (focus ((try simp only [Kr.PT]); first | done | rfl)))
        (refine Kr.seqQ (v := ?_) (a' := ?_) (by rfl) ?_ ?_ ?_; rotate_left 2; (focus (go_simp; first | done | rfl)); (focus ((try simp only [Kr.PT]); first | done | rfl)))
        (refine Kr.seqQ (v := ?_) (a' := ?_) (by rfl) ?_ ?_ ?_; rotate_left 2; (focus (go_simp; first | done | rfl)); (focus ((try simp only [Kr.PT]); first | done | rfl)))
        (refine Kr.seqSkipQ (a' := ?_) (by rfl) ?_ ?_; rotate_left; (focus ((try simp only [Kr.PT]); first | done | rfl)))
        (refine Kr.seqSkipQ (a' := ?_) (by rfl) ?_ ?_; rotate_left; (focus ((try simp only [Kr.PT]); first | done | rfl)))
        (refine Kr.seqSkipQ (a' := ?_) (by rfl) ?_ ?_; rotate_left; (focus ((try simp only [Kr.PT]); first | done | rfl)))
        (refine Kr.seqSkipQ (a' := ?_) (by rfl) ?_ ?_; rotate_left; (focus ((try simp only [Kr.PT]); first | done | rfl)))
        (refine Kr.seqQ (v := ?_) (a' := ?_) (by rfl) ?_ ?_ ?_; rotate_left 2; (focus (go_simp; first | done | rfl)); (focus ((try simp only [Kr.PT]); first | done | rfl)))
        refine Kr.seqDoneW ?_
        go_upto_region 8 with fail
        refine Kr.seqStartW ?_
        (refine Kr.seqQ (v := ?_) (a' := ?_) (by rfl) ?_ ?_ ?_; rotate_left 2; (focus (go_simp; first | done | rfl)); (focus ((try simp only [Kr.PT]); first | done | rfl)))
        refine Kr.seqDoneW ?_
        have hk := trivial
        go_wp2
        refine bodyPost_ret (v := .bool false) (by simp [results, Tryd.results60, go_sem, hk]) rfl ⟨rfl, H.g⟩
      replace n0 : tn = 0 := Decidable.of_not_not n0
      by_cases m0 : bl ≠ 0
      · have hr : RES = false := by rw [HR3.out, decide_eq_false m0, Bool.false_and, Bool.and_false]
        subst hr
        have C5 : (!decide (tn = 0)) = false := by rw [decide_eq_true n0]; rfl
        have C6 : decide ((0 : Int) < (bl : Int)) = true := decide_eq_true (by omega)
        have N0 := Lib.hid n0; clear n0
        go_upto_region 7 with fail
        refine Kr.seqStartW ?_
        (refine Kr.seqQ (v := ?_) (a' := ?_) (by rfl) ?_ ?_ ?_; rotate_left 2; (focus (go_simp; first | done | rfl)); (focus ((try simp only [Kr.PT]); first | done | rfl)))
        (refine Kr.seqQ (v := .bool false) (a' := ?_) (by rfl) ?_ ?_ ?_; rotate_left 1; (focus (exact Kr.valOf rfl (eqlI C4))); (focus ((try simp only [Kr.PT]); first | done | rfl)))
        (refine Kr.seqQ (v := ?_) (a' := ?_) (by rfl) ?_ ?_ ?_; rotate_left 2; (focus (go_simp; first | done | rfl)); (focus ((try simp only [Kr.PT]); first | done | rfl)))
        (refine Kr.seqQ (v := .pointer (some ⟨ba, 1, none⟩)) (a' := ?_) (by rfl) ?_ ?_ ?_; rotate_left 1; (focus (go_simp; first | done | rfl)); (focus ((try simp only [Kr.PT]); first | done | rfl)))
        (refine Kr.seqQ (v := .int .i64 tn) (a' := ?_) (by rfl) ?_ ?_ ?_; rotate_left 1; (focus (exact Kr.valOf rfl (ldInt (rowCell (j := 1) (H.at 0 rfl) rfl)))); (focus ((try simp only [Kr.PT]); first | done | rfl)))
        (refine Kr.seqQ (v := .bool false) (a' := ?_) (by rfl) ?_ ?_ ?_; rotate_left 1; (focus (exact Kr.valOf rfl (neqI C5))); (focus ((try simp only [Kr.PT]); first | done | rfl)))
        (refine Kr.seqQ (v := ?_) (a' := ?_) (by rfl) ?_ ?_ ?_; rotate_left 2; (focus (go_simp; first | done | rfl)); (focus ((try simp only [Kr.PT]); first | done | rfl)))
        (refine Kr.seqQ (v := ?_) (a' := ?_) (by rfl) ?_ ?_ ?_; rotate_left 2; (focus (go_simp; first | done | rfl)); (focus ((try simp only [Kr.PT]); first | done | rfl)))
        (refine Kr.seqQ (v := .pointer (some ⟨ba, 2, none⟩)) (a' := ?_) (by rfl) ?_ ?_ ?_; rotate_left 1; (focus (go_simp; first | done | rfl)); (focus ((try simp only [Kr.PT]); first | done | rfl)))
        (refine Kr.seqQ (v := .slice pb bl cb) (a' := ?_) (by rfl) ?_ ?_ ?_; rotate_left 1; (focus (exact Kr.valOf rfl (ldSl (rowCell (j := 2) (H.at 0 rfl) rfl)))); (focus ((try simp only [Kr.PT]); first | done | rfl)))
        (refine Kr.seqQ (v := .int .i64 (bl : Int)) (a' := ?_) (by rfl) ?_ ?_ ?_; rotate_left 1; (focus (exact Kr.valOf rfl ((by go_simp)))); (focus ((try simp only [Kr.PT]); first | done | rfl)))
        (refine Kr.seqQ (v := .bool true) (a' := ?_) (by rfl) ?_ ?_ ?_; rotate_left 1; (focus (exact Kr.valOf rfl (gtrI C6))); (focus ((try simp only [Kr.PT]); first | done | rfl)))
        (refine Kr.seqQ (v := ?_) (a' := ?_) (by rfl) ?_ ?_ ?_; rotate_left 2; (focus (go_simp; first | done | rfl)); (focus ((try simp only [Kr.PT]); first | done | rfl)))
        (refine Kr.seqQ (v := ?_) (a' := ?_) (by rfl) ?_ ?_ ?_; rotate_left 2; (focus (go_simp; first | done | rfl)); (focus ((try simp only [Kr.PT]); first | done | rfl)))
        (refine Kr.seqSkipQ (a' := ?_) (by rfl) ?_ ?_; rotate_left; (focus ((try simp only [Kr.PT]); first | done | rfl)))
        (refine Kr.seqSkipQ (a' := ?_) (by rfl) ?_ ?_; rotate_left; (focus ((try simp only [Kr.PT]); first | done | rfl)))
        (refine Kr.seqSkipQ (a' := ?_) (by rfl) ?_ ?_; rotate_left; (focus ((try simp only [Kr.PT]); first | done | rfl)))
        (refine Kr.seqSkipQ (a' := ?_) (by rfl) ?_ ?_; rotate_left; (focus ((try simp only [Kr.PT]); first | done | rfl)))
        (refine Kr.seqQ (v := ?_) (a' := ?_) (by rfl) ?_ ?_ ?_; rotate_left 2; (focus (go_simp; first | done | rfl)); (focus ((try simp only [Kr.PT]); first | done | rfl)))
        refine Kr.seqDoneW ?_
        go_upto_region 8 with fail
        refine Kr.seqStartW ?_
        (refine Kr.seqQ (v := ?_) (a' := ?_) (by rfl) ?_ ?_ ?_; rotate_left 2; (focus (go_simp; first | done | rfl)); (focus ((try simp only [Kr.PT]); first | done | rfl)))
        refine Kr.seqDoneW ?_
        have hk := trivial
        go_wp2
        refine bodyPost_ret (v := .bool false) (by simp [results, Tryd.results60, go_sem, hk]) rfl ⟨rfl, H.g⟩
      replace m0 : bl = 0 := Decidable.of_not_not m0
      by_cases q0 : ¬ ll ≤ 1000
      · have hr : RES = false := by rw [HR3.out, decide_eq_false q0, Bool.false_and, Bool.and_false, Bool.and_false]
        subst hr
        have C5 : (!decide (tn = 0)) = false := by rw [decide_eq_true n0]; rfl
        have C6 : decide ((0 : Int) < (bl : Int)) = false := decide_eq_false (by omega)
        have C7 : decide ((1000 : Int) < (ll : Int)) = true := decide_eq_true (by omega)
        have N0 := Lib.hid n0; have M0 := Lib.hid m0; clear n0 m0
        go_upto_region 7 with fail
        refine Kr.seqStartW ?_
        (refine Kr.seqQ (v := ?_) (a' := ?_) (by rfl) ?_ ?_ ?_; rotate_left 2; (focus (go_simp; first | done | rfl)); (focus ((try simp only [Kr.PT]); first | done | rfl)))
        (refine Kr.seqQ (v := .bool false) (a' := ?_) (by rfl) ?_ ?_ ?_; rotate_left 1; (focus (exact Kr.valOf rfl (eqlI C4))); (focus ((try simp only [Kr.PT]); first | done | rfl)))
        (refine Kr.seqQ (v := ?_) (a' := ?_) (by rfl) ?_ ?_ ?_; rotate_left 2; (focus (go_simp; first | done | rfl)); (focus ((try simp only [Kr.PT]); first | done | rfl)))
        (refine Kr.seqQ (v := .pointer (some ⟨ba, 1, none⟩)) (a' := ?_) (by rfl) ?_ ?_ ?_; rotate_left 1; (focus (go_simp; first | done | rfl)); (focus ((try simp only [Kr.PT]); first | done | rfl)))
        (refine Kr.seqQ (v := .int .i64 tn) (a' := ?_) (by rfl) ?_ ?_ ?_; rotate_left 1; (focus (exact Kr.valOf rfl (ldInt (rowCell (j := 1) (H.at 0 rfl) rfl)))); (focus ((try simp only [Kr.PT]); first | done | rfl)))
        (refine Kr.seqQ (v := .bool false) (a' := ?_) (by rfl) ?_ ?_ ?_; rotate_left 1; (focus (exact Kr.valOf rfl (neqI C5))); (focus ((try simp only [Kr.PT]); first | done | rfl)))
        (refine Kr.seqQ (v := ?_) (a' := ?_) (by rfl) ?_ ?_ ?_; rotate_left 2; (focus (go_simp; first | done | rfl)); (focus ((try simp only [Kr.PT]); first | done | rfl)))
        (refine Kr.seqQ (v := ?_) (a' := ?_) (by rfl) ?_ ?_ ?_; rotate_left 2; (focus (go_simp; first | done | rfl)); (focus ((try simp only [Kr.PT]); first | done | rfl)))
        (refine Kr.seqQ (v := .pointer (some ⟨ba, 2, none⟩)) (a' := ?_) (by rfl) ?_ ?_ ?_; rotate_left 1; (focus (go_simp; first | done | rfl)); (focus ((try simp only [Kr.PT]); first | done | rfl)))
        (refine Kr.seqQ (v := .slice pb bl cb) (a' := ?_) (by rfl) ?_ ?_ ?_; rotate_left 1; (focus (exact Kr.valOf rfl (ldSl (rowCell (j := 2) (H.at 0 rfl) rfl)))); (focus ((try simp only [Kr.PT]); first | done | rfl)))
        (refine Kr.seqQ (v := .int .i64 (bl : Int)) (a' := ?_) (by rfl) ?_ ?_ ?_; rotate_left 1; (focus (exact Kr.valOf rfl ((by go_simp)))); (focus ((try simp only [Kr.PT]); first | done | rfl)))
        (refine Kr.seqQ (v := .bool false) (a' := ?_) (by rfl) ?_ ?_ ?_; rotate_left 1; (focus (exact Kr.valOf rfl (gtrI C6))); (focus ((try simp only [Kr.PT]); first | done | rfl)))
        (refine Kr.seqQ (v := ?_) (a' := ?_) (by rfl) ?_ ?_ ?_; rotate_left 2; (focus (go_simp; first | done | rfl)); (focus ((try simp only [Kr.PT]); first | done | rfl)))
        (refine Kr.seqQ (v := ?_) (a' := ?_) (by rfl) ?_ ?_ ?_; rotate_left 2; (focus (go_simp; first | done | rfl)); (focus ((try simp only [Kr.PT]); first | done | rfl)))
        (refine Kr.seqQ (v := .pointer (some ⟨ba, 3, none⟩)) (a' := ?_) (by rfl) ?_ ?_ ?_; rotate_left 1; (focus (go_simp; first | done | rfl)); (focus ((try simp only [Kr.PT]); first | done | rfl)))
        (refine Kr.seqQ (v := .slice pl ll cl) (a' := ?_) (by rfl) ?_ ?_ ?_; rotate_left 1; (focus (exact Kr.valOf rfl (ldLs (rowCell (j := 3) (H.at 0 rfl) rfl)))); (focus ((try simp only [Kr.PT]); first | done | rfl)))
        (refine Kr.seqQ (v := .int .i64 (ll : Int)) (a' := ?_) (by rfl) ?_ ?_ ?_; rotate_left 1; (focus (exact Kr.valOf rfl ((by go_simp)))); (focus ((try simp only [Kr.PT]); first | done | rfl)))
        (refine Kr.seqQ (v := .bool true) (a' := ?_) (by rfl) ?_ ?_ ?_; rotate_left 1; (focus (exact Kr.valOf rfl (gtrI C7))); (focus ((try simp only [Kr.PT]); first | done | rfl)))
        (refine Kr.seqQ (v := ?_) (a' := ?_) (by rfl) ?_ ?_ ?_; rotate_left 2; (focus (go_simp; first | done | rfl)); (focus ((try simp only [Kr.PT]); first | done | rfl)))
        refine Kr.seqDoneW ?_
        go_upto_region 8 with fail
        refine Kr.seqStartW ?_
        (refine Kr.seqQ (v := ?_) (a' := ?_) (by rfl) ?_ ?_ ?_; rotate_left 2; (focus (go_simp; first | done | rfl)); (focus ((try simp only [Kr.PT]); first | done | rfl)))
        refine Kr.seqDoneW ?_
        have hk := trivial
        go_wp2
        refine bodyPost_ret (v := .bool false) (by simp [results, Tryd.results60, go_sem, hk]) rfl ⟨rfl, H.g⟩
      replace q0 : ll ≤ 1000 := Decidable.of_not_not q0
      have HBV : Hid (t.l.all (vld d) = RES) := Lib.hid (by rw [HR3.out, decide_eq_true n0, decide_eq_true m0, decide_eq_true q0, Bool.true_and, Bool.true_and, Bool.true_and])
      have C5 : (!decide (tn = 0)) = false := by rw [decide_eq_true n0]; rfl
      have C6 : decide ((0 : Int) < (bl : Int)) = false := decide_eq_false (by omega)
      have C7 : decide ((1000 : Int) < (ll : Int)) = false := decide_eq_false (by omega)
      have N0 := Lib.hid n0; have M0 := Lib.hid m0; clear n0 m0
      go_upto_region 7 with fail
      refine Kr.seqStartW ?_
      (refine Kr.seqQ (v := ?_) (a' := ?_) (by rfl) ?_ ?_ ?_; rotate_left 2; (focus (go_simp; first | done | rfl)); (focus ((try simp only [Kr.PT]); first | done | rfl)))
      (refine Kr.seqQ (v := .bool false) (a' := ?_) (by rfl) ?_ ?_ ?_; rotate_left 1; (focus (exact Kr.valOf rfl (eqlI C4))); (focus ((try simp only [Kr.PT]); first | done | rfl)))
      (refine Kr.seqQ (v := ?_) (a' := ?_) (by rfl) ?_ ?_ ?_; rotate_left 2; (focus (go_simp; first | done | rfl)); (focus ((try simp only [Kr.PT]); first | done | rfl)))
      (refine Kr.seqQ (v := .pointer (some ⟨ba, 1, none⟩)) (a' := ?_) (by rfl) ?_ ?_ ?_; rotate_left 1; (focus (go_simp; first | done | rfl)); (focus ((try simp only [Kr.PT]); first | done | rfl)))
      (refine Kr.seqQ (v := .int .i64 tn) (a' := ?_) (by rfl) ?_ ?_ ?_; rotate_left 1; (focus (exact Kr.valOf rfl (ldInt (rowCell (j := 1) (H.at 0 rfl) rfl)))); (focus ((try simp only [Kr.PT]); first | done | rfl)))
      (refine Kr.seqQ (v := .bool false) (a' := ?_) (by rfl) ?_ ?_ ?_; rotate_left 1; (focus (exact Kr.valOf rfl (neqI C5))); (focus ((try simp only [Kr.PT]); first | done | rfl)))
      (refine Kr.seqQ (v := ?_) (a' := ?_) (by rfl) ?_ ?_ ?_; rotate_left 2; (focus (go_simp; first | done | rfl)); (focus ((try simp only [Kr.PT]); first | done | rfl)))
      (refine Kr.seqQ (v := ?_) (a' := ?_) (by rfl) ?_ ?_ ?_; rotate_left 2; (focus (go_simp; first | done | rfl)); (focus ((try simp only [Kr.PT]); first | done | rfl)))
      (refine Kr.seqQ (v := .pointer (some ⟨ba, 2, none⟩)) (a' := ?_) (by rfl) ?_ ?_ ?_; rotate_left 1; (focus (go_simp; first | done | rfl)); (focus ((try simp only [Kr.PT]); first | done | rfl)))
      (refine Kr.seqQ (v := .slice pb bl cb) (a' := ?_) (by rfl) ?_ ?_ ?_; rotate_left 1; (focus (exact Kr.valOf rfl (ldSl (rowCell (j := 2) (H.at 0 rfl) rfl)))); (focus ((try simp only [Kr.PT]); first | done | rfl)))
      (refine Kr.seqQ (v := .int .i64 (bl : Int)) (a' := ?_) (by rfl) ?_ ?_ ?_; rotate_left 1; (focus (exact Kr.valOf rfl ((by go_simp)))); (focus ((try simp only [Kr.PT]); first | done | rfl)))
      (refine Kr.seqQ (v := .bool false) (a' := ?_) (by rfl) ?_ ?_ ?_; rotate_left 1; (focus (exact Kr.valOf rfl (gtrI C6))); (focus ((try simp only [Kr.PT]); first | done | rfl)))
      (refine Kr.seqQ (v := ?_) (a' := ?_) (by rfl) ?_ ?_ ?_; rotate_left 2; (focus (go_simp; first | done | rfl)); (focus ((try simp only [Kr.PT]); first | done | rfl)))
      (refine Kr.seqQ (v := ?_) (a' := ?_) (by rfl) ?_ ?_ ?_; rotate_left 2; (focus (go_simp; first | done | rfl)); (focus ((try simp only [Kr.PT]); first | done | rfl)))
      (refine Kr.seqQ (v := .pointer (some ⟨ba, 3, none⟩)) (a' := ?_) (by rfl) ?_ ?_ ?_; rotate_left 1; (focus (go_simp; first | done | rfl)); (focus ((try simp only [Kr.PT]); first | done | rfl)))
      (refine Kr.seqQ (v := .slice pl ll cl) (a' := ?_) (by rfl) ?_ ?_ ?_; rotate_left 1; (focus (exact Kr.valOf rfl (ldLs (rowCell (j := 3) (H.at 0 rfl) rfl)))); (focus ((try simp only [Kr.PT]); first | done | rfl)))
      (refine Kr.seqQ (v := .int .i64 (ll : Int)) (a' := ?_) (by rfl) ?_ ?_ ?_; rotate_left 1; (focus (exact Kr.valOf rfl ((by go_simp)))); (focus ((try simp only [Kr.PT]); first | done | rfl)))
      (refine Kr.seqQ (v := .bool false) (a' := ?_) (by rfl) ?_ ?_ ?_; rotate_left 1; (focus (exact Kr.valOf rfl (gtrI C7))); (focus ((try simp only [Kr.PT]); first | done | rfl)))
      (refine Kr.seqQ (v := ?_) (a' := ?_) (by rfl) ?_ ?_ ?_; rotate_left 2; (focus (go_simp; first | done | rfl)); (focus ((try simp only [Kr.PT]); first | done | rfl)))
      refine Kr.seqDoneW ?_
      go_upto_region 9 with fail
      refine Kr.seqStartW ?_
      (refine Kr.seqQ (v := .pointer (some ⟨ba, 3, none⟩)) (a' := ?_) (by rfl) ?_ ?_ ?_; rotate_left 1; (focus (go_simp; first | done | rfl)); (focus ((try simp only [Kr.PT]); first | done | rfl)))
      (refine Kr.seqQ (v := .slice pl ll cl) (a' := ?_) (by rfl) ?_ ?_ ?_; rotate_left 1; (focus (exact Kr.valOf rfl (ldLs (rowCell (j := 3) (H.at 0 rfl) rfl)))); (focus ((try simp only [Kr.PT]); first | done | rfl)))
      (refine Kr.seqQ (v := .int .i64 (ll : Int)) (a' := ?_) (by rfl) ?_ ?_ ?_; rotate_left 1; (focus (exact Kr.valOf rfl ((by go_simp)))); (focus ((try simp only [Kr.PT]); first | done | rfl)))
      (refine Kr.seqQ (v := ?_) (a' := ?_) (by rfl) ?_ ?_ ?_; rotate_left 2; (focus (go_simp; first | done | rfl)); (focus ((try simp only [Kr.PT]); first | done | rfl)))
      refine Kr.seqDoneW ?_
      clear C4 C5 C6 C7
      have H2 := Lib.hid H; clear H
      go_wp2_with fail
      go_loopw [56] (fun iv wr => ∃ (j : Nat), j ≤ ll ∧ iv = .int .i64 (j : Int) ∧ Hid (∀ i x, i < j → t.l[i]? = some x → vld d x = true) ∧ Hid (Ow w wr [(ba, 49, [.int .i64 tk, .int .i64 tn, .slice pb bl cb, .slice pl ll cl])])) (fun iv _ => (ll - (intOf iv).toNat))
      case atStart => exact ⟨0, by omega, rfl, Lib.hid (fun i x h => absurd h (Nat.not_lt_zero _)), H2⟩
      case round =>
        clear H2; obtain ⟨j, hj, rfl, HAL, HH⟩ := hrel; have H := HH.out; clear HH
        by_cases hje : j = ll
        · have C4 : decide ((j : Int) < (ll : Int)) = false := decide_eq_false (by omega)
          have hBt : RES = true := by
            rw [← HBV.out, List.all_eq_true]
            intro x hx
            obtain ⟨i, hi⟩ := List.getElem?_of_mem hx
            exact HAL.out i x (by have := (List.getElem?_eq_some_iff.1 hi).1; rw [HLL.out] at this; omega) hi
          subst hBt; clear hje
          go_upto_region 10 with fail
          refine Kr.seqStartW ?_
          (refine Kr.seqQ (v := .bool false) (a' := ?_) (by rfl) ?_ ?_ ?_; rotate_left 1; (focus (exact Kr.valOf rfl (lssT C4))); (focus ((try simp only [Kr.PT]); first | done | rfl)))
          refine Kr.seqDoneW ?_
          go_upto_region 15 with fail
          refine Kr.seqStartW ?_
          (refine Kr.seqQ (v := ?_) (a' := ?_) (by rfl) ?_ ?_ ?_; rotate_left 2; (focus (go_simp; first | done | rfl)); (focus ((try simp only [Kr.PT]); first | done | rfl)))
          refine Kr.seqDoneW ?_
          have hk := trivial
          go_wp2
          refine bodyPost_ret (v := .bool true) (by simp [results, Tryd.results60, go_sem, hk]) rfl ⟨rfl, H.g⟩
        · have hjl : j < ll := by omega
          have C4 : decide ((j : Int) < (ll : Int)) = true := decide_eq_true (by omega)
          clear hje
          obtain ⟨x, hx⟩ : ∃ x, t.l[j]? = some x := ⟨_, List.getElem?_eq_getElem (by rw [HLL.out]; exact hjl)⟩
          obtain ⟨b, off, v0, v1, v2, v3, hpl, hFb, c0, c1, c2, c3, hch⟩ := HLS.out j x hx
          subst hpl
          have HC0 := Lib.hid c0; have HC1 := Lib.hid c1; have HC2 := Lib.hid c2; have HC3 := Lib.hid c3; have HCH := Lib.hid hch; have HX := Lib.hid hx; clear c0 c1 c2 c3 hch hx hFb
          have HON : Hid (∀ v ∈ ([v0, v1, v2, v3] : List Value), v.oneCell' = true) := Lib.hid (ItV.one HCH.out)
          go_upto_region 10 with fail
          refine Kr.seqStartW ?_
          (refine Kr.seqQ (v := .bool true) (a' := ?_) (by rfl) ?_ ?_ ?_; rotate_left 1; (focus (exact Kr.valOf rfl (lssT C4))); (focus ((try simp only [Kr.PT]); first | done | rfl)))
          refine Kr.seqDoneW ?_
          go_upto_region 11 with fail
          refine Kr.seqStartW ?_
          (refine Kr.seqQ (v := .pointer (some ⟨b, off + j * 4, none⟩)) (a' := ?_) (by rfl) ?_ ?_ ?_; rotate_left 1; (focus (exact Kr.valOf rfl (ixI hjl))); (focus ((try simp only [Kr.PT]); first | done | rfl)))
          (refine Kr.seqQ (v := .agg #[v0, v1, v2, v3]) (a' := ?_) (by rfl) ?_ ?_ ?_; rotate_left 1; (focus (exact Kr.valOf rfl (ldItem (H.g.cell HC0.out) (H.g.cell HC1.out) (H.g.cell HC2.out) (H.g.cell HC3.out)))); (focus ((try simp only [Kr.PT]); first | done | rfl)))
          refine Kr.seqR (by rfl) (fun K hK => ?_)
          refine wp_runV rfl newI ?_
          obtain ⟨y2, hy⟩ : ∃ y, wr.alloc (.cells ([.int .i64 0, .int .i64 0, .slice none 0 0, .slice none 0 0]).toArray 49) = y := ⟨_, rfl⟩
          obtain ⟨bx, hb⟩ : ∃ b, wr.heap.size = b := ⟨_, rfl⟩
          rw [hy, hb]
          have hg : Gr wr y2 := hy ▸ (Gr.refl _).alloc _
          replace H := H.alloc hy hb
          clear hy hb hg
          (refine Kr.outS hK (a' := ?_) ?_ ?_; rotate_left; (focus ((try simp only [Kr.PT]); first | done | rfl))); clear hK K
          refine Kr.seqR (by rfl) (fun K hK => ?_)
          refine wp_run rfl (stI (H.at 0 rfl) HON.out) ?_
          obtain ⟨y3, hy⟩ : ∃ y, y2.setRow bx ([v0, v1, v2, v3]).toArray = y := ⟨_, rfl⟩
          rw [hy]
          replace H := H.put 0 hy rfl
          dsimp only [List.set] at H
          clear hy
          (refine Kr.outS hK (a' := ?_) ?_ ?_; rotate_left; (focus ((try simp only [Kr.PT]); first | done | rfl))); clear hK K
          refine Kr.seqDoneW ?_
          have hsub : IntKind.i64.wrap (((d + 1 : Nat) : Int) - 1) = (d : Int) := wrap_nat (by omega) (by omega)
          go_upto_region 12 with fail
          refine Kr.seqStartW ?_
          (refine Kr.seqQ (v := .agg #[v0, v1, v2, v3]) (a' := ?_) (by rfl) ?_ ?_ ?_; rotate_left 1; (focus (exact Kr.valOf rfl (ldI (H.at 0 rfl)))); (focus ((try simp only [Kr.PT]); first | done | rfl)))
          (refine Kr.seqQ (v := ?_) (a' := ?_) (by rfl) ?_ ?_ ?_; rotate_left 2; (focus (go_simp; first | done | rfl)); (focus ((try simp only [Kr.PT]); first | done | rfl)))
          (refine Kr.seqQ (v := .int .i64 (d : Int)) (a' := ?_) (by rfl) ?_ ?_ ?_; rotate_left 1; (focus (exact Kr.valOf rfl (subI hsub))); (focus ((try simp only [Kr.PT]); first | done | rfl)))
          refine Kr.seqR (by rfl) (fun K hK => ?_)
          go_simp
          go_at_call 60
          have hP := ih d rfl (w := y3) (HCH.out.grow H.g)
          obtain ⟨bx0, hbx0⟩ : ∃ z, vld d x = z := ⟨_, rfl⟩; rw [hbx0] at hP; have HBX := Lib.hid hbx0; clear hbx0
          refine (hP).mono ?_
          rintro e y4 ⟨rfl, hg⟩
          replace H := H.grow hg
          clear hg
          clear hP
          (refine Kr.outS hK (a' := ?_) ?_ ?_; rotate_left; (focus ((try simp only [Kr.PT]); first | done | rfl))); clear hK K
          (refine Kr.seqQ (v := .bool (!bx0)) (a' := ?_) (by rfl) ?_ ?_ ?_; rotate_left 1; (focus (exact Kr.valOf rfl ((by cases bx0 <;> go_simp)))); (focus ((try simp only [Kr.PT]); first | done | rfl)))
          refine Kr.seqDoneW ?_
          cases bx0
          · have hBt : RES = false := by
              rw [← HBV.out, List.all_eq_false]
              exact ⟨x, List.mem_of_getElem? HX.out, by rw [HBX.out]; exact Bool.false_ne_true⟩
            subst hBt
            go_upto_region 13 with fail
            refine Kr.seqStartW ?_
            (refine Kr.seqQ (v := ?_) (a' := ?_) (by rfl) ?_ ?_ ?_; rotate_left 2; (focus (go_simp; first | done | rfl)); (focus ((try simp only [Kr.PT]); first | done | rfl)))
            refine Kr.seqDoneW ?_
            have hk := trivial
            go_wp2
            refine bodyPost_ret (v := .bool false) (by simp [results, Tryd.results60, go_sem, hk]) rfl ⟨rfl, H.g⟩
          · have HAL2 : Hid (∀ i y, i < j + 1 → t.l[i]? = some y → vld d y = true) := Lib.hid (fun i y hi hy => by
              rcases (by omega : i < j ∨ i = j) with h | h
              · exact HAL.out i y h hy
              · rw [h, HX.out] at hy; cases hy; exact HBX.out)
            replace H := H.drop 1; dsimp only [List.drop] at H
            have HADD : IntKind.i64.wrap ((j : Int) + 1) = ((j + 1 : Nat) : Int) := wrap_nat (by omega) (by omega)
            go_upto_region 14 with fail
            refine Kr.seqStartW ?_
            (refine Kr.seqQ (v := .int .i64 ((j + 1 : Nat) : Int)) (a' := ?_) (by rfl) ?_ ?_ ?_; rotate_left 1; (focus (exact Kr.valOf rfl (addI HADD))); (focus ((try simp only [Kr.PT]); first | done | rfl)))
            (refine Kr.seqQ (v := ?_) (a' := ?_) (by rfl) ?_ ?_ ?_; rotate_left 2; (focus (go_simp; first | done | rfl)); (focus ((try simp only [Kr.PT]); first | done | rfl)))
            refine Kr.seqDoneW ?_
            go_wp2; go_roundw
            case rel =>
              first
              | exact ⟨j + 1, by omega, rfl, HAL2, Lib.hid H⟩
              | (repeat apply Exists.intro); exact ⟨⟨j + 1, by omega, rfl, HAL2, Lib.hid H⟩, rfl⟩
              | (repeat apply Exists.intro); refine ⟨⟨j + 1, by omega, rfl, HAL2, Lib.hid H⟩, ?_⟩; refine ⟨?_, ?_⟩ <;> (repeat apply And.intro) <;> rfl
            case measure => simp [intOf]; omega
  have C1 : decide (tk = 1) = false := decide_eq_false (by exact k1)
  have C2 : decide (tk = 2) = false := decide_eq_false (by exact k2)
  have C3 : decide (tk = 3) = false := decide_eq_false (by exact k3)
  have hr : RES = false := by rw [← HRES.out]; exact vldN (by rw [HTK.out]; exact k1) (by rw [HTK.out]; exact k2) (by rw [HTK.out]; exact k3) d
  subst hr; clear k1 k2 k3
  go_upto_region 2 with fail
  refine Kr.seqStartW ?_
  (refine Kr.seqQ (v := .bool false) (a' := ?_) (by rfl) ?_ ?_ ?_; rotate_left 1; (focus (exact Kr.valOf rfl (eqlI C1))); (focus ((try simp only [Kr.PT]); first | done | rfl)))
  (refine Kr.seqQ (v := ?_) (a' := ?_) (by rfl) ?_ ?_ ?_; rotate_left 2; (focus (go_simp; first | done | rfl)); (focus ((try simp only [Kr.PT]); first | done | rfl)))
  refine Kr.seqDoneW ?_
  go_upto_region 4 with fail
  refine Kr.seqStartW ?_
  (refine Kr.seqQ (v := .bool false) (a' := ?_) (by rfl) ?_ ?_ ?_; rotate_left 1; (focus (exact Kr.valOf rfl (eqlI C2))); (focus ((try simp only [Kr.PT]); first | done | rfl)))
  (refine Kr.seqQ (v := ?_) (a' := ?_) (by rfl) ?_ ?_ ?_; rotate_left 2; (focus (go_simp; first | done | rfl)); (focus ((try simp only [Kr.PT]); first | done | rfl)))
  refine Kr.seqDoneW ?_
  go_upto_region 6 with fail
  refine Kr.seqStartW ?_
  (refine Kr.seqQ (v := .bool false) (a' := ?_) (by rfl) ?_ ?_ ?_; rotate_left 1; (focus (exact Kr.valOf rfl (eqlI C3))); (focus ((try simp only [Kr.PT]); first | done | rfl)))
  (refine Kr.seqQ (v := ?_) (a' := ?_) (by rfl) ?_ ?_ ?_; rotate_left 2; (focus (go_simp; first | done | rfl)); (focus ((try simp only [Kr.PT]); first | done | rfl)))
  refine Kr.seqDoneW ?_
  go_upto_region 16 with fail
  refine Kr.seqStartW ?_
  (refine Kr.seqQ (v := ?_) (a' := ?_) (by rfl) ?_ ?_ ?_; rotate_left 2; (focus (go_simp; first | done | rfl)); (focus ((try simp only [Kr.PT]); first | done | rfl)))
  refine Kr.seqDoneW ?_
  have hk := trivial
  go_wp2
  refine bodyPost_ret (v := .bool false) (by simp [results, Tryd.results60, go_sem, hk]) rfl ⟨rfl, H.g⟩
theorem within_v : ∀ {d : Nat}, d ≤ 8 → ∀ {k : Nat} {F : Nat → Prop} {v : Value} {t : It} {w : World}, ItV w k F v t →
    Calls Tryd.prog 60 #[v, .int .i64 (d : Int)] w fun e w' => e = .returned (.bool (vld d t)) ∧ Gr w w'
  | 0, h, _, _, _, _, _, hI => within_step h (fun e he => by omega) hI
  | d + 1, h, _, _, _, _, _, hI => within_step h (fun e he => by
      obtain rfl : e = d := by omega
      exact within_v (by omega)) hI

end Go.Proofs.YtldgjhmefaapeaaDoor.Dg


/- Valid, writeNumber. -/
namespace Go.Proofs.YtldgjhmefaapeaaDoor.Dg
open Go Go.RowKit Go.Proofs.YtldgjhmefaapeaaDoor.Ne Go.Proofs.YtldgjhmefaapeaaDoor.Kr

theorem shrZ {w : World} {x q : Int} {k : Nat} (hk : k < 64) (hq : x / 2 ^ k = q) : (binOp .shr 3 (.int .i64 x) (.int .i64 (k : Int))).run Tryd.prog w = .ok (.int .i64 q) w := by
  have h1 : ¬ ((k : Int) < 0) := by omega
  have h2 : (k : Int) < 64 := by omega
  have h3 : (k : Int).toNat = k := by omega
  clear hk
  go_simp
theorem convZ8 {w : World} {q : Int} {z : BitVec 8} (h : BitVec.ofInt 8 q = z) : (convert 3 5 (.int .i64 q)).run Tryd.prog w = .ok (.int .u8 (z.toNat : Int)) w := by
  have e : IntKind.u8.wrap q = (z.toNat : Int) := by
    rw [← h, IntKind.wrap_u8', BitVec.toNat_ofInt]
    omega
  clear h
  go_simp
def byt (n : Int) (j : Nat) : BitVec 8 := BitVec.ofInt 8 (n / 2 ^ (8 * j))
/-- A number in so many bytes, the greatest first. -/
def beI (m : Nat) (n : Int) : List (BitVec 8) := (List.range m).map fun i => byt n (m - 1 - i)
theorem beI_length (m : Nat) (n : Int) : (beI m n).length = m := by simp [beI]
theorem beI_take {m i : Nat} (n : Int) (h : i < m) : (beI m n).take (i + 1) = (beI m n).take i ++ [byt n (m - 1 - i)] := by
  rw [List.take_add_one]
  congr 1
  simp [beI, h]
def encL (t : It) : List (BitVec 8) := if t.k = 1 then 1 :: beI 8 t.n else 2 :: (beI 4 (t.b.length : Int) ++ t.b)
/-- The encoding of a valid item. -/
def enc : Nat → It → List (BitVec 8)
  | 0, t => encL t
  | d + 1, t => if t.k = 3 then 3 :: (beI 4 (t.l.length : Int) ++ t.l.flatMap (enc d)) else encL t
theorem enc1 {t : It} (h : t.k = 1) : ∀ d, enc d t = 1 :: beI 8 t.n
  | 0 => by simp [enc, encL, h]
  | d + 1 => by simp [enc, encL, h]
theorem enc2 {t : It} (h : t.k = 2) : ∀ d, enc d t = 2 :: (beI 4 (t.b.length : Int) ++ t.b)
  | 0 => by simp [enc, encL, h]
  | d + 1 => by simp [enc, encL, h]
theorem enc3 {t : It} (h : t.k = 3) (d : Nat) : enc (d + 1) t = 3 :: (beI 4 (t.l.length : Int) ++ t.l.flatMap (enc d)) := by simp [enc, h]
theorem vld_cases : ∀ {d : Nat} {t : It}, vld d t = true → t.k = 1 ∨ t.k = 2 ∨ (t.k = 3 ∧ ∃ e, d = e + 1 ∧ t.l.length ≤ 1000 ∧ ∀ x ∈ t.l, vld e x = true)
  | 0, t, h => by
    by_cases h1 : t.k = 1
    · exact .inl h1
    by_cases h2 : t.k = 2
    · exact .inr (.inl h2)
    simp [vld, leaf, h1, h2] at h
  | d + 1, t, h => by
    by_cases h1 : t.k = 1
    · exact .inl h1
    by_cases h2 : t.k = 2
    · exact .inr (.inl h2)
    by_cases h3 : t.k = 3
    · refine .inr (.inr ⟨h3, d, rfl, ?_⟩)
      rw [vld3 h3] at h
      simp only [Bool.and_eq_true, decide_eq_true_eq, List.all_eq_true] at h
      exact ⟨h.2.2.1, h.2.2.2⟩
    · rw [vldN h1 h2 h3] at h; cases h
/-- The encodings of the first j items. -/
def fl (d : Nat) (l : List It) (j : Nat) : List (BitVec 8) := (l.take j).flatMap (enc d)
theorem fl_succ {d : Nat} {l : List It} {j : Nat} {x : It} (h : l[j]? = some x) : fl d l (j + 1) = fl d l j ++ enc d x := by
  unfold fl
  rw [List.take_add_one, h, List.flatMap_append]
  simp
theorem fl_all (d : Nat) (l : List It) {j : Nat} (h : l.length ≤ j) : fl d l j = l.flatMap (enc d) := by
  unfold fl; rw [List.take_of_length_le h]
theorem fl_le (d : Nat) (l : List It) (j : Nat) : (fl d l j).length ≤ (l.flatMap (enc d)).length := by
  conv => rhs; rw [← List.take_append_drop j l]
  rw [List.flatMap_append, List.length_append]
  exact Nat.le_add_right _ _
theorem src_item {W : World} {F : Nat → Prop} {pb : Option Addr} {l : List (BitVec 8)} (h : l = [] ∨ ∃ b off, pb = some ⟨b, off, none⟩ ∧ F b ∧ BytesAt b off l W) : SrcB pb l W := h.imp id (fun ⟨b, off, e, _, h⟩ => ⟨b, off, e, h⟩)

set_option linter.unusedSimpArgs false in
set_option maxRecDepth 100000 in
set_option maxHeartbeats 16000000 in
theorem Valid_v {k : Nat} {F : Nat → Prop} {v : Value} {t : It} {w : World} (hI : ItV w k F v t) :
    Calls Tryd.prog 51 #[v] w fun e w' => e = .returned (.bool (vld 8 t)) ∧ Gr w w' := by
  have hI0 := hI
  obtain ⟨k0, rfl⟩ : ∃ k0, k = k0 + 1 := by cases k with
    | zero => exact hI.elim
    | succ k0 => exact ⟨k0, rfl⟩
  obtain ⟨pb, cb, pl, cl, hv, hk1, hn1, hpb, hcb, hbl, hll, hB, hL⟩ := hI; subst hv
  obtain ⟨tk, htk⟩ : ∃ z, t.k = z := ⟨_, rfl⟩; obtain ⟨tn, htn⟩ : ∃ z, t.n = z := ⟨_, rfl⟩; obtain ⟨bl, hbl2⟩ : ∃ z, t.b.length = z := ⟨_, rfl⟩; obtain ⟨ll, hll2⟩ : ∃ z, t.l.length = z := ⟨_, rfl⟩
  rw [htk] at hk1; rw [htn] at hn1; rw [hbl2] at hcb hbl; rw [hll2] at hll; have HTK := Lib.hid htk; have HTN := Lib.hid htn; have HBL := Lib.hid hbl2; have HLL := Lib.hid hll2; have HBB := Lib.hid hB; have HLS := Lib.hid hL; have HPB := Lib.hid hpb; have HI1 := Lib.hid hk1; have HI2 := Lib.hid hn1; rw [htk, htn, hbl2, hll2] at hI0; rw [htk, htn, hbl2, hll2]; clear htk htn hbl2 hll2 hB hL hpb hk1 hn1
  have hW := fun (W : World) (g : Gr w W) => within_v (d := 8) (Nat.le_refl _) (hI0.grow g)
  obtain ⟨RES, hRS⟩ : ∃ z, vld 8 t = z := ⟨_, rfl⟩; rw [hRS] at hW ⊢; have HW := Lib.hid hW; clear hRS hW hI0
  have H := Ow.start w
  go_enter Tryd.func51, Tryd.ntmps51
  go_upto_region 0 with fail
  refine Kr.seqStartW ?_
  refine Kr.seqR (by rfl) (fun K hK => ?_)
  refine wp_runV rfl boxI ?_
  obtain ⟨y1, hy⟩ : ∃ y, w.alloc (.cells ([.int .i64 tk, .int .i64 tn, .slice pb bl cb, .slice pl ll cl]).toArray 49) = y := ⟨_, rfl⟩
  obtain ⟨ba, hb⟩ : ∃ b, w.heap.size = b := ⟨_, rfl⟩
  rw [hy, hb]
  have hg : Gr w y1 := hy ▸ (Gr.refl _).alloc _
  replace H := H.alloc hy hb
  clear hy hb hg
  (refine Kr.outS hK (a' := ?_) ?_ ?_; rotate_left; (focus ((try simp only [Kr.PT]); first | done | rfl))); clear hK K
  (refine Kr.seqQ (v := ?_) (a' := ?_) (by rfl) ?_ ?_ ?_; rotate_left 2; (focus (go_simp; first | done | rfl)); (focus ((try simp only [Kr.PT]); first | done | rfl)))
  refine Kr.seqDoneW ?_
  go_upto_region 1 with fail
  refine Kr.seqStartW ?_
  (refine Kr.seqQ (v := .agg #[.int .i64 tk, .int .i64 tn, .slice pb bl cb, .slice pl ll cl]) (a' := ?_) (by rfl) ?_ ?_ ?_; rotate_left 1; (focus (exact Kr.valOf rfl (ldI (H.at 0 rfl)))); (focus ((try simp only [Kr.PT]); first | done | rfl)))
  refine Kr.seqR (by rfl) (fun K hK => ?_)
  go_simp
  go_at_call 60
  refine (HW.out _ H.g).mono ?_
  rintro e y2 ⟨rfl, hg⟩
  replace H := H.grow hg
  clear hg
  (refine Kr.outS hK (a' := ?_) ?_ ?_; rotate_left; (focus ((try simp only [Kr.PT]); first | done | rfl))); clear hK K
  (refine Kr.seqQ (v := ?_) (a' := ?_) (by rfl) ?_ ?_ ?_; rotate_left 2; (focus (go_simp; first | done | rfl)); (focus ((try simp only [Kr.PT]); first | done | rfl)))
  refine Kr.seqDoneW ?_
  have hk := trivial
  go_wp2
  refine bodyPost_ret (v := .bool RES) (by simp [results, Tryd.results51, go_sem, hk]) rfl ⟨rfl, H.g⟩
set_option linter.unusedSimpArgs false in
set_option maxRecDepth 100000 in
set_option maxHeartbeats 16000000 in
theorem wnum_v {w0 w : World} {rs : List Blk} {v : Value} {r : List Value} {n : Int} {m : Nat} (H : Ow w0 w rs) (HR : RowG 5 w0.heap.size v r w) (HA : Apt v rs) (hm : m ≤ 8) (hb : r.length ≤ 99999900) :
    Calls Tryd.prog 61 #[v, .int .i64 n, .int .i64 (m : Int)] w fun e w' => ∃ v2, e = .returned v2 ∧ RowG 5 w0.heap.size v2 (r ++ (beI m n).map w8) w' ∧ Apt v2 rs ∧ Ow w0 w' rs := by
  obtain ⟨R, hR⟩ : ∃ R, beI m n = R := ⟨_, rfl⟩
  have hRl : R.length = m := by rw [← hR]; exact beI_length _ _
  rw [hR]; have HRE := Lib.hid hR; clear hR; have HR0 := Lib.hid HR; clear HR; have HA0 := Lib.hid HA; clear HA
  have hm1 : IntKind.i64.wrap ((m : Int) - 1) = (m : Int) - 1 := IntWalk.i64_in _ (by omega)
  go_enter Tryd.func61, Tryd.ntmps61
  go_upto_region 0 with fail
  refine Kr.seqStartW ?_
  (refine Kr.seqQ (v := ?_) (a' := ?_) (by rfl) ?_ ?_ ?_; rotate_left 2; (focus (go_simp; first | done | rfl)); (focus ((try simp only [Kr.PT]); first | done | rfl)))
  refine Kr.seqDoneW ?_
  go_upto_region 1 with fail
  refine Kr.seqStartW ?_
  (refine Kr.seqQ (v := ?_) (a' := ?_) (by rfl) ?_ ?_ ?_; rotate_left 2; (focus (go_simp; first | done | rfl)); (focus ((try simp only [Kr.PT]); first | done | rfl)))
  (refine Kr.seqQ (v := .int .i64 ((m : Int) - 1)) (a' := ?_) (by rfl) ?_ ?_ ?_; rotate_left 1; (focus (exact Kr.valOf rfl (subI hm1))); (focus ((try simp only [Kr.PT]); first | done | rfl)))
  (refine Kr.seqQ (v := ?_) (a' := ?_) (by rfl) ?_ ?_ ?_; rotate_left 2; (focus (go_simp; first | done | rfl)); (focus ((try simp only [Kr.PT]); first | done | rfl)))
  refine Kr.seqDoneW ?_
  have H2 := Lib.hid H; clear H hm1
  go_wp2_with fail
  go_loopw [0, 7] (fun v iv wr => ∃ (j : Nat) (i : Int), j ≤ m ∧ i + j = (m : Int) - 1 ∧ iv = .int .i64 i ∧ Hid (RowG 5 w0.heap.size v (r ++ (R.take j).map w8) wr) ∧ Hid (Apt v rs) ∧ Hid (Ow w0 wr rs)) (fun _ iv _ => (intOf iv + 1).toNat)
  case atStart => exact ⟨0, (m : Int) - 1, by omega, by omega, rfl, by rw [List.take_zero, List.map_nil, List.append_nil]; exact HR0, HA0, H2⟩
  case round =>
    clear H2 HR0 HA0; obtain ⟨j, i, hj, hij, rfl, HR, HA, HH⟩ := hrel; have H := HH.out; replace HA := HA.out; clear HH
    have htl : (R.take j).length = j := by rw [List.length_take, hRl]; omega
    by_cases hje : j = m
    · have HC : decide ((0 : Int) ≤ i) = false := decide_eq_false (by omega)
      rw [show R.take j = R from List.take_of_length_le (by omega)] at HR
      clear hje htl
      go_upto_region 2 with fail
      refine Kr.seqStartW ?_
      (refine Kr.seqQ (v := ?_) (a' := ?_) (by rfl) ?_ ?_ ?_; rotate_left 2; (focus (go_simp; first | done | rfl)); (focus ((try simp only [Kr.PT]); first | done | rfl)))
      (refine Kr.seqQ (v := .bool false) (a' := ?_) (by rfl) ?_ ?_ ?_; rotate_left 1; (focus (exact Kr.valOf rfl (geqI HC))); (focus ((try simp only [Kr.PT]); first | done | rfl)))
      refine Kr.seqDoneW ?_
      go_upto_region 5 with fail
      refine Kr.seqStartW ?_
      (refine Kr.seqQ (v := ?_) (a' := ?_) (by rfl) ?_ ?_ ?_; rotate_left 2; (focus (go_simp; first | done | rfl)); (focus ((try simp only [Kr.PT]); first | done | rfl)))
      (refine Kr.seqQ (v := ?_) (a' := ?_) (by rfl) ?_ ?_ ?_; rotate_left 2; (focus (go_simp; first | done | rfl)); (focus ((try simp only [Kr.PT]); first | done | rfl)))
      refine Kr.seqDoneW ?_
      have hk := trivial
      go_wp2
      refine bodyPost_ret (v := u0) (by simp [results, Tryd.results61, go_sem, hk]) rfl ⟨_, rfl, HR.out, HA, H⟩
    · have hjl : j < m := by omega
      obtain ⟨k, rfl⟩ : ∃ k : Nat, i = (k : Int) := ⟨i.toNat, by omega⟩
      have HC : decide ((0 : Int) ≤ (k : Int)) = true := decide_eq_true (by omega)
      have hk7 : m - 1 - j = k := by omega
      obtain ⟨kk, hkk⟩ : ∃ z, 8 * k = z := ⟨_, rfl⟩; obtain ⟨q, hq⟩ : ∃ z, n / 2 ^ kk = z := ⟨_, rfl⟩; obtain ⟨z, hz⟩ : ∃ z, BitVec.ofInt 8 q = z := ⟨_, rfl⟩
      have hzb : byt n (m - 1 - j) = z := by unfold byt; rw [hk7, hkk, hq, hz]
      have htk : r ++ (R.take (j + 1)).map w8 = (r ++ (R.take j).map w8) ++ [w8 z] := by rw [← HRE.out, beI_take n hjl, hzb, List.map_append, List.append_assoc]; rfl
      have hmul : IntKind.i64.wrap ((8 : Int) * (k : Int)) = (kk : Int) := wrap_nat (by omega) (by omega)
      obtain ⟨i2, hi2⟩ : ∃ i2 : Int, (k : Int) - 1 = i2 := ⟨_, rfl⟩
      have hsub : IntKind.i64.wrap ((k : Int) - 1) = i2 := by rw [hi2]; exact IntWalk.i64_in _ (by omega)
      have HQ := Lib.hid hq; clear hq; have HZB := Lib.hid hzb; clear hzb; have HTK := Lib.hid htk; clear htk
      go_upto_region 2 with fail
      refine Kr.seqStartW ?_
      (refine Kr.seqQ (v := ?_) (a' := ?_) (by rfl) ?_ ?_ ?_; rotate_left 2; (focus (go_simp; first | done | rfl)); (focus ((try simp only [Kr.PT]); first | done | rfl)))
      (refine Kr.seqQ (v := .bool true) (a' := ?_) (by rfl) ?_ ?_ ?_; rotate_left 1; (focus (exact Kr.valOf rfl (geqI HC))); (focus ((try simp only [Kr.PT]); first | done | rfl)))
      refine Kr.seqDoneW ?_
      go_upto_region 4 with fail
      refine Kr.seqStartW ?_
      (refine Kr.seqQ (v := ?_) (a' := ?_) (by rfl) ?_ ?_ ?_; rotate_left 2; (focus (go_simp; first | done | rfl)); (focus ((try simp only [Kr.PT]); first | done | rfl)))
      (refine Kr.seqQ (v := ?_) (a' := ?_) (by rfl) ?_ ?_ ?_; rotate_left 2; (focus (go_simp; first | done | rfl)); (focus ((try simp only [Kr.PT]); first | done | rfl)))
      (refine Kr.seqQ (v := ?_) (a' := ?_) (by rfl) ?_ ?_ ?_; rotate_left 2; (focus (go_simp; first | done | rfl)); (focus ((try simp only [Kr.PT]); first | done | rfl)))
      (refine Kr.seqQ (v := .int .i64 (kk : Int)) (a' := ?_) (by rfl) ?_ ?_ ?_; rotate_left 1; (focus (exact Kr.valOf rfl (mulI hmul))); (focus ((try simp only [Kr.PT]); first | done | rfl)))
      (refine Kr.seqQ (v := .int .i64 q) (a' := ?_) (by rfl) ?_ ?_ ?_; rotate_left 1; (focus (exact Kr.valOf rfl (shrZ (by omega) HQ.out))); (focus ((try simp only [Kr.PT]); first | done | rfl)))
      (refine Kr.seqQ (v := .int .u8 ((z).toNat : Int)) (a' := ?_) (by rfl) ?_ ?_ ?_; rotate_left 1; (focus (exact Kr.valOf rfl (convZ8 hz))); (focus ((try simp only [Kr.PT]); first | done | rfl)))
      refine Kr.seqR (by rfl) (fun K hK => ?_)
      go_simp
      obtain ⟨y1, hy⟩ : ∃ y, wr.alloc (.cells #[.int .u8 ((z).toNat : Int)] 5) = y := ⟨_, rfl⟩
      obtain ⟨bone, hbn⟩ : ∃ b, wr.heap.size = b := ⟨_, rfl⟩
      rw [hy, hbn]
      have hy2 : wr.alloc (.cells ([.int .u8 ((z).toNat : Int)] : List Value).toArray 5) = y1 := hy
      have hg : Gr wr y1 := hy ▸ (Gr.refl _).alloc _
      have HLIT := Lib.hid (hbn ▸ hy2 ▸ lit_src (W := wr) (T := 5) [.int .u8 ((z).toNat : Int)]); clear hy2
      replace H := H.grow hg
      replace HR := Lib.hid (HR.out.grow hg)
      clear hg hy hbn
      (refine Kr.outS hK (a' := ?_) ?_ ?_; rotate_left; (focus ((try simp only [Kr.PT]); first | done | rfl))); clear hK K
      refine Kr.seqR (by rfl) (fun K hK => ?_)
      refine wp_appG (T := 5) (TS := 46) Tryd.underlying46 info8 rfl (.tmp 14) (.tmp 20) rfl (v := u0) (r := (r ++ (R.take j).map w8)) (d := [w8 z]) (p := (some ⟨bone, 0, none⟩)) (m := 1) (c := 1) (rs := (rs)) rfl rfl (rfl) (HLIT.out) (one_lit8 [z]) (fun e => by cases e) H HR.out HA (by rw [List.length_append, List.length_map, htl]; omega) (by decide) ?_
      intro q3 y2 H3 hR3 hA3
      clear H HR HA HLIT; have H := H3; have HR := Lib.hid hR3; have HA := hA3; clear H3 hR3 hA3
      (refine Kr.outS hK (a' := ?_) ?_ ?_; rotate_left; (focus ((try simp only [Kr.PT]); first | done | rfl))); clear hK K
      (refine Kr.seqQ (v := ?_) (a' := ?_) (by rfl) ?_ ?_ ?_; rotate_left 2; (focus (go_simp; first | done | rfl)); (focus ((try simp only [Kr.PT]); first | done | rfl)))
      refine Kr.seqDoneW ?_
      rw [← HTK.out] at HR
      go_upto_region 3 with fail
      refine Kr.seqStartW ?_
      (refine Kr.seqQ (v := ?_) (a' := ?_) (by rfl) ?_ ?_ ?_; rotate_left 2; (focus (go_simp; first | done | rfl)); (focus ((try simp only [Kr.PT]); first | done | rfl)))
      (refine Kr.seqQ (v := .int .i64 i2) (a' := ?_) (by rfl) ?_ ?_ ?_; rotate_left 1; (focus (exact Kr.valOf rfl (subI hsub))); (focus ((try simp only [Kr.PT]); first | done | rfl)))
      (refine Kr.seqQ (v := ?_) (a' := ?_) (by rfl) ?_ ?_ ?_; rotate_left 2; (focus (go_simp; first | done | rfl)); (focus ((try simp only [Kr.PT]); first | done | rfl)))
      refine Kr.seqDoneW ?_
      go_wp2; go_roundw
      case rel =>
        first
        | exact ⟨j + 1, i2, by omega, by omega, rfl, HR, Lib.hid HA, Lib.hid H⟩
        | (repeat apply Exists.intro); exact ⟨⟨j + 1, i2, by omega, by omega, rfl, HR, Lib.hid HA, Lib.hid H⟩, rfl⟩
        | (repeat apply Exists.intro); refine ⟨⟨j + 1, i2, by omega, by omega, rfl, HR, Lib.hid HA, Lib.hid H⟩, ?_⟩; refine ⟨?_, ?_⟩ <;> (repeat apply And.intro) <;> rfl
      case measure => simp [intOf]; omega
end Go.Proofs.YtldgjhmefaapeaaDoor.Dg
