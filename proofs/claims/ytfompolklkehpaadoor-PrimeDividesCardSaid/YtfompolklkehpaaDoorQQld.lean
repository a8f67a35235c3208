/- The walk of PrimeDivides. -/
import Derived.Test.YtfompolklkehpaaDoorPp5
import Derived.Test.YtfompolklkehpaaDoorQQmb
import Derived.Deep.Cut
namespace Go.Proofs.YtfompolklkehpaaDoor.Pr
open Go.RowKit Go.Shelf Go.Proofs.YtfompolklkehpaaDoor.Nm Go.Proofs.YtfompolklkehpaaDoor.Ne Go.Proofs.YtfompolklkehpaaDoor.Nf Go.Proofs.YtfompolklkehpaaDoor.Nk Go.Proofs.YtfompolklkehpaaDoor.Nv Go.Proofs.YtfompolklkehpaaDoor.Nr2 Go.Proofs.YtfompolklkehpaaDoor.Mo Go.Proofs.YtfompolklkehpaaDoor.Mr Go.Proofs.YtfompolklkehpaaDoor.Kr

theorem pri_of_trial {k d : Nat} (h2 : 2 ≤ k) (hd : k < d * d) (h : ∀ e, 2 ≤ e → e < d → k % e ≠ 0) : Pri k := by
  refine Classical.byContradiction fun hp => ?_
  obtain ⟨p, pp, hpk, hpp⟩ := has_small h2 hp
  refine h p pp.1 ?_ (Nat.mod_eq_zero_of_dvd hpk)
  rcases Nat.lt_or_ge p d with h1 | h1
  · exact h1
  · have := Nat.mul_le_mul h1 h1
    omega
/-- What the law's loop knows of k. -/
def Tried (k d : Nat) (is : Bool) : Prop := if is = true then 2 ≤ k ∧ ∀ e, 2 ≤ e → e < d → k % e ≠ 0 else isP k = false
theorem tried_start (k : Nat) : Tried k 2 (decide (2 ≤ k)) := by
  unfold Tried
  by_cases h : 2 ≤ k
  · rw [if_pos (decide_eq_true h)]; exact ⟨h, fun e h1 h2 => absurd h1 (by omega)⟩
  · rw [if_neg (by rw [decide_eq_false h]; decide)]
    unfold isP
    rw [if_pos (by omega)]
theorem tried_step {k d : Nat} (hk : k < 1048576) (hd : 2 ≤ d) (hdk : d * d ≤ k) (h : Tried k d true) : Tried k (d + 1) (!decide (k % d = 0)) := by
  have h1 : 2 ≤ k ∧ ∀ e, 2 ≤ e → e < d → k % e ≠ 0 := h
  unfold Tried
  by_cases h0 : k % d = 0
  · rw [if_neg (by rw [decide_eq_true h0]; decide)]
    cases hp : isP k with
    | false => rfl
    | true =>
      have pk := pri_of_isP hk hp
      rcases pk.2 d (Nat.dvd_of_mod_eq_zero h0) with h2 | h2
      · omega
      · subst h2
        have := Nat.mul_le_mul_right d hd
        omega
  · rw [if_pos (by rw [decide_eq_false h0]; decide)]
    refine ⟨h1.1, fun e h2 h3 => ?_⟩
    rcases Nat.lt_succ_iff_lt_or_eq.1 h3 with h4 | h4
    · exact h1.2 e h2 h4
    · subst h4; exact h0
theorem tried_end {k d : Nat} {is : Bool} (hk : k < 1048576) (h : Tried k d is) (he : is = true → k < d * d) : is = isP k := by
  cases is with
  | false => exact (show isP k = false from h).symm
  | true =>
    have h1 : 2 ≤ k ∧ ∀ e, 2 ≤ e → e < d → k % e ≠ 0 := h
    exact (isP_pri (pri_of_trial h1.1 (he rfl) h1.2) (by omega)).symm
theorem next_le {k p : Nat} (hk : k < 1048576) (h : IsNext k p) : p ≤ 2 * k + 2 := by
  obtain ⟨q, hq, h1, h2⟩ := chain_get hk
  rcases Nat.lt_or_ge q p with h3 | h3
  · have := h.2.2 q h1 h3
    rw [chain_isP q hq] at this; cases this
  · omega
theorem negI {w : World} {x z : Int} (h : IntKind.i64.wrap (-x) = z) : (Op.unary .neg (.int .i64 x)).run Tryd.prog w = .ok (.int .i64 z) w := by
  subst h; go_simp
theorem conv32 {w : World} {x : Nat} (hx : x < 4294967296) : (convert 35 3 (.int .u32 (x : Int))).run Tryd.prog w = .ok (.int .i64 (x : Int)) w := by
  have : IntKind.i64.wrap (x : Int) = (x : Int) := IntWalk.i64_in _ (by omega)
  clear hx
  go_simp
set_option linter.unusedSimpArgs false in
set_option maxRecDepth 100000 in
set_option maxHeartbeats 16000000 in
theorem divides_v {n : Nat} {w : World} (hn : n < 4294967296) (hT : Wb.Tab w ∧ Bas w) (haw : ∀ W, Gr w W → Calls Tryd.prog 10 #[] W fun e w' => e = .returned (.bool true) ∧ Gr W w') :
    Calls Tryd.prog 6 #[.int .u32 (n : Int)] w fun r w' => r = .returned (.bool true) ∧ Gr w w' := by
  have HT := Lib.hid hT; have HAW := Lib.hid haw; have HN := Lib.hid hn; clear hT haw hn
  obtain ⟨k, hk⟩ : ∃ k, n % 1048576 = k := ⟨_, rfl⟩
  have HK := Lib.hid hk; have HKM : Hid (k < 1048576) := Lib.hid (by omega); clear hk
  obtain ⟨b, hb⟩ : ∃ b, isP k = b := ⟨_, rfl⟩
  have HB := Lib.hid hb; clear hb
  obtain ⟨b0, hb0⟩ : ∃ b, decide ((2 : Int) ≤ (k : Int)) = b := ⟨_, rfl⟩
  have HB0 := Lib.hid hb0; have HTR0 : Hid (Tried k 2 b0) := Lib.hid (by rw [← hb0, show decide ((2 : Int) ≤ (k : Int)) = decide (2 ≤ k) from decide_eq_decide.2 (by omega)]; exact tried_start k); clear hb0
  have H := Sta.start w
  go_enter Tryd.func6, Tryd.ntmps6
  go_upto_region 0 with fail
  refine Kr.seqStartW ?_
  (refine Kr.seqQ (v := ?_) (a' := ?_) (by rfl) ?_ ?_ ?_; rotate_left 2; (focus (go_simp; first | done | rfl)); (focus ((try simp only [Kr.PT]); first | done | rfl)))
  refine Kr.seqDoneW ?_
  go_upto_region 1 with fail
  refine Kr.seqStartW ?_
  refine Kr.seqR (by rfl) (fun K hK => ?_)
  go_simp
  go_at_call 10
  refine (HAW.out _ H.g).mono ?_
  rintro e y1 ⟨rfl, hg⟩
  replace H := H.grow hg
  clear hg
  (refine Kr.outS hK (a' := ?_) ?_ ?_; rotate_left; (focus ((try simp only [Kr.PT]); first | done | rfl))); clear hK K
  (refine Kr.seqQ (v := ?_) (a' := ?_) (by rfl) ?_ ?_ ?_; rotate_left 2; (focus (go_simp; first | done | rfl)); (focus ((try simp only [Kr.PT]); first | done | rfl)))
  refine Kr.seqDoneW ?_
  go_upto_region 3 with fail
  refine Kr.seqStartW ?_
  (refine Kr.seqQ (v := ?_) (a' := ?_) (by rfl) ?_ ?_ ?_; rotate_left 2; (focus (go_simp; first | done | rfl)); (focus ((try simp only [Kr.PT]); first | done | rfl)))
  (refine Kr.seqQ (v := .int .i64 (n : Int)) (a' := ?_) (by rfl) ?_ ?_ ?_; rotate_left 1; (focus (exact Kr.valOf rfl (conv32 HN.out))); (focus ((try simp only [Kr.PT]); first | done | rfl)))
  (refine Kr.seqQ (v := .int .i64 (k : Int)) (a' := ?_) (by rfl) ?_ ?_ ?_; rotate_left 1; (focus (exact Kr.valOf rfl (remI (d := 1048576) (by decide) HK.out (by decide)))); (focus ((try simp only [Kr.PT]); first | done | rfl)))
  (refine Kr.seqQ (v := ?_) (a' := ?_) (by rfl) ?_ ?_ ?_; rotate_left 2; (focus (go_simp; first | done | rfl)); (focus ((try simp only [Kr.PT]); first | done | rfl)))
  refine Kr.seqDoneW ?_
  go_upto_region 4 with fail
  refine Kr.seqStartW ?_
  (refine Kr.seqQ (v := ?_) (a' := ?_) (by rfl) ?_ ?_ ?_; rotate_left 2; (focus (go_simp; first | done | rfl)); (focus ((try simp only [Kr.PT]); first | done | rfl)))
  (refine Kr.seqQ (v := .bool b0) (a' := ?_) (by rfl) ?_ ?_ ?_; rotate_left 1; (focus (exact Kr.valOf rfl (geqI HB0.out))); (focus ((try simp only [Kr.PT]); first | done | rfl)))
  (refine Kr.seqQ (v := ?_) (a' := ?_) (by rfl) ?_ ?_ ?_; rotate_left 2; (focus (go_simp; first | done | rfl)); (focus ((try simp only [Kr.PT]); first | done | rfl)))
  refine Kr.seqDoneW ?_
  go_upto_region 5 with fail
  refine Kr.seqStartW ?_
  (refine Kr.seqQ (v := ?_) (a' := ?_) (by rfl) ?_ ?_ ?_; rotate_left 2; (focus (go_simp; first | done | rfl)); (focus ((try simp only [Kr.PT]); first | done | rfl)))
  refine Kr.seqDoneW ?_
  have H2 := Lib.hid H
  clear H
  go_wp2_with fail
  go_loopw [4, 5] (fun iv dv wr => ∃ (d : Nat) (is : Bool), 2 ≤ d ∧ d ≤ 1025 ∧ iv = .bool is ∧ dv = .int .i64 (d : Int) ∧ Hid (Tried k d is) ∧ Hid (Sta w wr [] [])) (fun _ dv _ => 1025 - (intOf dv).toNat)
  case atStart => exact ⟨2, b0, by decide, by decide, rfl, rfl, HTR0, H2⟩
  case round =>
    clear H2 HTR0 HB0
    obtain ⟨d, is, hd2, hdm, rfl, rfl, HTR, HH⟩ := hrel
    have H := HH.out; have HD2 := Lib.hid hd2; have HDM := Lib.hid hdm; clear HH hd2 hdm
    obtain ⟨dd, hdd⟩ : ∃ dd, d * d = dd := ⟨_, rfl⟩
    have hdd2 : dd ≤ 1025 * 1025 := hdd ▸ Nat.mul_le_mul HDM.out HDM.out
    have HDD := Lib.hid hdd; have HMUL : Hid (IntKind.i64.wrap ((d : Int) * (d : Int)) = (dd : Int)) := Lib.hid (wrap_nat (by rw [← hdd, Int.natCast_mul]) (by omega)); clear hdd hdd2
    by_cases hdk : dd ≤ k
    · have HC : Hid (decide ((dd : Int) ≤ (k : Int)) = true) := Lib.hid (decide_eq_true (by omega))
      have HDK := Lib.hid hdk; clear hdk
      cases is
      · have HEND : Hid (false = isP k) := Lib.hid (tried_end HKM.out HTR.out (fun h => by cases h))
        go_upto_region 6 with fail
        refine Kr.seqStartW ?_
        iterate 2 (refine Kr.seqQ (v := ?_) (a' := ?_) (by rfl) ?_ ?_ ?_; rotate_left 2; (focus (go_simp; first | done | rfl)); (focus ((try simp only [Kr.PT]); first | done | rfl)))
        (refine Kr.seqQ (v := .int .i64 (dd : Int)) (a' := ?_) (by rfl) ?_ ?_ ?_; rotate_left 1; (focus (exact Kr.valOf rfl (mulI HMUL.out))); (focus ((try simp only [Kr.PT]); first | done | rfl)))
        (refine Kr.seqQ (v := ?_) (a' := ?_) (by rfl) ?_ ?_ ?_; rotate_left 2; (focus (go_simp; first | done | rfl)); (focus ((try simp only [Kr.PT]); first | done | rfl)))
        (refine Kr.seqQ (v := .bool true) (a' := ?_) (by rfl) ?_ ?_ ?_; rotate_left 1; (focus (exact Kr.valOf rfl (leqI HC.out))); (focus ((try simp only [Kr.PT]); first | done | rfl)))
        iterate 3 (refine Kr.seqQ (v := ?_) (a' := ?_) (by rfl) ?_ ?_ ?_; rotate_left 2; (focus (go_simp; first | done | rfl)); (focus ((try simp only [Kr.PT]); first | done | rfl)))
        refine Kr.seqDoneW ?_
        obtain rfl : false = b := by rw [← HB.out]; exact HEND.out
        clear HEND HTR HD2 HDM HDD HMUL
        obtain ⟨y0, hy0⟩ : ∃ y : Int, -(k : Int) = y := ⟨_, rfl⟩
        have HNEG : Hid (IntKind.i64.wrap (-(k : Int)) = y0) := Lib.hid (by rw [hy0]; exact IntWalk.i64_in _ (by have := HKM.out; omega)); have HY : Hid (y0 < 2) := Lib.hid (by omega); clear hy0
        go_upto_region 9 with fail
        refine Kr.seqStartW ?_
        (refine Kr.seqQ (v := ?_) (a' := ?_) (by rfl) ?_ ?_ ?_; rotate_left 2; (focus (go_simp; first | done | rfl)); (focus ((try simp only [Kr.PT]); first | done | rfl)))
        refine Kr.seqR (by rfl) (fun K hK => ?_)
        go_simp
        go_at_call 12
        have hP := Is_v (n := k) (w := wr) ⟨Tab_grow HT.out.1 H.g, Bas_grow HT.out.2 H.g⟩ (by have := HKM.out; omega)
        rw [HB.out] at hP
        refine (hP).mono ?_
        rintro e y2 ⟨rfl, hg⟩
        replace H := H.grow hg
        clear hg
        clear hP
        (refine Kr.outS hK (a' := ?_) ?_ ?_; rotate_left; (focus ((try simp only [Kr.PT]); first | done | rfl))); clear hK K
        (refine Kr.seqQ (v := ?_) (a' := ?_) (by rfl) ?_ ?_ ?_; rotate_left 2; (focus (go_simp; first | done | rfl)); (focus ((try simp only [Kr.PT]); first | done | rfl)))
        (refine Kr.seqQ (v := .bool false) (a' := ?_) (by rfl) ?_ ?_ ?_; rotate_left 1; (focus (exact Kr.valOf rfl (neqB))); (focus ((try simp only [Kr.PT]); first | done | rfl)))
        iterate 2 (refine Kr.seqQ (v := ?_) (a' := ?_) (by rfl) ?_ ?_ ?_; rotate_left 2; (focus (go_simp; first | done | rfl)); (focus ((try simp only [Kr.PT]); first | done | rfl)))
        (refine Kr.seqQ (v := .int .i64 y0) (a' := ?_) (by rfl) ?_ ?_ ?_; rotate_left 1; (focus (exact Kr.valOf rfl (negI HNEG.out))); (focus ((try simp only [Kr.PT]); first | done | rfl)))
        refine Kr.seqR (by rfl) (fun K hK => ?_)
        go_simp
        go_at_call 12
        refine (Is_low HY.out).mono ?_
        rintro e y3 ⟨rfl, hg⟩
        replace H := H.grow hg
        clear hg
        (refine Kr.outS hK (a' := ?_) ?_ ?_; rotate_left; (focus ((try simp only [Kr.PT]); first | done | rfl))); clear hK K
        (refine Kr.seqQ (v := ?_) (a' := ?_) (by rfl) ?_ ?_ ?_; rotate_left 2; (focus (go_simp; first | done | rfl)); (focus ((try simp only [Kr.PT]); first | done | rfl)))
        refine Kr.seqDoneW ?_
        go_upto_region 11 with fail
        refine Kr.seqStartW ?_
        (refine Kr.seqQ (v := ?_) (a' := ?_) (by rfl) ?_ ?_ ?_; rotate_left 2; (focus (go_simp; first | done | rfl)); (focus ((try simp only [Kr.PT]); first | done | rfl)))
        refine Kr.seqR (by rfl) (fun K hK => ?_)
        go_simp
        go_at_call 11
        refine (Next_v ⟨Tab_grow HT.out.1 H.g, Bas_grow HT.out.2 H.g⟩ (n := k) (by have := HKM.out; omega)).mono ?_
        rintro e y4 ⟨p, hp, hpm, rfl, hg⟩
        have HP := Lib.hid hp; have HPM := Lib.hid hpm; have HPK : Hid (k < p) := Lib.hid hp.1; have HPL := Lib.hid (next_le HKM.out hp); clear hp hpm
        replace H := H.grow hg
        clear hg
        (refine Kr.outS hK (a' := ?_) ?_ ?_; rotate_left; (focus ((try simp only [Kr.PT]); first | done | rfl))); clear hK K
        iterate 5 (refine Kr.seqQ (v := ?_) (a' := ?_) (by rfl) ?_ ?_ ?_; rotate_left 2; (focus (go_simp; first | done | rfl)); (focus ((try simp only [Kr.PT]); first | done | rfl)))
        refine Kr.seqDoneW ?_
        have HLE : Hid (decide ((p : Int) ≤ (k : Int)) = false) := Lib.hid (decide_eq_false (by have := HPK.out; omega))
        obtain ⟨k2, hk2⟩ : ∃ z, 2 * k = z := ⟨_, rfl⟩
        obtain ⟨k3, hk3⟩ : ∃ z, k2 + 2 = z := ⟨_, rfl⟩
        have HM2 : Hid (IntKind.i64.wrap ((2 : Int) * (k : Int)) = (k2 : Int)) := Lib.hid (wrap_nat (by omega) (by have := HKM.out; omega)); have HA2 : Hid (IntKind.i64.wrap ((k2 : Int) + 2) = (k3 : Int)) := Lib.hid (wrap_nat (by omega) (by have := HKM.out; omega)); have HG2 : Hid (decide ((k3 : Int) < (p : Int)) = false) := Lib.hid (decide_eq_false (by have := HPL.out; omega)); clear hk2 hk3
        go_upto_region 12 with fail
        refine Kr.seqStartW ?_
        iterate 5 (refine Kr.seqQ (v := ?_) (a' := ?_) (by rfl) ?_ ?_ ?_; rotate_left 2; (focus (go_simp; first | done | rfl)); (focus ((try simp only [Kr.PT]); first | done | rfl)))
        (refine Kr.seqQ (v := .bool false) (a' := ?_) (by rfl) ?_ ?_ ?_; rotate_left 1; (focus (exact Kr.valOf rfl (leqI HLE.out))); (focus ((try simp only [Kr.PT]); first | done | rfl)))
        iterate 3 (refine Kr.seqQ (v := ?_) (a' := ?_) (by rfl) ?_ ?_ ?_; rotate_left 2; (focus (go_simp; first | done | rfl)); (focus ((try simp only [Kr.PT]); first | done | rfl)))
        refine Kr.seqR (by rfl) (fun K hK => ?_)
        go_simp
        go_at_call 12
        have hP := Is_v (n := p) (w := y4) ⟨Tab_grow HT.out.1 H.g, Bas_grow HT.out.2 H.g⟩ (by have := HPM.out; omega)
        rw [HP.out.2.1] at hP
        refine (hP).mono ?_
        rintro e y5 ⟨rfl, hg⟩
        replace H := H.grow hg
        clear hg
        clear hP
        (refine Kr.outS hK (a' := ?_) ?_ ?_; rotate_left; (focus ((try simp only [Kr.PT]); first | done | rfl))); clear hK K
        iterate 5 (refine Kr.seqQ (v := ?_) (a' := ?_) (by rfl) ?_ ?_ ?_; rotate_left 2; (focus (go_simp; first | done | rfl)); (focus ((try simp only [Kr.PT]); first | done | rfl)))
        (refine Kr.seqQ (v := .int .i64 (k2 : Int)) (a' := ?_) (by rfl) ?_ ?_ ?_; rotate_left 1; (focus (exact Kr.valOf rfl (mulI HM2.out))); (focus ((try simp only [Kr.PT]); first | done | rfl)))
        (refine Kr.seqQ (v := .int .i64 (k3 : Int)) (a' := ?_) (by rfl) ?_ ?_ ?_; rotate_left 1; (focus (exact Kr.valOf rfl (addI HA2.out))); (focus ((try simp only [Kr.PT]); first | done | rfl)))
        (refine Kr.seqQ (v := .bool false) (a' := ?_) (by rfl) ?_ ?_ ?_; rotate_left 1; (focus (exact Kr.valOf rfl (gtrI HG2.out))); (focus ((try simp only [Kr.PT]); first | done | rfl)))
        (refine Kr.seqQ (v := ?_) (a' := ?_) (by rfl) ?_ ?_ ?_; rotate_left 2; (focus (go_simp; first | done | rfl)); (focus ((try simp only [Kr.PT]); first | done | rfl)))
        refine Kr.seqDoneW ?_
        obtain ⟨k1, hk1⟩ : ∃ z, k + 1 = z := ⟨_, rfl⟩
        have HA1 : Hid (IntKind.i64.wrap ((k : Int) + 1) = (k1 : Int)) := Lib.hid (wrap_nat (by omega) (by have := HKM.out; omega)); have HK1 := Lib.hid hk1; clear hk1
        go_upto_region 14 with fail
        refine Kr.seqStartW ?_
        (refine Kr.seqQ (v := ?_) (a' := ?_) (by rfl) ?_ ?_ ?_; rotate_left 2; (focus (go_simp; first | done | rfl)); (focus ((try simp only [Kr.PT]); first | done | rfl)))
        (refine Kr.seqQ (v := .int .i64 (k1 : Int)) (a' := ?_) (by rfl) ?_ ?_ ?_; rotate_left 1; (focus (exact Kr.valOf rfl (addI HA1.out))); (focus ((try simp only [Kr.PT]); first | done | rfl)))
        (refine Kr.seqQ (v := ?_) (a' := ?_) (by rfl) ?_ ?_ ?_; rotate_left 2; (focus (go_simp; first | done | rfl)); (focus ((try simp only [Kr.PT]); first | done | rfl)))
        refine Kr.seqDoneW ?_
        have H3 := Lib.hid H
        clear H
        go_wp2_with fail
        go_loopw [8] (fun mv wr => ∃ m : Nat, k < m ∧ m ≤ p ∧ mv = .int .i64 (m : Int) ∧ Hid (Sta w wr [] [])) (fun mv _ => p - (intOf mv).toNat)
        case atStart => exact ⟨k1, by have := HK1.out; omega, by have := HK1.out; have := HPK.out; omega, rfl, H3⟩
        case round =>
          clear H3
          obtain ⟨m, hm1, hm2, rfl, HH⟩ := hrel
          have H := HH.out; have HM1 := Lib.hid hm1; have HMP := Lib.hid hm2; clear HH hm1 hm2
          by_cases hmp : m = p
          · have HL : Hid (decide ((m : Int) < (p : Int)) = false) := Lib.hid (decide_eq_false (by omega))
            clear hmp
            go_upto_region 15 with fail
            refine Kr.seqStartW ?_
            iterate 2 (refine Kr.seqQ (v := ?_) (a' := ?_) (by rfl) ?_ ?_ ?_; rotate_left 2; (focus (go_simp; first | done | rfl)); (focus ((try simp only [Kr.PT]); first | done | rfl)))
            (refine Kr.seqQ (v := .bool false) (a' := ?_) (by rfl) ?_ ?_ ?_; rotate_left 1; (focus (exact Kr.valOf rfl (lssT HL.out))); (focus ((try simp only [Kr.PT]); first | done | rfl)))
            refine Kr.seqDoneW ?_
            go_upto_region 19 with fail
            refine Kr.seqStartW ?_
            (refine Kr.seqQ (v := ?_) (a' := ?_) (by rfl) ?_ ?_ ?_; rotate_left 2; (focus (go_simp; first | done | rfl)); (focus ((try simp only [Kr.PT]); first | done | rfl)))
            refine Kr.seqDoneW ?_
            have hk : True := trivial
            go_wp2
            refine bodyPost_ret (v := .bool true) (by simp [results, Tryd.results6, go_sem, hk]) rfl ⟨rfl, H.g⟩
          · have HML : Hid (m < p) := Lib.hid (by have := HMP.out; omega)
            have HL : Hid (decide ((m : Int) < (p : Int)) = true) := Lib.hid (decide_eq_true (by have := HML.out; omega))
            clear hmp
            go_upto_region 15 with fail
            refine Kr.seqStartW ?_
            iterate 2 (refine Kr.seqQ (v := ?_) (a' := ?_) (by rfl) ?_ ?_ ?_; rotate_left 2; (focus (go_simp; first | done | rfl)); (focus ((try simp only [Kr.PT]); first | done | rfl)))
            (refine Kr.seqQ (v := .bool true) (a' := ?_) (by rfl) ?_ ?_ ?_; rotate_left 1; (focus (exact Kr.valOf rfl (lssT HL.out))); (focus ((try simp only [Kr.PT]); first | done | rfl)))
            refine Kr.seqDoneW ?_
            go_upto_region 17 with fail
            refine Kr.seqStartW ?_
            (refine Kr.seqQ (v := ?_) (a' := ?_) (by rfl) ?_ ?_ ?_; rotate_left 2; (focus (go_simp; first | done | rfl)); (focus ((try simp only [Kr.PT]); first | done | rfl)))
            refine Kr.seqR (by rfl) (fun K hK => ?_)
            go_simp
            go_at_call 12
            have hP := Is_v (n := m) (w := wr) ⟨Tab_grow HT.out.1 H.g, Bas_grow HT.out.2 H.g⟩ (by have := HML.out; have := HPM.out; omega)
            rw [HP.out.2.2 m HM1.out HML.out] at hP
            refine (hP).mono ?_
            rintro e y6 ⟨rfl, hg⟩
            replace H := H.grow hg
            clear hg
            clear hP
            (refine Kr.outS hK (a' := ?_) ?_ ?_; rotate_left; (focus ((try simp only [Kr.PT]); first | done | rfl))); clear hK K
            refine Kr.seqDoneW ?_
            have HADD : Hid (IntKind.i64.wrap ((m : Int) + 1) = ((m + 1 : Nat) : Int)) := Lib.hid (wrap_nat (by omega) (by have h1 := HML.out; have h2 := HPM.out; omega))
            go_upto_region 16 with fail
            refine Kr.seqStartW ?_
            (refine Kr.seqQ (v := ?_) (a' := ?_) (by rfl) ?_ ?_ ?_; rotate_left 2; (focus (go_simp; first | done | rfl)); (focus ((try simp only [Kr.PT]); first | done | rfl)))
            (refine Kr.seqQ (v := .int .i64 ((m + 1 : Nat) : Int)) (a' := ?_) (by rfl) ?_ ?_ ?_; rotate_left 1; (focus (exact Kr.valOf rfl (addI HADD.out))); (focus ((try simp only [Kr.PT]); first | done | rfl)))
            (refine Kr.seqQ (v := ?_) (a' := ?_) (by rfl) ?_ ?_ ?_; rotate_left 2; (focus (go_simp; first | done | rfl)); (focus ((try simp only [Kr.PT]); first | done | rfl)))
            refine Kr.seqDoneW ?_
            go_wp2
            go_roundw
            case rel => exact ⟨m + 1, by have := HM1.out; omega, HML.out, rfl, Lib.hid H⟩
            case measure => simp [intOf]; have := HML.out; omega
      · have HDL : Hid (d ≤ 1024) := Lib.hid (by rcases Nat.lt_or_ge d 1025 with h | h; exact Nat.le_of_lt_succ h; have h2 := Nat.mul_le_mul h h; have := HDD.out; have := HDK.out; have := HKM.out; omega)
        go_upto_region 6 with fail
        refine Kr.seqStartW ?_
        iterate 2 (refine Kr.seqQ (v := ?_) (a' := ?_) (by rfl) ?_ ?_ ?_; rotate_left 2; (focus (go_simp; first | done | rfl)); (focus ((try simp only [Kr.PT]); first | done | rfl)))
        (refine Kr.seqQ (v := .int .i64 (dd : Int)) (a' := ?_) (by rfl) ?_ ?_ ?_; rotate_left 1; (focus (exact Kr.valOf rfl (mulI HMUL.out))); (focus ((try simp only [Kr.PT]); first | done | rfl)))
        (refine Kr.seqQ (v := ?_) (a' := ?_) (by rfl) ?_ ?_ ?_; rotate_left 2; (focus (go_simp; first | done | rfl)); (focus ((try simp only [Kr.PT]); first | done | rfl)))
        (refine Kr.seqQ (v := .bool true) (a' := ?_) (by rfl) ?_ ?_ ?_; rotate_left 1; (focus (exact Kr.valOf rfl (leqI HC.out))); (focus ((try simp only [Kr.PT]); first | done | rfl)))
        iterate 3 (refine Kr.seqQ (v := ?_) (a' := ?_) (by rfl) ?_ ?_ ?_; rotate_left 2; (focus (go_simp; first | done | rfl)); (focus ((try simp only [Kr.PT]); first | done | rfl)))
        refine Kr.seqDoneW ?_
        obtain ⟨q, hq⟩ : ∃ q, k % d = q := ⟨_, rfl⟩
        obtain ⟨i2, hi2⟩ : ∃ b, (!decide (k % d = 0)) = b := ⟨_, rfl⟩
        have HQ := Lib.hid hq; have HNQ : Hid ((!decide ((q : Int) = 0)) = i2) := Lib.hid (by rw [← hi2, hq]; congr 1; exact decide_eq_decide.2 (by omega)); have HTR2 : Hid (Tried k (d + 1) i2) := Lib.hid (hi2 ▸ tried_step HKM.out HD2.out (by rw [HDD.out]; exact HDK.out) HTR.out); clear hq hi2
        go_upto_region 8 with fail
        refine Kr.seqStartW ?_
        iterate 2 (refine Kr.seqQ (v := ?_) (a' := ?_) (by rfl) ?_ ?_ ?_; rotate_left 2; (focus (go_simp; first | done | rfl)); (focus ((try simp only [Kr.PT]); first | done | rfl)))
        (refine Kr.seqQ (v := .int .i64 (q : Int)) (a' := ?_) (by rfl) ?_ ?_ ?_; rotate_left 1; (focus (exact Kr.valOf rfl (remI (by have := HD2.out; omega) HQ.out (by have := HDL.out; omega)))); (focus ((try simp only [Kr.PT]); first | done | rfl)))
        (refine Kr.seqQ (v := .bool i2) (a' := ?_) (by rfl) ?_ ?_ ?_; rotate_left 1; (focus (exact Kr.valOf rfl (neqI HNQ.out))); (focus ((try simp only [Kr.PT]); first | done | rfl)))
        (refine Kr.seqQ (v := ?_) (a' := ?_) (by rfl) ?_ ?_ ?_; rotate_left 2; (focus (go_simp; first | done | rfl)); (focus ((try simp only [Kr.PT]); first | done | rfl)))
        refine Kr.seqDoneW ?_
        have HADD : Hid (IntKind.i64.wrap ((d : Int) + 1) = ((d + 1 : Nat) : Int)) := Lib.hid (wrap_nat (by omega) (by have h1 := HDL.out; omega))
        go_upto_region 7 with fail
        refine Kr.seqStartW ?_
        (refine Kr.seqQ (v := ?_) (a' := ?_) (by rfl) ?_ ?_ ?_; rotate_left 2; (focus (go_simp; first | done | rfl)); (focus ((try simp only [Kr.PT]); first | done | rfl)))
        (refine Kr.seqQ (v := .int .i64 ((d + 1 : Nat) : Int)) (a' := ?_) (by rfl) ?_ ?_ ?_; rotate_left 1; (focus (exact Kr.valOf rfl (addI HADD.out))); (focus ((try simp only [Kr.PT]); first | done | rfl)))
        (refine Kr.seqQ (v := ?_) (a' := ?_) (by rfl) ?_ ?_ ?_; rotate_left 2; (focus (go_simp; first | done | rfl)); (focus ((try simp only [Kr.PT]); first | done | rfl)))
        refine Kr.seqDoneW ?_
        go_wp2
        go_roundw
        case rel => exact ⟨d + 1, i2, by have := HD2.out; omega, by have := HDL.out; omega, rfl, rfl, HTR2, Lib.hid H⟩
        case measure => simp [intOf]; have := HDL.out; omega
    · have HC : Hid (decide ((dd : Int) ≤ (k : Int)) = false) := Lib.hid (decide_eq_false (by omega))
      have HEND : Hid (is = isP k) := Lib.hid (tried_end HKM.out HTR.out (fun _ => by rw [HDD.out]; omega))
      clear hdk
      go_upto_region 6 with fail
      refine Kr.seqStartW ?_
      iterate 2 (refine Kr.seqQ (v := ?_) (a' := ?_) (by rfl) ?_ ?_ ?_; rotate_left 2; (focus (go_simp; first | done | rfl)); (focus ((try simp only [Kr.PT]); first | done | rfl)))
      (refine Kr.seqQ (v := .int .i64 (dd : Int)) (a' := ?_) (by rfl) ?_ ?_ ?_; rotate_left 1; (focus (exact Kr.valOf rfl (mulI HMUL.out))); (focus ((try simp only [Kr.PT]); first | done | rfl)))
      (refine Kr.seqQ (v := ?_) (a' := ?_) (by rfl) ?_ ?_ ?_; rotate_left 2; (focus (go_simp; first | done | rfl)); (focus ((try simp only [Kr.PT]); first | done | rfl)))
      (refine Kr.seqQ (v := .bool false) (a' := ?_) (by rfl) ?_ ?_ ?_; rotate_left 1; (focus (exact Kr.valOf rfl (leqI HC.out))); (focus ((try simp only [Kr.PT]); first | done | rfl)))
      (refine Kr.seqQ (v := ?_) (a' := ?_) (by rfl) ?_ ?_ ?_; rotate_left 2; (focus (go_simp; first | done | rfl)); (focus ((try simp only [Kr.PT]); first | done | rfl)))
      (refine Kr.seqSkipQ (a' := ?_) (by rfl) ?_ ?_; rotate_left; (focus ((try simp only [Kr.PT]); first | done | rfl)))
      (refine Kr.seqQ (v := ?_) (a' := ?_) (by rfl) ?_ ?_ ?_; rotate_left 2; (focus (go_simp; first | done | rfl)); (focus ((try simp only [Kr.PT]); first | done | rfl)))
      refine Kr.seqDoneW ?_
      obtain rfl : is = b := by rw [← HB.out]; exact HEND.out
      clear HEND HTR HD2 HDM HDD HMUL
      obtain ⟨y0, hy0⟩ : ∃ y : Int, -(k : Int) = y := ⟨_, rfl⟩
      have HNEG : Hid (IntKind.i64.wrap (-(k : Int)) = y0) := Lib.hid (by rw [hy0]; exact IntWalk.i64_in _ (by have := HKM.out; omega)); have HY : Hid (y0 < 2) := Lib.hid (by omega); clear hy0
      go_upto_region 9 with fail
      refine Kr.seqStartW ?_
      (refine Kr.seqQ (v := ?_) (a' := ?_) (by rfl) ?_ ?_ ?_; rotate_left 2; (focus (go_simp; first | done | rfl)); (focus ((try simp only [Kr.PT]); first | done | rfl)))
      refine Kr.seqR (by rfl) (fun K hK => ?_)
      go_simp
      go_at_call 12
      have hP := Is_v (n := k) (w := wr) ⟨Tab_grow HT.out.1 H.g, Bas_grow HT.out.2 H.g⟩ (by have := HKM.out; omega)
      rw [HB.out] at hP
      refine (hP).mono ?_
      rintro e y7 ⟨rfl, hg⟩
      replace H := H.grow hg
      clear hg
      clear hP
      (refine Kr.outS hK (a' := ?_) ?_ ?_; rotate_left; (focus ((try simp only [Kr.PT]); first | done | rfl))); clear hK K
      (refine Kr.seqQ (v := ?_) (a' := ?_) (by rfl) ?_ ?_ ?_; rotate_left 2; (focus (go_simp; first | done | rfl)); (focus ((try simp only [Kr.PT]); first | done | rfl)))
      (refine Kr.seqQ (v := .bool false) (a' := ?_) (by rfl) ?_ ?_ ?_; rotate_left 1; (focus (exact Kr.valOf rfl (neqB))); (focus ((try simp only [Kr.PT]); first | done | rfl)))
      iterate 2 (refine Kr.seqQ (v := ?_) (a' := ?_) (by rfl) ?_ ?_ ?_; rotate_left 2; (focus (go_simp; first | done | rfl)); (focus ((try simp only [Kr.PT]); first | done | rfl)))
      (refine Kr.seqQ (v := .int .i64 y0) (a' := ?_) (by rfl) ?_ ?_ ?_; rotate_left 1; (focus (exact Kr.valOf rfl (negI HNEG.out))); (focus ((try simp only [Kr.PT]); first | done | rfl)))
      refine Kr.seqR (by rfl) (fun K hK => ?_)
      go_simp
      go_at_call 12
      refine (Is_low HY.out).mono ?_
      rintro e y8 ⟨rfl, hg⟩
      replace H := H.grow hg
      clear hg
      (refine Kr.outS hK (a' := ?_) ?_ ?_; rotate_left; (focus ((try simp only [Kr.PT]); first | done | rfl))); clear hK K
      (refine Kr.seqQ (v := ?_) (a' := ?_) (by rfl) ?_ ?_ ?_; rotate_left 2; (focus (go_simp; first | done | rfl)); (focus ((try simp only [Kr.PT]); first | done | rfl)))
      refine Kr.seqDoneW ?_
      go_upto_region 11 with fail
      refine Kr.seqStartW ?_
      (refine Kr.seqQ (v := ?_) (a' := ?_) (by rfl) ?_ ?_ ?_; rotate_left 2; (focus (go_simp; first | done | rfl)); (focus ((try simp only [Kr.PT]); first | done | rfl)))
      refine Kr.seqR (by rfl) (fun K hK => ?_)
      go_simp
      go_at_call 11
      refine (Next_v ⟨Tab_grow HT.out.1 H.g, Bas_grow HT.out.2 H.g⟩ (n := k) (by have := HKM.out; omega)).mono ?_
      rintro e y9 ⟨p, hp, hpm, rfl, hg⟩
      have HP := Lib.hid hp; have HPM := Lib.hid hpm; have HPK : Hid (k < p) := Lib.hid hp.1; have HPL := Lib.hid (next_le HKM.out hp); clear hp hpm
      replace H := H.grow hg
      clear hg
      (refine Kr.outS hK (a' := ?_) ?_ ?_; rotate_left; (focus ((try simp only [Kr.PT]); first | done | rfl))); clear hK K
      iterate 5 (refine Kr.seqQ (v := ?_) (a' := ?_) (by rfl) ?_ ?_ ?_; rotate_left 2; (focus (go_simp; first | done | rfl)); (focus ((try simp only [Kr.PT]); first | done | rfl)))
      refine Kr.seqDoneW ?_
      have HLE : Hid (decide ((p : Int) ≤ (k : Int)) = false) := Lib.hid (decide_eq_false (by have := HPK.out; omega))
      obtain ⟨k2, hk2⟩ : ∃ z, 2 * k = z := ⟨_, rfl⟩
      obtain ⟨k3, hk3⟩ : ∃ z, k2 + 2 = z := ⟨_, rfl⟩
      have HM2 : Hid (IntKind.i64.wrap ((2 : Int) * (k : Int)) = (k2 : Int)) := Lib.hid (wrap_nat (by omega) (by have := HKM.out; omega)); have HA2 : Hid (IntKind.i64.wrap ((k2 : Int) + 2) = (k3 : Int)) := Lib.hid (wrap_nat (by omega) (by have := HKM.out; omega)); have HG2 : Hid (decide ((k3 : Int) < (p : Int)) = false) := Lib.hid (decide_eq_false (by have := HPL.out; omega)); clear hk2 hk3
      go_upto_region 12 with fail
      refine Kr.seqStartW ?_
      iterate 5 (refine Kr.seqQ (v := ?_) (a' := ?_) (by rfl) ?_ ?_ ?_; rotate_left 2; (focus (go_simp; first | done | rfl)); (focus ((try simp only [Kr.PT]); first | done | rfl)))
      (refine Kr.seqQ (v := .bool false) (a' := ?_) (by rfl) ?_ ?_ ?_; rotate_left 1; (focus (exact Kr.valOf rfl (leqI HLE.out))); (focus ((try simp only [Kr.PT]); first | done | rfl)))
      iterate 3 (refine Kr.seqQ (v := ?_) (a' := ?_) (by rfl) ?_ ?_ ?_; rotate_left 2; (focus (go_simp; first | done | rfl)); (focus ((try simp only [Kr.PT]); first | done | rfl)))
      refine Kr.seqR (by rfl) (fun K hK => ?_)
      go_simp
      go_at_call 12
      have hP := Is_v (n := p) (w := y9) ⟨Tab_grow HT.out.1 H.g, Bas_grow HT.out.2 H.g⟩ (by have := HPM.out; omega)
      rw [HP.out.2.1] at hP
      refine (hP).mono ?_
      rintro e y10 ⟨rfl, hg⟩
      replace H := H.grow hg
      clear hg
      clear hP
      (refine Kr.outS hK (a' := ?_) ?_ ?_; rotate_left; (focus ((try simp only [Kr.PT]); first | done | rfl))); clear hK K
      iterate 5 (refine Kr.seqQ (v := ?_) (a' := ?_) (by rfl) ?_ ?_ ?_; rotate_left 2; (focus (go_simp; first | done | rfl)); (focus ((try simp only [Kr.PT]); first | done | rfl)))
      (refine Kr.seqQ (v := .int .i64 (k2 : Int)) (a' := ?_) (by rfl) ?_ ?_ ?_; rotate_left 1; (focus (exact Kr.valOf rfl (mulI HM2.out))); (focus ((try simp only [Kr.PT]); first | done | rfl)))
      (refine Kr.seqQ (v := .int .i64 (k3 : Int)) (a' := ?_) (by rfl) ?_ ?_ ?_; rotate_left 1; (focus (exact Kr.valOf rfl (addI HA2.out))); (focus ((try simp only [Kr.PT]); first | done | rfl)))
      (refine Kr.seqQ (v := .bool false) (a' := ?_) (by rfl) ?_ ?_ ?_; rotate_left 1; (focus (exact Kr.valOf rfl (gtrI HG2.out))); (focus ((try simp only [Kr.PT]); first | done | rfl)))
      (refine Kr.seqQ (v := ?_) (a' := ?_) (by rfl) ?_ ?_ ?_; rotate_left 2; (focus (go_simp; first | done | rfl)); (focus ((try simp only [Kr.PT]); first | done | rfl)))
      refine Kr.seqDoneW ?_
      obtain ⟨k1, hk1⟩ : ∃ z, k + 1 = z := ⟨_, rfl⟩
      have HA1 : Hid (IntKind.i64.wrap ((k : Int) + 1) = (k1 : Int)) := Lib.hid (wrap_nat (by omega) (by have := HKM.out; omega)); have HK1 := Lib.hid hk1; clear hk1
      go_upto_region 14 with fail
      refine Kr.seqStartW ?_
      (refine Kr.seqQ (v := ?_) (a' := ?_) (by rfl) ?_ ?_ ?_; rotate_left 2; (focus (go_simp; first | done | rfl)); (focus ((try simp only [Kr.PT]); first | done | rfl)))
      (refine Kr.seqQ (v := .int .i64 (k1 : Int)) (a' := ?_) (by rfl) ?_ ?_ ?_; rotate_left 1; (focus (exact Kr.valOf rfl (addI HA1.out))); (focus ((try simp only [Kr.PT]); first | done | rfl)))
      (refine Kr.seqQ (v := ?_) (a' := ?_) (by rfl) ?_ ?_ ?_; rotate_left 2; (focus (go_simp; first | done | rfl)); (focus ((try simp only [Kr.PT]); first | done | rfl)))
      refine Kr.seqDoneW ?_
      have H3 := Lib.hid H
      clear H
      go_wp2_with fail
      go_loopw [8] (fun mv wr => ∃ m : Nat, k < m ∧ m ≤ p ∧ mv = .int .i64 (m : Int) ∧ Hid (Sta w wr [] [])) (fun mv _ => p - (intOf mv).toNat)
      case atStart => exact ⟨k1, by have := HK1.out; omega, by have := HK1.out; have := HPK.out; omega, rfl, H3⟩
      case round =>
        clear H3
        obtain ⟨m, hm1, hm2, rfl, HH⟩ := hrel
        have H := HH.out; have HM1 := Lib.hid hm1; have HMP := Lib.hid hm2; clear HH hm1 hm2
        by_cases hmp : m = p
        · have HL : Hid (decide ((m : Int) < (p : Int)) = false) := Lib.hid (decide_eq_false (by omega))
          clear hmp
          go_upto_region 15 with fail
          refine Kr.seqStartW ?_
          iterate 2 (refine Kr.seqQ (v := ?_) (a' := ?_) (by rfl) ?_ ?_ ?_; rotate_left 2; (focus (go_simp; first | done | rfl)); (focus ((try simp only [Kr.PT]); first | done | rfl)))
          (refine Kr.seqQ (v := .bool false) (a' := ?_) (by rfl) ?_ ?_ ?_; rotate_left 1; (focus (exact Kr.valOf rfl (lssT HL.out))); (focus ((try simp only [Kr.PT]); first | done | rfl)))
          refine Kr.seqDoneW ?_
          go_upto_region 19 with fail
          refine Kr.seqStartW ?_
          (refine Kr.seqQ (v := ?_) (a' := ?_) (by rfl) ?_ ?_ ?_; rotate_left 2; (focus (go_simp; first | done | rfl)); (focus ((try simp only [Kr.PT]); first | done | rfl)))
          refine Kr.seqDoneW ?_
          have hk : True := trivial
          go_wp2
          refine bodyPost_ret (v := .bool true) (by simp [results, Tryd.results6, go_sem, hk]) rfl ⟨rfl, H.g⟩
        · have HML : Hid (m < p) := Lib.hid (by have := HMP.out; omega)
          have HL : Hid (decide ((m : Int) < (p : Int)) = true) := Lib.hid (decide_eq_true (by have := HML.out; omega))
          clear hmp
          go_upto_region 15 with fail
          refine Kr.seqStartW ?_
          iterate 2 (refine Kr.seqQ (v := ?_) (a' := ?_) (by rfl) ?_ ?_ ?_; rotate_left 2; (focus (go_simp; first | done | rfl)); (focus ((try simp only [Kr.PT]); first | done | rfl)))
          (refine Kr.seqQ (v := .bool true) (a' := ?_) (by rfl) ?_ ?_ ?_; rotate_left 1; (focus (exact Kr.valOf rfl (lssT HL.out))); (focus ((try simp only [Kr.PT]); first | done | rfl)))
          refine Kr.seqDoneW ?_
          go_upto_region 17 with fail
          refine Kr.seqStartW ?_
          (refine Kr.seqQ (v := ?_) (a' := ?_) (by rfl) ?_ ?_ ?_; rotate_left 2; (focus (go_simp; first | done | rfl)); (focus ((try simp only [Kr.PT]); first | done | rfl)))
          refine Kr.seqR (by rfl) (fun K hK => ?_)
          go_simp
          go_at_call 12
          have hP := Is_v (n := m) (w := wr) ⟨Tab_grow HT.out.1 H.g, Bas_grow HT.out.2 H.g⟩ (by have := HML.out; have := HPM.out; omega)
          rw [HP.out.2.2 m HM1.out HML.out] at hP
          refine (hP).mono ?_
          rintro e y11 ⟨rfl, hg⟩
          replace H := H.grow hg
          clear hg
          clear hP
          (refine Kr.outS hK (a' := ?_) ?_ ?_; rotate_left; (focus ((try simp only [Kr.PT]); first | done | rfl))); clear hK K
          refine Kr.seqDoneW ?_
          have HADD : Hid (IntKind.i64.wrap ((m : Int) + 1) = ((m + 1 : Nat) : Int)) := Lib.hid (wrap_nat (by omega) (by have h1 := HML.out; have h2 := HPM.out; omega))
          go_upto_region 16 with fail
          refine Kr.seqStartW ?_
          (refine Kr.seqQ (v := ?_) (a' := ?_) (by rfl) ?_ ?_ ?_; rotate_left 2; (focus (go_simp; first | done | rfl)); (focus ((try simp only [Kr.PT]); first | done | rfl)))
          (refine Kr.seqQ (v := .int .i64 ((m + 1 : Nat) : Int)) (a' := ?_) (by rfl) ?_ ?_ ?_; rotate_left 1; (focus (exact Kr.valOf rfl (addI HADD.out))); (focus ((try simp only [Kr.PT]); first | done | rfl)))
          (refine Kr.seqQ (v := ?_) (a' := ?_) (by rfl) ?_ ?_ ?_; rotate_left 2; (focus (go_simp; first | done | rfl)); (focus ((try simp only [Kr.PT]); first | done | rfl)))
          refine Kr.seqDoneW ?_
          go_wp2
          go_roundw
          case rel => exact ⟨m + 1, by have := HM1.out; omega, HML.out, rfl, Lib.hid H⟩
          case measure => simp [intOf]; have := HML.out; omega
end Go.Proofs.YtfompolklkehpaaDoor.Pr
