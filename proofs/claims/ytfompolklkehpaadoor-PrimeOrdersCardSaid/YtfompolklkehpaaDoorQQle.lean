/- The walk of PrimeOrders. -/
import Derived.Test.YtfompolklkehpaaDoorPp5
import Derived.Test.YtfompolklkehpaaDoorQQmc
import Derived.Deep.Cut
namespace Go.Proofs.YtfompolklkehpaaDoor.Pr
open Go.RowKit Go.Shelf Go.Proofs.YtfompolklkehpaaDoor.Nm Go.Proofs.YtfompolklkehpaaDoor.Ne Go.Proofs.YtfompolklkehpaaDoor.Nf Go.Proofs.YtfompolklkehpaaDoor.Nk Go.Proofs.YtfompolklkehpaaDoor.Nv Go.Proofs.YtfompolklkehpaaDoor.Nr2 Go.Proofs.YtfompolklkehpaaDoor.Mo Go.Proofs.YtfompolklkehpaaDoor.Mr Go.Proofs.YtfompolklkehpaaDoor.Kr

theorem pri_of_clear {D z : Nat} (h2 : 2 ≤ z) (hc : Clear D z) (h : z < D * D) : Pri z := by
  refine Classical.byContradiction fun hp => ?_
  obtain ⟨p, pp, hpz, hpp⟩ := has_small h2 hp
  refine hc p pp.1 ?_ hpz
  rcases Nat.lt_or_ge p D with h1 | h1
  · exact h1
  · have := Nat.mul_le_mul h1 h1
    omega
theorem facs_small {n : Nat} (hn : 0 < n) (hs : n < 1048576) : ∃ l, facs n = some l := by
  obtain ⟨_, D, h2, h3⟩ := fac_pri 1048575 2 n (by decide) (Nat.le_refl _) hn (clear_two n)
  have hm := fac_math 1048575 2 n (by decide) (Nat.le_refl _) hn
  unfold facs
  by_cases e : (fac 2 n).2 = 1
  · exact ⟨_, if_pos e⟩
  · have hz : (fac 2 n).2 ≤ n := Nat.le_of_dvd hn ⟨lp (fac 2 n).1, by rw [Nat.mul_comm]; exact hm.1.symm⟩
    have hp : Pri (fac 2 n).2 := by
      refine pri_of_clear (by have := hm.2.2; omega) h2 ?_
      rcases h3 with h3 | h3
      · have h4 := Nat.mul_le_mul (Nat.le_of_lt h3) (Nat.le_of_lt h3)
        omega
      · exact h3
    refine ⟨(fac 2 n).1 ++ [(fac 2 n).2], ?_⟩
    rw [if_neg e, if_pos (isP_pri hp (by omega))]
theorem noOne_one (p s : Nat) : NoOne p s 1 := fun j h1 h2 => absurd h1 (by omega)
theorem noOne_step {p s o : Nat} (h : NoOne p s o) (h1 : s ^ o % p ≠ 1) : NoOne p s (o + 1) := fun j h2 h3 => by
  rcases Nat.lt_succ_iff_lt_or_eq.1 h3 with h4 | h4
  · exact h j h2 h4
  · subst h4; exact h1
theorem noOne_le {p s o : Nat} (pp : Pri p) (h1 : 1 ≤ s) (h2 : s < p) (h : NoOne p s o) : o ≤ p - 1 := by
  rcases Nat.lt_or_ge (p - 1) o with h3 | h3
  · exact absurd (fermat pp (not_dvd h1 h2)) (h (p - 1) (by have := pp.1; omega) h3)
  · exact h3
theorem conv16 {w : World} {x : Nat} (hx : x < 65536) : (convert 38 3 (.int .u16 (x : Int))).run Tryd.prog w = .ok (.int .i64 (x : Int)) w := by
  have : IntKind.i64.wrap (x : Int) = (x : Int) := IntWalk.i64_in _ (by omega)
  clear hx
  go_simp
theorem next_2003 {k p : Nat} (hk : k < 2000) (h : IsNext k p) : p ≤ 2003 := by
  rcases Nat.lt_or_ge 2003 p with h1 | h1
  · have := h.2.2 2003 (by omega) h1
    rw [isP_2003] at this; cases this
  · exact h1
theorem root_eq {p r s : Nat} {l : List Nat} (h : IsRoot p l r) (h1 : 1 ≤ s) (h2 : s ≤ r) : l.any (rootBad p s) = false ↔ s = r := by
  constructor
  · intro h3
    rcases Nat.lt_or_ge s r with h4 | h4
    · have := h.2.2 s h1 h4
      rw [h3] at this; cases this
    · omega
  · rintro rfl; exact h.2.1
set_option linter.unusedSimpArgs false in
set_option maxRecDepth 100000 in
set_option maxHeartbeats 16000000 in
theorem orders_v {n : Nat} {w : World} (hn : n < 65536) (hT : Wb.Tab w ∧ Bas w) (haw : ∀ W, Gr w W → Calls Tryd.prog 10 #[] W fun e w' => e = .returned (.bool true) ∧ Gr W w') :
    Calls Tryd.prog 8 #[.int .u16 (n : Int)] w fun r w' => r = .returned (.bool true) ∧ Gr w w' := by
  have HT := Lib.hid hT; have HAW := Lib.hid haw; have HN := Lib.hid hn; clear hT haw hn
  obtain ⟨k, hk⟩ : ∃ k, n % 2000 = k := ⟨_, rfl⟩
  have HK := Lib.hid hk; have HKM : Hid (k < 2000) := Lib.hid (by omega); clear hk
  have H := Sta.start w
  go_enter Tryd.func8, Tryd.ntmps8
  go_upto_region 0 with fail
  refine Kr.seqStartW ?_
  (refine Kr.seqQ (v := ?_) (a' := ?_) (by rfl) ?_ ?_ ?_; rotate_left 2; (focus (go_simp; first | done | rfl)); (focus ((try simp only [Kr.PT]); first | done | rfl)))
  refine Kr.seqDoneW ?_
  go_upto_region 1 with fail
  refine Kr.seqStartW ?_
  refine Kr.seqR (by rfl) (fun K hK => ?_)
  go_simp
  go_at_call 10
  refine (HAW.out _ H.g).mono ?_
  rintro e y1 ⟨rfl, hg⟩
  replace H := H.grow hg
  clear hg
  (refine Kr.outS hK (a' := ?_) ?_ ?_; rotate_left; (focus ((try simp only [Kr.PT]); first | done | rfl))); clear hK K
  (refine Kr.seqQ (v := ?_) (a' := ?_) (by rfl) ?_ ?_ ?_; rotate_left 2; (focus (go_simp; first | done | rfl)); (focus ((try simp only [Kr.PT]); first | done | rfl)))
  refine Kr.seqDoneW ?_
  go_upto_region 3 with fail
  refine Kr.seqStartW ?_
  (refine Kr.seqQ (v := ?_) (a' := ?_) (by rfl) ?_ ?_ ?_; rotate_left 2; (focus (go_simp; first | done | rfl)); (focus ((try simp only [Kr.PT]); first | done | rfl)))
  (refine Kr.seqQ (v := .int .i64 (n : Int)) (a' := ?_) (by rfl) ?_ ?_ ?_; rotate_left 1; (focus (exact Kr.valOf rfl (conv16 HN.out))); (focus ((try simp only [Kr.PT]); first | done | rfl)))
  (refine Kr.seqQ (v := .int .i64 (k : Int)) (a' := ?_) (by rfl) ?_ ?_ ?_; rotate_left 1; (focus (exact Kr.valOf rfl (remI (d := 2000) (by decide) HK.out (by decide)))); (focus ((try simp only [Kr.PT]); first | done | rfl)))
  refine Kr.seqR (by rfl) (fun K hK => ?_)
  go_simp
  go_at_call 11
  refine (Next_v ⟨Tab_grow HT.out.1 H.g, Bas_grow HT.out.2 H.g⟩ (n := k) (by have := HKM.out; omega)).mono ?_
  rintro e y2 ⟨p, hp, hpm, rfl, hg⟩
  have HPI := Lib.hid hp.2.1; have HPM := Lib.hid (next_2003 HKM.out hp); have HP2 := Lib.hid (isP_two hp.2.1); clear hp hpm
  replace H := H.grow hg
  clear hg
  have HPP := Lib.hid (pri_of_isP (by have := HPM.out; omega) HPI.out)
  (refine Kr.outS hK (a' := ?_) ?_ ?_; rotate_left; (focus ((try simp only [Kr.PT]); first | done | rfl))); clear hK K
  iterate 5 (refine Kr.seqQ (v := ?_) (a' := ?_) (by rfl) ?_ ?_ ?_; rotate_left 2; (focus (go_simp; first | done | rfl)); (focus ((try simp only [Kr.PT]); first | done | rfl)))
  refine Kr.seqDoneW ?_
  go_upto_region 4 with fail
  refine Kr.seqStartW ?_
  (refine Kr.seqQ (v := ?_) (a' := ?_) (by rfl) ?_ ?_ ?_; rotate_left 2; (focus (go_simp; first | done | rfl)); (focus ((try simp only [Kr.PT]); first | done | rfl)))
  refine Kr.seqR (by rfl) (fun K hK => ?_)
  go_simp
  go_at_call 18
  obtain ⟨l, hl⟩ := facs_small (n := p - 1) (by have := HP2.out; omega) (by have := HPM.out; omega)
  have HL := Lib.hid hl; have HLP := Lib.hid (facs_pri (by have := HP2.out; omega) (by have := HPM.out; omega) hl); clear hl
  refine ((Root_v ⟨Tab_grow HT.out.1 H.g, Bas_grow HT.out.2 H.g⟩ HPI.out (by have := HPM.out; omega)).mono fun e w2 h => root_some HL.out h).mono ?_
  rintro e yA ⟨r, hr, rfl, hg⟩
  have HR := Lib.hid hr; have HRP := Lib.hid (root_below HPI.out HPM.out HL.out hr); have HR1 := Lib.hid hr.1; clear hr
  replace H := H.grow hg
  clear hg
  (refine Kr.outS hK (a' := ?_) ?_ ?_; rotate_left; (focus ((try simp only [Kr.PT]); first | done | rfl))); clear hK K
  iterate 5 (refine Kr.seqQ (v := ?_) (a' := ?_) (by rfl) ?_ ?_ ?_; rotate_left 2; (focus (go_simp; first | done | rfl)); (focus ((try simp only [Kr.PT]); first | done | rfl)))
  refine Kr.seqDoneW ?_
  have C1 : Hid (decide ((p : Int) < 2) = false) := Lib.hid (decide_eq_false (by have := HP2.out; omega)); have C2 : Hid (decide ((4100 : Int) < (p : Int)) = false) := Lib.hid (decide_eq_false (by have := HPM.out; omega)); have C3 : Hid (decide ((r : Int) < 1) = false) := Lib.hid (decide_eq_false (by have := HR1.out; omega)); have C4 : Hid (decide ((p : Int) ≤ (r : Int)) = false) := Lib.hid (decide_eq_false (by have := HRP.out; omega))
  go_upto_region 5 with fail
  refine Kr.seqStartW ?_
  iterate 8 (refine Kr.seqQ (v := ?_) (a' := ?_) (by rfl) ?_ ?_ ?_; rotate_left 2; (focus (go_simp; first | done | rfl)); (focus ((try simp only [Kr.PT]); first | done | rfl)))
  (refine Kr.seqQ (v := .bool false) (a' := ?_) (by rfl) ?_ ?_ ?_; rotate_left 1; (focus (exact Kr.valOf rfl (lssT C1.out))); (focus ((try simp only [Kr.PT]); first | done | rfl)))
  iterate 3 (refine Kr.seqQ (v := ?_) (a' := ?_) (by rfl) ?_ ?_ ?_; rotate_left 2; (focus (go_simp; first | done | rfl)); (focus ((try simp only [Kr.PT]); first | done | rfl)))
  (refine Kr.seqQ (v := .bool false) (a' := ?_) (by rfl) ?_ ?_ ?_; rotate_left 1; (focus (exact Kr.valOf rfl (gtrI C2.out))); (focus ((try simp only [Kr.PT]); first | done | rfl)))
  iterate 3 (refine Kr.seqQ (v := ?_) (a' := ?_) (by rfl) ?_ ?_ ?_; rotate_left 2; (focus (go_simp; first | done | rfl)); (focus ((try simp only [Kr.PT]); first | done | rfl)))
  (refine Kr.seqQ (v := .bool false) (a' := ?_) (by rfl) ?_ ?_ ?_; rotate_left 1; (focus (exact Kr.valOf rfl (lssT C3.out))); (focus ((try simp only [Kr.PT]); first | done | rfl)))
  iterate 4 (refine Kr.seqQ (v := ?_) (a' := ?_) (by rfl) ?_ ?_ ?_; rotate_left 2; (focus (go_simp; first | done | rfl)); (focus ((try simp only [Kr.PT]); first | done | rfl)))
  (refine Kr.seqQ (v := .bool false) (a' := ?_) (by rfl) ?_ ?_ ?_; rotate_left 1; (focus (exact Kr.valOf rfl (geqI C4.out))); (focus ((try simp only [Kr.PT]); first | done | rfl)))
  (refine Kr.seqQ (v := ?_) (a' := ?_) (by rfl) ?_ ?_ ?_; rotate_left 2; (focus (go_simp; first | done | rfl)); (focus ((try simp only [Kr.PT]); first | done | rfl)))
  refine Kr.seqDoneW ?_
  obtain ⟨a, ha⟩ : ∃ a, p - 1 = a := ⟨_, rfl⟩
  have HA := Lib.hid ha; have HSUB : Hid (IntKind.i64.wrap ((p : Int) - 1) = (a : Int)) := Lib.hid (wrap_nat (by have := HP2.out; omega) (by have := HPM.out; omega)); clear ha
  go_upto_region 7 with fail
  refine Kr.seqStartW ?_
  (refine Kr.seqQ (v := ?_) (a' := ?_) (by rfl) ?_ ?_ ?_; rotate_left 2; (focus (go_simp; first | done | rfl)); (focus ((try simp only [Kr.PT]); first | done | rfl)))
  refine Kr.seqDoneW ?_
  have H2 := Lib.hid H
  clear H
  go_wp2_with fail
  go_loopw [7] (fun sv wr => ∃ s : Nat, 1 ≤ s ∧ s ≤ r + 1 ∧ sv = .int .i64 (s : Int) ∧ Hid (Sta w wr [] [])) (fun sv _ => r + 1 - (intOf sv).toNat)
  case atStart => exact ⟨1, by decide, by omega, rfl, H2⟩
  case round =>
    clear H2
    obtain ⟨s, hs1, hsr, rfl, HH⟩ := hrel
    have H := HH.out; have HS1 := Lib.hid hs1; have HSR := Lib.hid hsr; clear HH hs1 hsr
    by_cases hle : s ≤ r
    · have HL1 : Hid (decide ((s : Int) ≤ (r : Int)) = true) := Lib.hid (decide_eq_true (by omega)); have HSL := Lib.hid hle; have HSP : Hid (s < p) := Lib.hid (by have := HRP.out; omega); clear hle
      go_upto_region 8 with fail
      refine Kr.seqStartW ?_
      iterate 2 (refine Kr.seqQ (v := ?_) (a' := ?_) (by rfl) ?_ ?_ ?_; rotate_left 2; (focus (go_simp; first | done | rfl)); (focus ((try simp only [Kr.PT]); first | done | rfl)))
      (refine Kr.seqQ (v := .bool true) (a' := ?_) (by rfl) ?_ ?_ ?_; rotate_left 1; (focus (exact Kr.valOf rfl (leqI HL1.out))); (focus ((try simp only [Kr.PT]); first | done | rfl)))
      refine Kr.seqDoneW ?_
      go_upto_region 10 with fail
      refine Kr.seqStartW ?_
      iterate 3 (refine Kr.seqQ (v := ?_) (a' := ?_) (by rfl) ?_ ?_ ?_; rotate_left 2; (focus (go_simp; first | done | rfl)); (focus ((try simp only [Kr.PT]); first | done | rfl)))
      refine Kr.seqDoneW ?_
      have H3 := Lib.hid H
      clear H
      go_wp2_with fail
      go_loopw [8, 9] (fun ov xv wr => ∃ o x : Nat, 1 ≤ o ∧ o ≤ p ∧ ov = .int .i64 (o : Int) ∧ xv = .int .i64 (x : Int) ∧ Hid (s ^ o % p = x) ∧ Hid (NoOne p s o) ∧ Hid (Sta w wr [] [])) (fun ov _ _ => p - (intOf ov).toNat)
      case atStart => exact ⟨1, s, by decide, by have := HP2.out; omega, rfl, rfl, Lib.hid (by rw [Nat.pow_one, Nat.mod_eq_of_lt HSP.out]), Lib.hid (noOne_one _ _), H3⟩
      case round =>
        clear H3
        obtain ⟨o, x, ho1, hop, rfl, rfl, HX, HNO, HH⟩ := hrel
        have H := HH.out; have HO1 := Lib.hid ho1; have HXP : Hid (x < p) := Lib.hid (HX.out ▸ Nat.mod_lt _ (by have := HP2.out; omega)); clear HH ho1 hop
        have HOP := Lib.hid (noOne_le HPP.out HS1.out HSP.out HNO.out)
        by_cases hx1 : x = 1
        · have HC : Hid ((!decide ((x : Int) = 1)) = false) := Lib.hid (by rw [decide_eq_true (by omega)]; rfl)
          have HIFF := Lib.hid (order_iff HPP.out HS1.out HSP.out HL.out HLP.out (by rw [HX.out]; exact hx1) (by have := HO1.out; omega) HNO.out)
          obtain ⟨t, ht⟩ : ∃ t, decide ((s : Int) = (r : Int)) = t := ⟨_, rfl⟩
          have HE1 := Lib.hid ht; have HE2 : Hid (decide ((o : Int) = (a : Int)) = t) := Lib.hid (by rw [← ht]; exact decide_eq_decide.2 (by have e := HIFF.out; rw [HA.out] at e; have e2 := root_eq HR.out HS1.out HSL.out; constructor; intro h; exact congrArg (fun z : Nat => (z : Int)) (e2.1 (e.1 (by omega))); intro h; exact congrArg (fun z : Nat => (z : Int)) (e.2 (e2.2 (by omega))))); clear ht hx1
          go_upto_region 11 with fail
          refine Kr.seqStartW ?_
          (refine Kr.seqQ (v := ?_) (a' := ?_) (by rfl) ?_ ?_ ?_; rotate_left 2; (focus (go_simp; first | done | rfl)); (focus ((try simp only [Kr.PT]); first | done | rfl)))
          (refine Kr.seqQ (v := .bool false) (a' := ?_) (by rfl) ?_ ?_ ?_; rotate_left 1; (focus (exact Kr.valOf rfl (neqI HC.out))); (focus ((try simp only [Kr.PT]); first | done | rfl)))
          (refine Kr.seqQ (v := ?_) (a' := ?_) (by rfl) ?_ ?_ ?_; rotate_left 2; (focus (go_simp; first | done | rfl)); (focus ((try simp only [Kr.PT]); first | done | rfl)))
          (refine Kr.seqSkipQ (a' := ?_) (by rfl) ?_ ?_; rotate_left; (focus ((try simp only [Kr.PT]); first | done | rfl)))
          (refine Kr.seqSkipQ (a' := ?_) (by rfl) ?_ ?_; rotate_left; (focus ((try simp only [Kr.PT]); first | done | rfl)))
          (refine Kr.seqSkipQ (a' := ?_) (by rfl) ?_ ?_; rotate_left; (focus ((try simp only [Kr.PT]); first | done | rfl)))
          (refine Kr.seqQ (v := ?_) (a' := ?_) (by rfl) ?_ ?_ ?_; rotate_left 2; (focus (go_simp; first | done | rfl)); (focus ((try simp only [Kr.PT]); first | done | rfl)))
          refine Kr.seqDoneW ?_
          go_upto_region 17 with fail
          refine Kr.seqStartW ?_
          iterate 2 (refine Kr.seqQ (v := ?_) (a' := ?_) (by rfl) ?_ ?_ ?_; rotate_left 2; (focus (go_simp; first | done | rfl)); (focus ((try simp only [Kr.PT]); first | done | rfl)))
          (refine Kr.seqQ (v := .int .i64 (a : Int)) (a' := ?_) (by rfl) ?_ ?_ ?_; rotate_left 1; (focus (exact Kr.valOf rfl (subI HSUB.out))); (focus ((try simp only [Kr.PT]); first | done | rfl)))
          (refine Kr.seqQ (v := .bool t) (a' := ?_) (by rfl) ?_ ?_ ?_; rotate_left 1; (focus (exact Kr.valOf rfl (eqlI HE2.out))); (focus ((try simp only [Kr.PT]); first | done | rfl)))
          iterate 2 (refine Kr.seqQ (v := ?_) (a' := ?_) (by rfl) ?_ ?_ ?_; rotate_left 2; (focus (go_simp; first | done | rfl)); (focus ((try simp only [Kr.PT]); first | done | rfl)))
          (refine Kr.seqQ (v := .bool t) (a' := ?_) (by rfl) ?_ ?_ ?_; rotate_left 1; (focus (exact Kr.valOf rfl (eqlI HE1.out))); (focus ((try simp only [Kr.PT]); first | done | rfl)))
          (refine Kr.seqQ (v := .bool false) (a' := ?_) (by rfl) ?_ ?_ ?_; rotate_left 1; (focus (exact Kr.valOf rfl (neqB))); (focus ((try simp only [Kr.PT]); first | done | rfl)))
          refine Kr.seqDoneW ?_
          have HADD : Hid (IntKind.i64.wrap ((s : Int) + 1) = ((s + 1 : Nat) : Int)) := Lib.hid (wrap_nat (by omega) (by have h1 := HSP.out; have h2 := HPM.out; omega))
          go_upto_region 9 with fail
          refine Kr.seqStartW ?_
          (refine Kr.seqQ (v := ?_) (a' := ?_) (by rfl) ?_ ?_ ?_; rotate_left 2; (focus (go_simp; first | done | rfl)); (focus ((try simp only [Kr.PT]); first | done | rfl)))
          (refine Kr.seqQ (v := .int .i64 ((s + 1 : Nat) : Int)) (a' := ?_) (by rfl) ?_ ?_ ?_; rotate_left 1; (focus (exact Kr.valOf rfl (addI HADD.out))); (focus ((try simp only [Kr.PT]); first | done | rfl)))
          (refine Kr.seqQ (v := ?_) (a' := ?_) (by rfl) ?_ ?_ ?_; rotate_left 2; (focus (go_simp; first | done | rfl)); (focus ((try simp only [Kr.PT]); first | done | rfl)))
          refine Kr.seqDoneW ?_
          go_wp2
          go_roundw
          case rel => exact ⟨s + 1, Nat.succ_pos _, by have := HSL.out; omega, rfl, Lib.hid H⟩
          case measure => simp [intOf]; have := HSL.out; omega
        · have HC : Hid ((!decide ((x : Int) = 1)) = true) := Lib.hid (by rw [decide_eq_false (by omega)]; rfl)
          have HC2 : Hid (decide ((o : Int) < (p : Int)) = true) := Lib.hid (decide_eq_true (by have := HOP.out; have := HP2.out; omega))
          have HNO2 := Lib.hid (noOne_step HNO.out (by rw [HX.out]; exact hx1)); clear hx1
          go_upto_region 11 with fail
          refine Kr.seqStartW ?_
          (refine Kr.seqQ (v := ?_) (a' := ?_) (by rfl) ?_ ?_ ?_; rotate_left 2; (focus (go_simp; first | done | rfl)); (focus ((try simp only [Kr.PT]); first | done | rfl)))
          (refine Kr.seqQ (v := .bool true) (a' := ?_) (by rfl) ?_ ?_ ?_; rotate_left 1; (focus (exact Kr.valOf rfl (neqI HC.out))); (focus ((try simp only [Kr.PT]); first | done | rfl)))
          iterate 3 (refine Kr.seqQ (v := ?_) (a' := ?_) (by rfl) ?_ ?_ ?_; rotate_left 2; (focus (go_simp; first | done | rfl)); (focus ((try simp only [Kr.PT]); first | done | rfl)))
          (refine Kr.seqQ (v := .bool true) (a' := ?_) (by rfl) ?_ ?_ ?_; rotate_left 1; (focus (exact Kr.valOf rfl (lssT HC2.out))); (focus ((try simp only [Kr.PT]); first | done | rfl)))
          (refine Kr.seqQ (v := ?_) (a' := ?_) (by rfl) ?_ ?_ ?_; rotate_left 2; (focus (go_simp; first | done | rfl)); (focus ((try simp only [Kr.PT]); first | done | rfl)))
          refine Kr.seqDoneW ?_
          obtain ⟨z, hz⟩ : ∃ z, x * s % p = z := ⟨_, rfl⟩
          have HZ := Lib.hid hz; clear hz
          go_upto_region 12 with fail
          refine Kr.seqStartW ?_
          iterate 3 (refine Kr.seqQ (v := ?_) (a' := ?_) (by rfl) ?_ ?_ ?_; rotate_left 2; (focus (go_simp; first | done | rfl)); (focus ((try simp only [Kr.PT]); first | done | rfl)))
          refine Kr.seqR (by rfl) (fun K hK => ?_)
          go_simp
          go_at_call 21
          have hP := Ww.Mul_ok x s p HXP.out HSP.out (by have := HPM.out; omega) wr
          rw [HZ.out] at hP
          refine (hP).mono ?_
          rintro e y3 ⟨rfl, nz, rfl⟩
          have hg : Gr wr (wr.drewN nz) := (Gr.refl _).drewN _
          generalize wr.drewN nz = y3 at hg ⊢
          replace H := H.grow hg
          clear hg
          clear hP
          (refine Kr.outS hK (a' := ?_) ?_ ?_; rotate_left; (focus ((try simp only [Kr.PT]); first | done | rfl))); clear hK K
          iterate 5 (refine Kr.seqQ (v := ?_) (a' := ?_) (by rfl) ?_ ?_ ?_; rotate_left 2; (focus (go_simp; first | done | rfl)); (focus ((try simp only [Kr.PT]); first | done | rfl)))
          refine Kr.seqDoneW ?_
          go_upto_region 13 with fail
          refine Kr.seqStartW ?_
          iterate 2 (refine Kr.seqQ (v := ?_) (a' := ?_) (by rfl) ?_ ?_ ?_; rotate_left 2; (focus (go_simp; first | done | rfl)); (focus ((try simp only [Kr.PT]); first | done | rfl)))
          refine Kr.seqDoneW ?_
          go_upto_region 15 with fail
          refine Kr.seqStartW ?_
          iterate 2 (refine Kr.seqQ (v := ?_) (a' := ?_) (by rfl) ?_ ?_ ?_; rotate_left 2; (focus (go_simp; first | done | rfl)); (focus ((try simp only [Kr.PT]); first | done | rfl)))
          refine Kr.seqDoneW ?_
          have HADD : Hid (IntKind.i64.wrap ((o : Int) + 1) = ((o + 1 : Nat) : Int)) := Lib.hid (wrap_nat (by omega) (by have h1 := HOP.out; have h2 := HPM.out; omega))
          go_upto_region 16 with fail
          refine Kr.seqStartW ?_
          (refine Kr.seqQ (v := ?_) (a' := ?_) (by rfl) ?_ ?_ ?_; rotate_left 2; (focus (go_simp; first | done | rfl)); (focus ((try simp only [Kr.PT]); first | done | rfl)))
          (refine Kr.seqQ (v := .int .i64 ((o + 1 : Nat) : Int)) (a' := ?_) (by rfl) ?_ ?_ ?_; rotate_left 1; (focus (exact Kr.valOf rfl (addI HADD.out))); (focus ((try simp only [Kr.PT]); first | done | rfl)))
          (refine Kr.seqQ (v := ?_) (a' := ?_) (by rfl) ?_ ?_ ?_; rotate_left 2; (focus (go_simp; first | done | rfl)); (focus ((try simp only [Kr.PT]); first | done | rfl)))
          refine Kr.seqDoneW ?_
          go_wp2
          go_roundw
          case rel => exact ⟨o + 1, z, Nat.succ_pos _, by have := HOP.out; have := HP2.out; omega, rfl, rfl, Lib.hid (by rw [← HZ.out, ← HX.out, Nat.mod_mul_mod, Nat.pow_succ]), HNO2, Lib.hid H⟩
          case measure => simp [intOf]; have := HOP.out; have := HP2.out; omega
    · have HL1 : Hid (decide ((s : Int) ≤ (r : Int)) = false) := Lib.hid (decide_eq_false (by omega)); clear hle
      go_upto_region 8 with fail
      refine Kr.seqStartW ?_
      iterate 2 (refine Kr.seqQ (v := ?_) (a' := ?_) (by rfl) ?_ ?_ ?_; rotate_left 2; (focus (go_simp; first | done | rfl)); (focus ((try simp only [Kr.PT]); first | done | rfl)))
      (refine Kr.seqQ (v := .bool false) (a' := ?_) (by rfl) ?_ ?_ ?_; rotate_left 1; (focus (exact Kr.valOf rfl (leqI HL1.out))); (focus ((try simp only [Kr.PT]); first | done | rfl)))
      refine Kr.seqDoneW ?_
      go_upto_region 19 with fail
      refine Kr.seqStartW ?_
      (refine Kr.seqQ (v := ?_) (a' := ?_) (by rfl) ?_ ?_ ?_; rotate_left 2; (focus (go_simp; first | done | rfl)); (focus ((try simp only [Kr.PT]); first | done | rfl)))
      refine Kr.seqDoneW ?_
      have hk : True := trivial
      go_wp2
      refine bodyPost_ret (v := .bool true) (by simp [results, Tryd.results8, go_sem, hk]) rfl ⟨rfl, H.g⟩
end Go.Proofs.YtfompolklkehpaaDoor.Pr
