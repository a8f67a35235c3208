/- A part of the proofs, joined of smaller texts: Qi, Qj, Qk, Qm, Qn, Qo, Qp, Qq, Ql, Qr, Qs, Qt, Qu, Qv, Qw. -/
import Derived.Test.YtfompolklkehpaaDoorPp3
import Derived.Deep.Cut
import Derived.Deep.AppendLies
import Derived.Shelf.SlicesE.Compact
import Derived.Shelf.SlicesE.Clone
import Derived.Shelf.SlicesE.IndexFunc
import Derived.Shelf.SlicesE.Equal
import Derived.Ground.SlgnProg
import Derived.Ground.SlgfProg
import Derived.Laws.Rows

/- Next, of the program and of the reference. -/
namespace Go.Proofs.YtfompolklkehpaaDoor.Pr
open Go.RowKit Go.Shelf Go.Proofs.YtfompolklkehpaaDoor.Nm Go.Proofs.YtfompolklkehpaaDoor.Ne Go.Proofs.YtfompolklkehpaaDoor.Nf Go.Proofs.YtfompolklkehpaaDoor.Nk Go.Proofs.YtfompolklkehpaaDoor.Nv Go.Proofs.YtfompolklkehpaaDoor.Nr2 Go.Proofs.YtfompolklkehpaaDoor.Mo Go.Proofs.YtfompolklkehpaaDoor.Mr Go.Proofs.YtfompolklkehpaaDoor.Kr

/-- Fast powers: for the kernel. -/
def pm (m : Nat) : Nat → Nat → Nat → Nat
  | 0, _, _ => 1 % m
  | f + 1, b, e => if e = 0 then 1 % m else if e % 2 = 0 then pm m f (b * b % m) (e / 2) else pm m f (b * b % m) (e / 2) * b % m
theorem pm_eq (m : Nat) : ∀ (f b e : Nat), e < 2 ^ f → pm m f b e = b ^ e % m
  | 0, b, e, h => by
    obtain rfl : e = 0 := by rw [Nat.pow_zero] at h; omega
    rw [Nat.pow_zero]; rfl
  | f + 1, b, e, h => by
    have ih := pm_eq m f (b * b % m) (e / 2) (by rw [Nat.pow_succ] at h; omega)
    have e1 : (b * b % m) ^ (e / 2) % m = b ^ (2 * (e / 2)) % m := by rw [← Nat.pow_mod, Nat.pow_mul, Nat.pow_two]
    unfold pm
    by_cases h0 : e = 0
    · rw [if_pos h0, h0, Nat.pow_zero]
    rw [if_neg h0]
    by_cases h1 : e % 2 = 0
    · rw [if_pos h1, ih, e1, show 2 * (e / 2) = e by omega]
    · rw [if_neg h1, ih, e1, Nat.mod_mul_mod, ← Nat.pow_succ, show (2 * (e / 2)).succ = e by omega]
theorem pas_fast {n b s d : Nat} (hd : d % 2 = 1) (h : 2 ^ s * d = n - 1) (hn : n < 18446744073709551616) (hd2 : d < 2 ^ 64) : pas n b = (decide (pm n 64 b d = 1) || pasFrom n (pm n 64 b d) s) := by
  rw [pas_eq hd h hn, pm_eq n 64 b d hd2]
theorem tryL_none {n : Nat} : ∀ {l : List Nat}, (∀ b ∈ l, n % b ≠ 0) → tryL n l = bases.all (pas n)
  | [], _ => rfl
  | b :: r, h => by
    unfold tryL
    rw [if_neg (h b (List.mem_cons_self ..))]
    exact tryL_none fun c hc => h c (List.mem_cons_of_mem _ hc)
theorem isP_all {n : Nat} (h2 : 2 ≤ n) (h : ∀ b ∈ bases, n % b ≠ 0) : isP n = bases.all (pas n) := by
  unfold isP
  rw [if_neg (by omega)]
  exact tryL_none h
set_option maxRecDepth 10000 in
theorem isP_M : isP 2305843009213693951 = true := by
  rw [isP_all (by decide) (by decide)]
  rw [List.all_eq_true]
  intro b hb
  rw [pas_fast (s := 1) (d := 1152921504606846975) (by decide) (by decide) (by decide) (by decide)]
  revert b
  decide +kernel
/-- p is the least number above n that passes the test. -/
def IsNext (n p : Nat) : Prop := n < p ∧ isP p = true ∧ ∀ m, n < m → m < p → isP m = false
theorem IsNext.unique {n p q : Nat} (h : IsNext n p) (k : IsNext n q) : p = q := by
  rcases Nat.lt_trichotomy p q with h1 | h1 | h1
  · have := k.2.2 p h.1 h1
    rw [h.2.1] at this; cases this
  · exact h1
  · have := h.2.2 q k.1 h1
    rw [k.2.1] at this; cases this
theorem gtrI {w : World} {x y : Int} {b : Bool} (h : decide (y < x) = b) : (binOp .gtr 3 (.int .i64 x) (.int .i64 y)).run Tryd.prog w = .ok (.bool b) w := by
  go_simp
set_option linter.unusedSimpArgs false in
set_option maxRecDepth 100000 in
set_option maxHeartbeats 16000000 in
theorem Next_neg {n : Int} {w : World} (h : n < 0) :
    Calls Tryd.prog 11 #[.int .i64 n] w fun r w' => r = .returned (.tuple #[.int .i64 0, .int .i64 2]) ∧ Gr w w' := by
  have HL : Hid (decide (n < 0) = true) := Lib.hid (decide_eq_true h); clear h
  have H := Sta.start w
  go_enter Tryd.func11, Tryd.ntmps11
  go_upto_region 0 with fail
  refine Kr.seqStartW ?_
  iterate 2 (refine Kr.seqQ (v := ?_) (a' := ?_) (by rfl) ?_ ?_ ?_; rotate_left 2; (focus (go_simp; first | done | rfl)); (focus ((try simp only [Kr.PT]); first | done | rfl)))
  refine Kr.seqDoneW ?_
  go_upto_region 1 with fail
  refine Kr.seqStartW ?_
  (refine Kr.seqQ (v := ?_) (a' := ?_) (by rfl) ?_ ?_ ?_; rotate_left 2; (focus (go_simp; first | done | rfl)); (focus ((try simp only [Kr.PT]); first | done | rfl)))
  (refine Kr.seqQ (v := .bool true) (a' := ?_) (by rfl) ?_ ?_ ?_; rotate_left 1; (focus (exact Kr.valOf rfl (lssT HL.out))); (focus ((try simp only [Kr.PT]); first | done | rfl)))
  (refine Kr.seqQ (v := ?_) (a' := ?_) (by rfl) ?_ ?_ ?_; rotate_left 2; (focus (go_simp; first | done | rfl)); (focus ((try simp only [Kr.PT]); first | done | rfl)))
  (refine Kr.seqSkipQ (a' := ?_) (by rfl) ?_ ?_; rotate_left; (focus ((try simp only [Kr.PT]); first | done | rfl)))
  (refine Kr.seqSkipQ (a' := ?_) (by rfl) ?_ ?_; rotate_left; (focus ((try simp only [Kr.PT]); first | done | rfl)))
  (refine Kr.seqQ (v := ?_) (a' := ?_) (by rfl) ?_ ?_ ?_; rotate_left 2; (focus (go_simp; first | done | rfl)); (focus ((try simp only [Kr.PT]); first | done | rfl)))
  refine Kr.seqDoneW ?_
  go_upto_region 2 with fail
  refine Kr.seqStartW ?_
  iterate 2 (refine Kr.seqQ (v := ?_) (a' := ?_) (by rfl) ?_ ?_ ?_; rotate_left 2; (focus (go_simp; first | done | rfl)); (focus ((try simp only [Kr.PT]); first | done | rfl)))
  refine Kr.seqDoneW ?_
  have hk : True := trivial
  go_wp2
  refine bodyPost_ret (v := .tuple #[.int .i64 0, .int .i64 2]) (by simp [results, Tryd.results11, go_sem, hk]) rfl ⟨rfl, H.g⟩
set_option linter.unusedSimpArgs false in
set_option maxRecDepth 100000 in
set_option maxHeartbeats 16000000 in
theorem Next_big {n : Int} {w : World} (h : 2305843009213693950 < n) :
    Calls Tryd.prog 11 #[.int .i64 n] w fun r w' => r = .returned (.tuple #[.int .i64 0, .int .i64 2]) ∧ Gr w w' := by
  have HL : Hid (decide (n < 0) = false) := Lib.hid (decide_eq_false (by omega)); have HG : Hid (decide (2305843009213693950 < n) = true) := Lib.hid (decide_eq_true h); clear h
  have H := Sta.start w
  go_enter Tryd.func11, Tryd.ntmps11
  go_upto_region 0 with fail
  refine Kr.seqStartW ?_
  iterate 2 (refine Kr.seqQ (v := ?_) (a' := ?_) (by rfl) ?_ ?_ ?_; rotate_left 2; (focus (go_simp; first | done | rfl)); (focus ((try simp only [Kr.PT]); first | done | rfl)))
  refine Kr.seqDoneW ?_
  go_upto_region 1 with fail
  refine Kr.seqStartW ?_
  (refine Kr.seqQ (v := ?_) (a' := ?_) (by rfl) ?_ ?_ ?_; rotate_left 2; (focus (go_simp; first | done | rfl)); (focus ((try simp only [Kr.PT]); first | done | rfl)))
  (refine Kr.seqQ (v := .bool false) (a' := ?_) (by rfl) ?_ ?_ ?_; rotate_left 1; (focus (exact Kr.valOf rfl (lssT HL.out))); (focus ((try simp only [Kr.PT]); first | done | rfl)))
  iterate 2 (refine Kr.seqQ (v := ?_) (a' := ?_) (by rfl) ?_ ?_ ?_; rotate_left 2; (focus (go_simp; first | done | rfl)); (focus ((try simp only [Kr.PT]); first | done | rfl)))
  (refine Kr.seqQ (v := .bool true) (a' := ?_) (by rfl) ?_ ?_ ?_; rotate_left 1; (focus (exact Kr.valOf rfl (gtrI HG.out))); (focus ((try simp only [Kr.PT]); first | done | rfl)))
  (refine Kr.seqQ (v := ?_) (a' := ?_) (by rfl) ?_ ?_ ?_; rotate_left 2; (focus (go_simp; first | done | rfl)); (focus ((try simp only [Kr.PT]); first | done | rfl)))
  refine Kr.seqDoneW ?_
  go_upto_region 2 with fail
  refine Kr.seqStartW ?_
  iterate 2 (refine Kr.seqQ (v := ?_) (a' := ?_) (by rfl) ?_ ?_ ?_; rotate_left 2; (focus (go_simp; first | done | rfl)); (focus ((try simp only [Kr.PT]); first | done | rfl)))
  refine Kr.seqDoneW ?_
  have hk : True := trivial
  go_wp2
  refine bodyPost_ret (v := .tuple #[.int .i64 0, .int .i64 2]) (by simp [results, Tryd.results11, go_sem, hk]) rfl ⟨rfl, H.g⟩
set_option linter.unusedSimpArgs false in
set_option maxRecDepth 100000 in
set_option maxHeartbeats 16000000 in
theorem Next_v {n : Nat} {w : World} (hT : Wb.Tab w ∧ Bas w) (hn : n ≤ 2305843009213693950) :
    Calls Tryd.prog 11 #[.int .i64 (n : Int)] w fun r w' => ∃ p : Nat, IsNext n p ∧ p ≤ 2305843009213693951 ∧ r = .returned (.tuple #[.int .i64 (p : Int), .int .i64 0]) ∧ Gr w w' := by
  have HT := Lib.hid hT; clear hT
  have HN := Lib.hid hn; clear hn
  obtain ⟨n1, hn1⟩ : ∃ n1, n + 1 = n1 := ⟨_, rfl⟩
  have HADD0 : Hid (IntKind.i64.wrap ((n : Int) + 1) = (n1 : Int)) := Lib.hid (wrap_nat (by omega) (by have := HN.out; omega)); have HN1 := Lib.hid hn1; clear hn1
  have HL : Hid (decide ((n : Int) < 0) = false) := Lib.hid (decide_eq_false (by omega)); have HG : Hid (decide ((2305843009213693950 : Int) < (n : Int)) = false) := Lib.hid (decide_eq_false (by have := HN.out; omega))
  have H := Sta.start w
  go_enter Tryd.func11, Tryd.ntmps11
  go_upto_region 0 with fail
  refine Kr.seqStartW ?_
  iterate 2 (refine Kr.seqQ (v := ?_) (a' := ?_) (by rfl) ?_ ?_ ?_; rotate_left 2; (focus (go_simp; first | done | rfl)); (focus ((try simp only [Kr.PT]); first | done | rfl)))
  refine Kr.seqDoneW ?_
  go_upto_region 1 with fail
  refine Kr.seqStartW ?_
  (refine Kr.seqQ (v := ?_) (a' := ?_) (by rfl) ?_ ?_ ?_; rotate_left 2; (focus (go_simp; first | done | rfl)); (focus ((try simp only [Kr.PT]); first | done | rfl)))
  (refine Kr.seqQ (v := .bool false) (a' := ?_) (by rfl) ?_ ?_ ?_; rotate_left 1; (focus (exact Kr.valOf rfl (lssT HL.out))); (focus ((try simp only [Kr.PT]); first | done | rfl)))
  iterate 2 (refine Kr.seqQ (v := ?_) (a' := ?_) (by rfl) ?_ ?_ ?_; rotate_left 2; (focus (go_simp; first | done | rfl)); (focus ((try simp only [Kr.PT]); first | done | rfl)))
  (refine Kr.seqQ (v := .bool false) (a' := ?_) (by rfl) ?_ ?_ ?_; rotate_left 1; (focus (exact Kr.valOf rfl (gtrI HG.out))); (focus ((try simp only [Kr.PT]); first | done | rfl)))
  (refine Kr.seqQ (v := ?_) (a' := ?_) (by rfl) ?_ ?_ ?_; rotate_left 2; (focus (go_simp; first | done | rfl)); (focus ((try simp only [Kr.PT]); first | done | rfl)))
  refine Kr.seqDoneW ?_
  go_upto_region 3 with fail
  refine Kr.seqStartW ?_
  (refine Kr.seqQ (v := ?_) (a' := ?_) (by rfl) ?_ ?_ ?_; rotate_left 2; (focus (go_simp; first | done | rfl)); (focus ((try simp only [Kr.PT]); first | done | rfl)))
  (refine Kr.seqQ (v := .int .i64 (n1 : Int)) (a' := ?_) (by rfl) ?_ ?_ ?_; rotate_left 1; (focus (exact Kr.valOf rfl (addI HADD0.out))); (focus ((try simp only [Kr.PT]); first | done | rfl)))
  (refine Kr.seqQ (v := ?_) (a' := ?_) (by rfl) ?_ ?_ ?_; rotate_left 2; (focus (go_simp; first | done | rfl)); (focus ((try simp only [Kr.PT]); first | done | rfl)))
  refine Kr.seqDoneW ?_
  have H2 := Lib.hid H
  clear H
  go_wp2_with fail
  go_loopw [0] (fun v wr => ∃ m : Nat, v = .int .i64 (m : Int) ∧ n < m ∧ m ≤ 2305843009213693951 ∧ Hid (∀ k, n < k → k < m → isP k = false) ∧ Hid (Sta w wr [] [])) (fun v _ => 2305843009213693951 - (intOf v).toNat)
  case atStart => exact ⟨n1, rfl, by have := HN1.out; omega, by have := HN.out; have := HN1.out; omega, Lib.hid (fun k h1 h2 => absurd h2 (by have := HN1.out; omega)), H2⟩
  case round =>
    clear H2
    obtain ⟨m, rfl, hm1, hm2, HK, HH⟩ := hrel
    have H := HH.out; clear HH
    have HM1 := Lib.hid hm1; have HM2 := Lib.hid hm2; clear hm1 hm2
    cases hp : isP m
    · have HP : Hid (isP m = false) := Lib.hid hp
      clear hp
      go_upto_region 4 with fail
      refine Kr.seqStartW ?_
      (refine Kr.seqQ (v := ?_) (a' := ?_) (by rfl) ?_ ?_ ?_; rotate_left 2; (focus (go_simp; first | done | rfl)); (focus ((try simp only [Kr.PT]); first | done | rfl)))
      refine Kr.seqR (by rfl) (fun K hK => ?_)
      go_simp
      go_at_call 12
      have hP := Is_v (n := m) (w := wr) ⟨Tab_grow HT.out.1 H.g, Bas_grow HT.out.2 H.g⟩ (by have := HM2.out; omega)
      rw [HP.out] at hP
      refine (hP).mono ?_
      rintro e y1 ⟨rfl, hg⟩
      replace H := H.grow hg
      clear hg
      clear hP
      (refine Kr.outS hK (a' := ?_) ?_ ?_; rotate_left; (focus ((try simp only [Kr.PT]); first | done | rfl))); clear hK K
      (refine Kr.seqQ (v := ?_) (a' := ?_) (by rfl) ?_ ?_ ?_; rotate_left 2; (focus (go_simp; first | done | rfl)); (focus ((try simp only [Kr.PT]); first | done | rfl)))
      refine Kr.seqDoneW ?_
      have HML : Hid (m < 2305843009213693951) := Lib.hid (by rcases Nat.lt_or_ge m 2305843009213693951 with h | h; exact h; have h2 := HP.out; rw [show m = 2305843009213693951 by have := HM2.out; omega, isP_M] at h2; cases h2)
      have HADD : Hid (IntKind.i64.wrap ((m : Int) + 1) = ((m + 1 : Nat) : Int)) := Lib.hid (wrap_nat (by omega) (by have h1 := HML.out; omega))
      go_upto_region 5 with fail
      refine Kr.seqStartW ?_
      (refine Kr.seqQ (v := ?_) (a' := ?_) (by rfl) ?_ ?_ ?_; rotate_left 2; (focus (go_simp; first | done | rfl)); (focus ((try simp only [Kr.PT]); first | done | rfl)))
      (refine Kr.seqQ (v := .int .i64 ((m + 1 : Nat) : Int)) (a' := ?_) (by rfl) ?_ ?_ ?_; rotate_left 1; (focus (exact Kr.valOf rfl (addI HADD.out))); (focus ((try simp only [Kr.PT]); first | done | rfl)))
      (refine Kr.seqQ (v := ?_) (a' := ?_) (by rfl) ?_ ?_ ?_; rotate_left 2; (focus (go_simp; first | done | rfl)); (focus ((try simp only [Kr.PT]); first | done | rfl)))
      refine Kr.seqDoneW ?_
      go_wp2
      go_roundw
      case rel => exact ⟨m + 1, rfl, Nat.lt_succ_of_lt HM1.out, HML.out, Lib.hid (fun k h1 h2 => by rcases Nat.lt_succ_iff_lt_or_eq.1 h2 with h | h; exact HK.out k h1 h; rw [h]; exact HP.out), Lib.hid H⟩
      case measure => simp [intOf]; have := HML.out; omega
    · have HP : Hid (isP m = true) := Lib.hid hp
      clear hp
      go_upto_region 4 with fail
      refine Kr.seqStartW ?_
      (refine Kr.seqQ (v := ?_) (a' := ?_) (by rfl) ?_ ?_ ?_; rotate_left 2; (focus (go_simp; first | done | rfl)); (focus ((try simp only [Kr.PT]); first | done | rfl)))
      refine Kr.seqR (by rfl) (fun K hK => ?_)
      go_simp
      go_at_call 12
      have hP := Is_v (n := m) (w := wr) ⟨Tab_grow HT.out.1 H.g, Bas_grow HT.out.2 H.g⟩ (by have := HM2.out; omega)
      rw [HP.out] at hP
      refine (hP).mono ?_
      rintro e y2 ⟨rfl, hg⟩
      replace H := H.grow hg
      clear hg
      clear hP
      (refine Kr.outS hK (a' := ?_) ?_ ?_; rotate_left; (focus ((try simp only [Kr.PT]); first | done | rfl))); clear hK K
      (refine Kr.seqQ (v := ?_) (a' := ?_) (by rfl) ?_ ?_ ?_; rotate_left 2; (focus (go_simp; first | done | rfl)); (focus ((try simp only [Kr.PT]); first | done | rfl)))
      refine Kr.seqDoneW ?_
      go_upto_region 6 with fail
      refine Kr.seqStartW ?_
      iterate 3 (refine Kr.seqQ (v := ?_) (a' := ?_) (by rfl) ?_ ?_ ?_; rotate_left 2; (focus (go_simp; first | done | rfl)); (focus ((try simp only [Kr.PT]); first | done | rfl)))
      refine Kr.seqDoneW ?_
      have HX : Hid (IsNext n m) := Lib.hid ⟨HM1.out, HP.out, HK.out⟩
      have hk : True := trivial
      go_wp2
      refine bodyPost_ret (v := .tuple #[.int .i64 (m : Int), .int .i64 0]) (by simp [results, Tryd.results11, go_sem, hk]) rfl ⟨m, HX.out, HM2.out, rfl, H.g⟩
set_option linter.unusedSimpArgs false in
set_option maxRecDepth 100000 in
set_option maxHeartbeats 16000000 in
theorem rNext_v {n : Nat} {w : World} (hn : n ≤ 2305843009213693950) :
    Calls Tryd.prog 14 #[.int .i64 (n : Int)] w fun r w' => ∃ p : Nat, IsNext n p ∧ p ≤ 2305843009213693951 ∧ r = .returned (.int .i64 (p : Int)) ∧ Gr w w' := by
  have HN := Lib.hid hn; clear hn
  obtain ⟨n1, hn1⟩ : ∃ n1, n + 1 = n1 := ⟨_, rfl⟩
  have HADD0 : Hid (IntKind.i64.wrap ((n : Int) + 1) = (n1 : Int)) := Lib.hid (wrap_nat (by omega) (by have := HN.out; omega)); have HN1 := Lib.hid hn1; clear hn1
  have H := Sta.start w
  go_enter Tryd.func14, Tryd.ntmps14
  go_upto_region 0 with fail
  refine Kr.seqStartW ?_
  (refine Kr.seqQ (v := ?_) (a' := ?_) (by rfl) ?_ ?_ ?_; rotate_left 2; (focus (go_simp; first | done | rfl)); (focus ((try simp only [Kr.PT]); first | done | rfl)))
  refine Kr.seqDoneW ?_
  go_upto_region 1 with fail
  refine Kr.seqStartW ?_
  (refine Kr.seqQ (v := ?_) (a' := ?_) (by rfl) ?_ ?_ ?_; rotate_left 2; (focus (go_simp; first | done | rfl)); (focus ((try simp only [Kr.PT]); first | done | rfl)))
  (refine Kr.seqQ (v := .int .i64 (n1 : Int)) (a' := ?_) (by rfl) ?_ ?_ ?_; rotate_left 1; (focus (exact Kr.valOf rfl (addI HADD0.out))); (focus ((try simp only [Kr.PT]); first | done | rfl)))
  (refine Kr.seqQ (v := ?_) (a' := ?_) (by rfl) ?_ ?_ ?_; rotate_left 2; (focus (go_simp; first | done | rfl)); (focus ((try simp only [Kr.PT]); first | done | rfl)))
  refine Kr.seqDoneW ?_
  have H2 := Lib.hid H
  clear H
  go_wp2_with fail
  go_loopw [0] (fun v wr => ∃ m : Nat, v = .int .i64 (m : Int) ∧ n < m ∧ m ≤ 2305843009213693951 ∧ Hid (∀ k, n < k → k < m → isP k = false) ∧ Hid (Sta w wr [] [])) (fun v _ => 2305843009213693951 - (intOf v).toNat)
  case atStart => exact ⟨n1, rfl, by have := HN1.out; omega, by have := HN.out; have := HN1.out; omega, Lib.hid (fun k h1 h2 => absurd h2 (by have := HN1.out; omega)), H2⟩
  case round =>
    clear H2
    obtain ⟨m, rfl, hm1, hm2, HK, HH⟩ := hrel
    have H := HH.out; clear HH
    have HM1 := Lib.hid hm1; have HM2 := Lib.hid hm2; clear hm1 hm2
    cases hp : isP m
    · have HP : Hid (isP m = false) := Lib.hid hp
      clear hp
      go_upto_region 2 with fail
      refine Kr.seqStartW ?_
      (refine Kr.seqQ (v := ?_) (a' := ?_) (by rfl) ?_ ?_ ?_; rotate_left 2; (focus (go_simp; first | done | rfl)); (focus ((try simp only [Kr.PT]); first | done | rfl)))
      refine Kr.seqR (by rfl) (fun K hK => ?_)
      go_simp
      go_at_call 13
      have hP := rIs_v (n := m) (w := wr) (by have := HM2.out; omega)
      rw [HP.out] at hP
      refine (hP).mono ?_
      rintro e y1 ⟨rfl, hg⟩
      replace H := H.grow hg
      clear hg
      clear hP
      (refine Kr.outS hK (a' := ?_) ?_ ?_; rotate_left; (focus ((try simp only [Kr.PT]); first | done | rfl))); clear hK K
      (refine Kr.seqQ (v := ?_) (a' := ?_) (by rfl) ?_ ?_ ?_; rotate_left 2; (focus (go_simp; first | done | rfl)); (focus ((try simp only [Kr.PT]); first | done | rfl)))
      refine Kr.seqDoneW ?_
      have HML : Hid (m < 2305843009213693951) := Lib.hid (by rcases Nat.lt_or_ge m 2305843009213693951 with h | h; exact h; have h2 := HP.out; rw [show m = 2305843009213693951 by have := HM2.out; omega, isP_M] at h2; cases h2)
      have HADD : Hid (IntKind.i64.wrap ((m : Int) + 1) = ((m + 1 : Nat) : Int)) := Lib.hid (wrap_nat (by omega) (by have h1 := HML.out; omega))
      go_upto_region 3 with fail
      refine Kr.seqStartW ?_
      (refine Kr.seqQ (v := ?_) (a' := ?_) (by rfl) ?_ ?_ ?_; rotate_left 2; (focus (go_simp; first | done | rfl)); (focus ((try simp only [Kr.PT]); first | done | rfl)))
      (refine Kr.seqQ (v := .int .i64 ((m + 1 : Nat) : Int)) (a' := ?_) (by rfl) ?_ ?_ ?_; rotate_left 1; (focus (exact Kr.valOf rfl (addI HADD.out))); (focus ((try simp only [Kr.PT]); first | done | rfl)))
      (refine Kr.seqQ (v := ?_) (a' := ?_) (by rfl) ?_ ?_ ?_; rotate_left 2; (focus (go_simp; first | done | rfl)); (focus ((try simp only [Kr.PT]); first | done | rfl)))
      refine Kr.seqDoneW ?_
      go_wp2
      go_roundw
      case rel => exact ⟨m + 1, rfl, Nat.lt_succ_of_lt HM1.out, HML.out, Lib.hid (fun k h1 h2 => by rcases Nat.lt_succ_iff_lt_or_eq.1 h2 with h | h; exact HK.out k h1 h; rw [h]; exact HP.out), Lib.hid H⟩
      case measure => simp [intOf]; have := HML.out; omega
    · have HP : Hid (isP m = true) := Lib.hid hp
      clear hp
      go_upto_region 2 with fail
      refine Kr.seqStartW ?_
      (refine Kr.seqQ (v := ?_) (a' := ?_) (by rfl) ?_ ?_ ?_; rotate_left 2; (focus (go_simp; first | done | rfl)); (focus ((try simp only [Kr.PT]); first | done | rfl)))
      refine Kr.seqR (by rfl) (fun K hK => ?_)
      go_simp
      go_at_call 13
      have hP := rIs_v (n := m) (w := wr) (by have := HM2.out; omega)
      rw [HP.out] at hP
      refine (hP).mono ?_
      rintro e y2 ⟨rfl, hg⟩
      replace H := H.grow hg
      clear hg
      clear hP
      (refine Kr.outS hK (a' := ?_) ?_ ?_; rotate_left; (focus ((try simp only [Kr.PT]); first | done | rfl))); clear hK K
      (refine Kr.seqQ (v := ?_) (a' := ?_) (by rfl) ?_ ?_ ?_; rotate_left 2; (focus (go_simp; first | done | rfl)); (focus ((try simp only [Kr.PT]); first | done | rfl)))
      refine Kr.seqDoneW ?_
      go_upto_region 4 with fail
      refine Kr.seqStartW ?_
      iterate 2 (refine Kr.seqQ (v := ?_) (a' := ?_) (by rfl) ?_ ?_ ?_; rotate_left 2; (focus (go_simp; first | done | rfl)); (focus ((try simp only [Kr.PT]); first | done | rfl)))
      refine Kr.seqDoneW ?_
      have HX : Hid (IsNext n m) := Lib.hid ⟨HM1.out, HP.out, HK.out⟩
      have hk : True := trivial
      go_wp2
      refine bodyPost_ret (v := .int .i64 (m : Int)) (by simp [results, Tryd.results14, go_sem, hk]) rfl ⟨m, HX.out, HM2.out, rfl, H.g⟩
end Go.Proofs.YtfompolklkehpaaDoor.Pr


/- Rows of ints that append builds; the factors of a number. -/
namespace Go.Proofs.YtfompolklkehpaaDoor.Pr
open Go.RowKit Go.Shelf Go.Proofs.YtfompolklkehpaaDoor.Nm Go.Proofs.YtfompolklkehpaaDoor.Ne Go.Proofs.YtfompolklkehpaaDoor.Nf Go.Proofs.YtfompolklkehpaaDoor.Nk Go.Proofs.YtfompolklkehpaaDoor.Nv Go.Proofs.YtfompolklkehpaaDoor.Nr2 Go.Proofs.YtfompolklkehpaaDoor.Mo Go.Proofs.YtfompolklkehpaaDoor.Mr Go.Proofs.YtfompolklkehpaaDoor.Kr

/-- Ints as values. -/
def ci (l : List Nat) : List Value := l.map fun (x : Nat) => .int .i64 (x : Int)
theorem ci_length (r : List Nat) : (ci r).length = r.length := by simp [ci]
theorem ci_snoc (r : List Nat) (d : Nat) : ci (r ++ [d]) = ci r ++ [.int .i64 (d : Int)] := by simp [ci]
theorem infoI : (Tryd.prog.info? 3).map (fun i => (i.zero, i.size, i.bytes)) = some (some (.int .i64 0), 1, 8) := by kernel_rfl
/-- The slice v is the call's own and holds these ints. -/
def RowI (B : Nat) (v : Value) (r : List Nat) (W : World) : Prop := W.ownsRow B 3 1 v r.length (ci r)
theorem RowI.start (B : Nat) (W : World) : RowI B (.slice none 0 0) [] W := ⟨by simp [ci], .inl ⟨rfl, rfl⟩⟩
theorem RowI.grow {B : Nat} {v : Value} {r : List Nat} {W W' : World} (h : RowI B v r W) (g : Gr W W') : RowI B v r W' := ownsRow_below h g
theorem RowI.lt {B : Nat} {v : Value} {r : List Nat} {W : World} (h : RowI B v r W) : ∀ k, v.ownBlock = some k → B ≤ k ∧ k < W.heap.size := World.ownsRow.lt h
theorem one_int (w : World) (x : Int) : ∀ (j : Nat) (u : Value), ([Value.int .i64 x])[j]? = some u → (w.alloc (.cells #[.int .i64 x] 3)).cell? ((⟨w.heap.size, 0, none⟩ : Addr).add j) = some u := by
  intro j u hu
  match j, hu with
  | 0, hu =>
    simp at hu
    rw [← hu, addr_add]
    simp [go_sem]
  | j + 1, hu => simp at hu
theorem gr_grown {w W W' : World} {row : Option Nat} (H : Gr w W) (g : W.grownBy W' row) (hr : ∀ k, row = some k → w.heap.size ≤ k) : Gr w W' := by
  refine ⟨g.os.trans H.os, g.tape.trans H.tape, g.output.trans H.output, Nat.le_trans H.size g.size, fun k hk => ?_⟩
  rw [← H.block k hk]
  refine g.block k (Nat.lt_of_lt_of_le hk H.size) (fun e => ?_)
  have := hr k e.symm
  omega
/-- An int has been appended. -/
theorem int_append {w W W' : World} {v v1 : Value} {r : List Nat} {d : Nat} (H : Sta w W [] []) (HR : RowI w.heap.size v r W)
    (ho : W'.ownsRow w.heap.size 3 1 v1 (r.length + 1) (ci r ++ [.int .i64 (d : Int)])) (hg : W.grownBy W' v.ownBlock) : Sta w W' [] [] ∧ RowI w.heap.size v1 (r ++ [d]) W' := by
  have h1 := gr_grown H.g hg (fun k e => (HR.lt k e).1)
  refine ⟨(Sta.start w).grow h1, ?_⟩
  show W'.ownsRow w.heap.size 3 1 v1 (r ++ [d]).length (ci (r ++ [d]))
  rw [ci_snoc, List.length_append]
  exact ho
/-- A divisor taken out as often as it divides. -/
def strip (d z : Nat) : List Nat × Nat :=
  if 2 ≤ d ∧ 0 < z ∧ z % d = 0 then (d :: (strip d (z / d)).1, (strip d (z / d)).2) else ([], z)
termination_by z
decreasing_by
  all_goals
    rename_i h
    exact Nat.div_lt_self h.2.1 (by omega)
theorem strip_yes {d z : Nat} (h2 : 2 ≤ d) (hz : 0 < z) (h : z % d = 0) : strip d z = (d :: (strip d (z / d)).1, (strip d (z / d)).2) := by
  rw [strip, if_pos ⟨h2, hz, h⟩]
theorem strip_no {d z : Nat} (h : z % d ≠ 0) : strip d z = ([], z) := by
  rw [strip, if_neg (fun k => h k.2.2)]
/-- The factors that trial division finds from d on, and what is left. -/
def fac (d z : Nat) : List Nat × Nat :=
  if d ≤ 1048576 ∧ d * d ≤ z then ((strip d z).1 ++ (fac (d + 1) (strip d z).2).1, (fac (d + 1) (strip d z).2).2) else ([], z)
termination_by 1048577 - d
decreasing_by
  all_goals
    rename_i h
    omega
theorem fac_yes {d z : Nat} (h : d ≤ 1048576) (h2 : d * d ≤ z) : fac d z = ((strip d z).1 ++ (fac (d + 1) (strip d z).2).1, (fac (d + 1) (strip d z).2).2) := by
  rw [fac, if_pos ⟨h, h2⟩]
theorem fac_no {d z : Nat} (h : ¬ (d ≤ 1048576 ∧ d * d ≤ z)) : fac d z = ([], z) := by
  rw [fac, if_neg h]
/-- The factors of a number, if they are found. -/
def facs (n : Nat) : Option (List Nat) :=
  if (fac 2 n).2 = 1 then some (fac 2 n).1 else if isP (fac 2 n).2 = true then some ((fac 2 n).1 ++ [(fac 2 n).2]) else none
theorem len64 {k z N : Nat} (h : 2 ^ k * z ≤ N) (hz : 0 < z) (hN : N < 2305843009213693952) : k < 61 := by
  rcases Nat.lt_or_ge k 61 with h1 | h1
  · exact h1
  · have h2 : 2 ^ 61 ≤ 2 ^ k := Nat.pow_le_pow_right (by decide) h1
    have h3 : 2 ^ k * 1 ≤ 2 ^ k * z := Nat.mul_le_mul_left _ hz
    have h4 : (2 : Nat) ^ 61 = 2305843009213693952 := by decide
    omega
theorem le_of_pow {k z N : Nat} (h : 2 ^ k * z ≤ N) : z ≤ N := by
  have h1 : 1 * z ≤ 2 ^ k * z := Nat.mul_le_mul_right _ (Nat.pow_pos (by decide))
  omega
theorem pow_step {k d z N : Nat} (h : 2 ^ k * z ≤ N) (hd : 2 ≤ d) (hz : z % d = 0) : 2 ^ (k + 1) * (z / d) ≤ N := by
  have h1 : d * (z / d) = z := Nat.mul_div_cancel' (Nat.dvd_of_mod_eq_zero hz)
  have h2 : 2 * (z / d) ≤ d * (z / d) := Nat.mul_le_mul_right _ hd
  have h3 : 2 ^ k * (2 * (z / d)) ≤ 2 ^ k * z := Nat.mul_le_mul_left _ (by omega)
  rw [Nat.pow_succ, Nat.mul_assoc]
  omega
theorem sq_small {d : Nat} (h : d ≤ 1048577) : d * d < 9223372036854775808 := by
  have h1 : d * d ≤ 1048577 * 1048577 := Nat.mul_le_mul h h
  omega
end Go.Proofs.YtfompolklkehpaaDoor.Pr


/- Factors, of the program and of the reference. -/
namespace Go.Proofs.YtfompolklkehpaaDoor.Pr
open Go.RowKit Go.Shelf Go.Proofs.YtfompolklkehpaaDoor.Nm Go.Proofs.YtfompolklkehpaaDoor.Ne Go.Proofs.YtfompolklkehpaaDoor.Nf Go.Proofs.YtfompolklkehpaaDoor.Nk Go.Proofs.YtfompolklkehpaaDoor.Nv Go.Proofs.YtfompolklkehpaaDoor.Nr2 Go.Proofs.YtfompolklkehpaaDoor.Mo Go.Proofs.YtfompolklkehpaaDoor.Mr Go.Proofs.YtfompolklkehpaaDoor.Kr

/-- What Factors hands back. -/
def FacOut (good bad : Value) (N : Nat) (w : World) (e : Ending) (w' : World) : Prop :=
  Gr w w' ∧ ((∃ l v, facs N = some l ∧ e = .returned (.tuple #[v, good]) ∧ RowI w.heap.size v l w') ∨ (facs N = none ∧ e = .returned (.tuple #[.slice none 0 0, bad])))
set_option linter.unusedSimpArgs false in
set_option maxRecDepth 100000 in
set_option maxHeartbeats 16000000 in
theorem Factors_neg {n : Int} {w : World} (h : n < 1) :
    Calls Tryd.prog 15 #[.int .i64 n] w fun r w' => r = .returned (.tuple #[.slice none 0 0, .int .i64 2]) ∧ Gr w w' := by
  have HL : Hid (decide (n < 1) = true) := Lib.hid (decide_eq_true h); clear h
  have H := Sta.start w
  go_enter Tryd.func15, Tryd.ntmps15
  go_upto_region 0 with fail
  refine Kr.seqStartW ?_
  iterate 2 (refine Kr.seqQ (v := ?_) (a' := ?_) (by rfl) ?_ ?_ ?_; rotate_left 2; (focus (go_simp; first | done | rfl)); (focus ((try simp only [Kr.PT]); first | done | rfl)))
  refine Kr.seqDoneW ?_
  go_upto_region 1 with fail
  refine Kr.seqStartW ?_
  (refine Kr.seqQ (v := ?_) (a' := ?_) (by rfl) ?_ ?_ ?_; rotate_left 2; (focus (go_simp; first | done | rfl)); (focus ((try simp only [Kr.PT]); first | done | rfl)))
  (refine Kr.seqQ (v := .bool true) (a' := ?_) (by rfl) ?_ ?_ ?_; rotate_left 1; (focus (exact Kr.valOf rfl (lssT HL.out))); (focus ((try simp only [Kr.PT]); first | done | rfl)))
  (refine Kr.seqQ (v := ?_) (a' := ?_) (by rfl) ?_ ?_ ?_; rotate_left 2; (focus (go_simp; first | done | rfl)); (focus ((try simp only [Kr.PT]); first | done | rfl)))
  (refine Kr.seqSkipQ (a' := ?_) (by rfl) ?_ ?_; rotate_left; (focus ((try simp only [Kr.PT]); first | done | rfl)))
  (refine Kr.seqSkipQ (a' := ?_) (by rfl) ?_ ?_; rotate_left; (focus ((try simp only [Kr.PT]); first | done | rfl)))
  (refine Kr.seqQ (v := ?_) (a' := ?_) (by rfl) ?_ ?_ ?_; rotate_left 2; (focus (go_simp; first | done | rfl)); (focus ((try simp only [Kr.PT]); first | done | rfl)))
  refine Kr.seqDoneW ?_
  go_upto_region 2 with fail
  refine Kr.seqStartW ?_
  iterate 2 (refine Kr.seqQ (v := ?_) (a' := ?_) (by rfl) ?_ ?_ ?_; rotate_left 2; (focus (go_simp; first | done | rfl)); (focus ((try simp only [Kr.PT]); first | done | rfl)))
  refine Kr.seqDoneW ?_
  have hk : True := trivial
  go_wp2
  refine bodyPost_ret (v := .tuple #[.slice none 0 0, .int .i64 2]) (by simp [results, Tryd.results15, go_sem, hk]) rfl ⟨rfl, H.g⟩
set_option linter.unusedSimpArgs false in
set_option maxRecDepth 100000 in
set_option maxHeartbeats 16000000 in
theorem Factors_big {n : Int} {w : World} (h : 2305843009213693952 ≤ n) :
    Calls Tryd.prog 15 #[.int .i64 n] w fun r w' => r = .returned (.tuple #[.slice none 0 0, .int .i64 2]) ∧ Gr w w' := by
  have HL : Hid (decide (n < 1) = false) := Lib.hid (decide_eq_false (by omega)); have HG : Hid (decide (2305843009213693952 ≤ n) = true) := Lib.hid (decide_eq_true h); clear h
  have H := Sta.start w
  go_enter Tryd.func15, Tryd.ntmps15
  go_upto_region 0 with fail
  refine Kr.seqStartW ?_
  iterate 2 (refine Kr.seqQ (v := ?_) (a' := ?_) (by rfl) ?_ ?_ ?_; rotate_left 2; (focus (go_simp; first | done | rfl)); (focus ((try simp only [Kr.PT]); first | done | rfl)))
  refine Kr.seqDoneW ?_
  go_upto_region 1 with fail
  refine Kr.seqStartW ?_
  (refine Kr.seqQ (v := ?_) (a' := ?_) (by rfl) ?_ ?_ ?_; rotate_left 2; (focus (go_simp; first | done | rfl)); (focus ((try simp only [Kr.PT]); first | done | rfl)))
  (refine Kr.seqQ (v := .bool false) (a' := ?_) (by rfl) ?_ ?_ ?_; rotate_left 1; (focus (exact Kr.valOf rfl (lssT HL.out))); (focus ((try simp only [Kr.PT]); first | done | rfl)))
  iterate 2 (refine Kr.seqQ (v := ?_) (a' := ?_) (by rfl) ?_ ?_ ?_; rotate_left 2; (focus (go_simp; first | done | rfl)); (focus ((try simp only [Kr.PT]); first | done | rfl)))
  (refine Kr.seqQ (v := .bool true) (a' := ?_) (by rfl) ?_ ?_ ?_; rotate_left 1; (focus (exact Kr.valOf rfl (geqI HG.out))); (focus ((try simp only [Kr.PT]); first | done | rfl)))
  (refine Kr.seqQ (v := ?_) (a' := ?_) (by rfl) ?_ ?_ ?_; rotate_left 2; (focus (go_simp; first | done | rfl)); (focus ((try simp only [Kr.PT]); first | done | rfl)))
  refine Kr.seqDoneW ?_
  go_upto_region 2 with fail
  refine Kr.seqStartW ?_
  iterate 2 (refine Kr.seqQ (v := ?_) (a' := ?_) (by rfl) ?_ ?_ ?_; rotate_left 2; (focus (go_simp; first | done | rfl)); (focus ((try simp only [Kr.PT]); first | done | rfl)))
  refine Kr.seqDoneW ?_
  have hk : True := trivial
  go_wp2
  refine bodyPost_ret (v := .tuple #[.slice none 0 0, .int .i64 2]) (by simp [results, Tryd.results15, go_sem, hk]) rfl ⟨rfl, H.g⟩
set_option linter.unusedSimpArgs false in
set_option maxRecDepth 100000 in
set_option maxHeartbeats 16000000 in
theorem rFactors_v {N : Nat} {w : World} (h1 : 0 < N) (hn : N < 2305843009213693952) :
    Calls Tryd.prog 16 #[.int .i64 (N : Int)] w (FacOut (.bool true) (.bool false) N w) := by
  have HN := Lib.hid hn; have HN1 := Lib.hid h1; clear hn h1
  obtain ⟨L, hL⟩ : ∃ L, (fac 2 N).1 = L := ⟨_, rfl⟩
  obtain ⟨R, hR⟩ : ∃ R, (fac 2 N).2 = R := ⟨_, rfl⟩
  have HFS : Hid (facs N = if R = 1 then some L else if isP R = true then some (L ++ [R]) else none) := Lib.hid (by unfold facs; rw [hL, hR])
  have HL0 : Hid ([] ++ (fac 2 N).1 = L) := Lib.hid hL; have HR0 : Hid ((fac 2 N).2 = R) := Lib.hid hR; clear hL hR
  obtain ⟨i0, hi, hz0, hz1, hz2⟩ := info_parts infoI
  have H := Sta.start w
  go_enter Tryd.func16, Tryd.ntmps16
  go_upto_region 0 with fail
  refine Kr.seqStartW ?_
  iterate 2 (refine Kr.seqQ (v := ?_) (a' := ?_) (by rfl) ?_ ?_ ?_; rotate_left 2; (focus (go_simp; first | done | rfl)); (focus ((try simp only [Kr.PT]); first | done | rfl)))
  refine Kr.seqDoneW ?_
  go_upto_region 1 with fail
  refine Kr.seqStartW ?_
  (refine Kr.seqQ (v := ?_) (a' := ?_) (by rfl) ?_ ?_ ?_; rotate_left 2; (focus (go_simp; first | done | rfl)); (focus ((try simp only [Kr.PT]); first | done | rfl)))
  refine Kr.seqDoneW ?_
  go_upto_region 2 with fail
  refine Kr.seqStartW ?_
  (refine Kr.seqQ (v := ?_) (a' := ?_) (by rfl) ?_ ?_ ?_; rotate_left 2; (focus (go_simp; first | done | rfl)); (focus ((try simp only [Kr.PT]); first | done | rfl)))
  refine Kr.seqDoneW ?_
  have h0 : Hid (RowI w.heap.size (.slice none 0 0) [] w) := Lib.hid (RowI.start _ _)
  have H2 := Lib.hid H
  clear H
  go_wp2_with fail
  go_loopw [0, 4, 5] (fun zv v dv wr => ∃ (z d : Nat) (r : List Nat), zv = .int .i64 (z : Int) ∧ dv = .int .i64 (d : Int) ∧ 2 ≤ d ∧ d ≤ 1048577 ∧ 0 < z ∧ Hid (2 ^ r.length * z ≤ N) ∧ Hid (r ++ (fac d z).1 = L) ∧ Hid ((fac d z).2 = R) ∧ Hid (RowI w.heap.size v r wr) ∧ Hid (Sta w wr [] [])) (fun _ _ dv _ => 1048577 - (intOf dv).toNat)
  case atStart => exact ⟨N, 2, [], rfl, rfl, by decide, by decide, HN1.out, Lib.hid (by rw [List.length_nil, Nat.pow_zero, Nat.one_mul]; exact Nat.le_refl _), HL0, HR0, h0, H2⟩
  case round =>
    clear H2 h0 HL0 HR0
    obtain ⟨z, d, r, rfl, rfl, hd2, hdl, hz, HPW, HL, HRR, HR, HH⟩ := hrel
    have H := HH.out; have HD2 := Lib.hid hd2; have HDL := Lib.hid hdl; have HZ := Lib.hid hz; clear HH hd2 hdl hz
    have HZN : Hid (z < 2305843009213693952) := Lib.hid (Nat.lt_of_le_of_lt (le_of_pow HPW.out) HN.out)
    by_cases hd : d ≤ 1048576
    · have HC1 : Hid (decide ((d : Int) ≤ 1048576) = true) := Lib.hid (decide_eq_true (by omega))
      have HD20 := Lib.hid hd; clear hd
      obtain ⟨q, hq⟩ : ∃ q, d * d = q := ⟨_, rfl⟩
      have HQD := Lib.hid hq; have HMUL : Hid (IntKind.i64.wrap ((d : Int) * (d : Int)) = (q : Int)) := Lib.hid (wrap_nat (by rw [← hq]; simp) (hq ▸ sq_small HDL.out)); clear hq
      by_cases hqz : q ≤ z
      · have HC2 : Hid (decide ((q : Int) ≤ (z : Int)) = true) := Lib.hid (decide_eq_true (by omega))
        have HFY := fac_yes HD20.out (show d * d ≤ z by rw [HQD.out]; exact hqz)
        rw [HFY] at HL HRR
        clear HFY hqz
        go_upto_region 3 with fail
        refine Kr.seqStartW ?_
        (refine Kr.seqQ (v := ?_) (a' := ?_) (by rfl) ?_ ?_ ?_; rotate_left 2; (focus (go_simp; first | done | rfl)); (focus ((try simp only [Kr.PT]); first | done | rfl)))
        (refine Kr.seqQ (v := .bool true) (a' := ?_) (by rfl) ?_ ?_ ?_; rotate_left 1; (focus (exact Kr.valOf rfl (leqI HC1.out))); (focus ((try simp only [Kr.PT]); first | done | rfl)))
        iterate 3 (refine Kr.seqQ (v := ?_) (a' := ?_) (by rfl) ?_ ?_ ?_; rotate_left 2; (focus (go_simp; first | done | rfl)); (focus ((try simp only [Kr.PT]); first | done | rfl)))
        (refine Kr.seqQ (v := .int .i64 (q : Int)) (a' := ?_) (by rfl) ?_ ?_ ?_; rotate_left 1; (focus (exact Kr.valOf rfl (mulI HMUL.out))); (focus ((try simp only [Kr.PT]); first | done | rfl)))
        (refine Kr.seqQ (v := ?_) (a' := ?_) (by rfl) ?_ ?_ ?_; rotate_left 2; (focus (go_simp; first | done | rfl)); (focus ((try simp only [Kr.PT]); first | done | rfl)))
        (refine Kr.seqQ (v := .bool true) (a' := ?_) (by rfl) ?_ ?_ ?_; rotate_left 1; (focus (exact Kr.valOf rfl (leqI HC2.out))); (focus ((try simp only [Kr.PT]); first | done | rfl)))
        (refine Kr.seqQ (v := ?_) (a' := ?_) (by rfl) ?_ ?_ ?_; rotate_left 2; (focus (go_simp; first | done | rfl)); (focus ((try simp only [Kr.PT]); first | done | rfl)))
        refine Kr.seqDoneW ?_
        have H2 := Lib.hid H
        clear H
        go_wp2_with fail
        go_loopw [0, 4] (fun zv v wi => ∃ (z : Nat) (r : List Nat), zv = .int .i64 (z : Int) ∧ 0 < z ∧ Hid (2 ^ r.length * z ≤ N) ∧ Hid (r ++ ((strip d z).1 ++ (fac (d + 1) (strip d z).2).1) = L) ∧ Hid ((fac (d + 1) (strip d z).2).2 = R) ∧ Hid (RowI w.heap.size v r wi) ∧ Hid (Sta w wi [] [])) (fun zv _ _ => (intOf zv).toNat)
        case atStart => exact ⟨z, r, rfl, HZ.out, HPW, HL, HRR, HR, H2⟩
        case round =>
          clear H2 HPW HL HRR HR HZ HZN HC2 HQD HMUL
          obtain ⟨z, r, rfl, hz, HPW, HL, HRR, HR, HH⟩ := hrel
          have H := HH.out; have HZ := Lib.hid hz; clear HH hz
          have HZN : Hid (z < 2305843009213693952) := Lib.hid (Nat.lt_of_le_of_lt (le_of_pow HPW.out) HN.out)
          have HZ63 : Hid (z < 9223372036854775808) := Lib.hid (Nat.lt_trans HZN.out (by decide)); have HD0 : Hid (0 < d) := Lib.hid (by have := HD2.out; omega); have HD63 : Hid (d < 9223372036854775808) := Lib.hid (by have := HDL.out; omega)
          obtain ⟨t, ht⟩ : ∃ t, z % d = t := ⟨_, rfl⟩
          have HTM := Lib.hid ht; clear ht
          by_cases ht0 : t = 0
          · subst ht0
            have HE : Hid (decide (((0 : Nat) : Int) = 0) = true) := Lib.hid (by decide)
            have HS := strip_yes HD2.out HZ.out HTM.out
            rw [HS] at HL HRR
            clear HS
            obtain ⟨k, hk⟩ : ∃ k, z / d = k := ⟨_, rfl⟩
            rw [hk] at HL HRR
            have HKD := Lib.hid hk; have HPW2 : Hid (2 ^ (r.length + 1) * k ≤ N) := Lib.hid (hk ▸ pow_step HPW.out HD2.out HTM.out)
            have HK0 : Hid (0 < k ∧ k < z) := Lib.hid ⟨hk ▸ Nat.div_pos (Nat.le_of_dvd HZ.out (Nat.dvd_of_mod_eq_zero HTM.out)) HD0.out, hk ▸ Nat.div_lt_self HZ.out HD2.out⟩
            clear hk
            go_upto_region 5 with fail
            refine Kr.seqStartW ?_
            iterate 2 (refine Kr.seqQ (v := ?_) (a' := ?_) (by rfl) ?_ ?_ ?_; rotate_left 2; (focus (go_simp; first | done | rfl)); (focus ((try simp only [Kr.PT]); first | done | rfl)))
            (refine Kr.seqQ (v := .int .i64 ((0 : Nat) : Int)) (a' := ?_) (by rfl) ?_ ?_ ?_; rotate_left 1; (focus (exact Kr.valOf rfl (remI HD0.out HTM.out HD63.out))); (focus ((try simp only [Kr.PT]); first | done | rfl)))
            (refine Kr.seqQ (v := .bool true) (a' := ?_) (by rfl) ?_ ?_ ?_; rotate_left 1; (focus (exact Kr.valOf rfl (eqlI HE.out))); (focus ((try simp only [Kr.PT]); first | done | rfl)))
            refine Kr.seqDoneW ?_
            obtain ⟨m, hm⟩ : ∃ m, r.length = m := ⟨_, rfl⟩
            have HM := Lib.hid hm
            have hmb : m ≤ 2048 := by have h := len64 HPW.out HZ.out HN.out; omega
            clear hm
            go_upto_region 6 with fail
            refine Kr.seqStartW ?_
            iterate 2 (refine Kr.seqQ (v := ?_) (a' := ?_) (by rfl) ?_ ?_ ?_; rotate_left 2; (focus (go_simp; first | done | rfl)); (focus ((try simp only [Kr.PT]); first | done | rfl)))
            refine Kr.seqR (by rfl) (fun K hK => ?_)
            go_simp
            obtain ⟨y1, hy⟩ : ∃ y, wr.alloc (.cells #[.int .i64 (d : Int)] 3) = y := ⟨_, rfl⟩
            obtain ⟨bone, hbn⟩ : ∃ b, wr.heap.size = b := ⟨_, rfl⟩
            rw [hy, hbn]
            have hg : Gr wr y1 := hy ▸ (Gr.refl _).alloc _
            have HONE := Lib.hid (hbn ▸ hy ▸ one_int wr (d : Int))
            replace HR := Lib.hid (HR.out.grow hg)
            replace H := H.grow hg
            clear hg hy hbn
            (refine Kr.outS hK (a' := ?_) ?_ ?_; rotate_left; (focus ((try simp only [Kr.PT]); first | done | rfl))); clear hK K
            refine Kr.seqR (by rfl) (fun K hK => ?_)
            refine wp_append_lies _ (.tmp 21) (.tmp 23) 28 rfl w.heap.size 3 i0 (.int .i64 0) 1 8 Tryd.underlying28 hi hz0 hz1 hz2 rfl (by decide) u4 m (ci r) rfl (HM.out ▸ HR.out) ⟨bone, 0, none⟩ 1 1 [.int .i64 (d : Int)] rfl rfl HONE.out (by simp [Value.oneCell']) (by decide) (by unfold maxLen; omega) (by omega) H.g.le _ rfl ?_
            intro gb cap w3 hown hgrow hat _
            have h5 := int_append H HR.out (v1 := .slice (some ⟨gb, 0, none⟩) (m + 1) cap) (by rw [HM.out]; exact hown) hgrow
            obtain ⟨v1, hv1⟩ : ∃ v1 : Value, .slice (some ⟨gb, 0, none⟩) (m + 1) cap = v1 := ⟨_, rfl⟩
            rw [hv1] at h5
            rw [hv1]
            clear hown hgrow hat hv1 HONE
            clear H HR
            obtain ⟨H, hR⟩ := h5
            have HR := Lib.hid hR
            clear hR
            (refine Kr.outS hK (a' := ?_) ?_ ?_; rotate_left; (focus ((try simp only [Kr.PT]); first | done | rfl))); clear hK K
            (refine Kr.seqQ (v := ?_) (a' := ?_) (by rfl) ?_ ?_ ?_; rotate_left 2; (focus (go_simp; first | done | rfl)); (focus ((try simp only [Kr.PT]); first | done | rfl)))
            refine Kr.seqDoneW ?_
            go_upto_region 7 with fail
            refine Kr.seqStartW ?_
            iterate 2 (refine Kr.seqQ (v := ?_) (a' := ?_) (by rfl) ?_ ?_ ?_; rotate_left 2; (focus (go_simp; first | done | rfl)); (focus ((try simp only [Kr.PT]); first | done | rfl)))
            (refine Kr.seqQ (v := .int .i64 (k : Int)) (a' := ?_) (by rfl) ?_ ?_ ?_; rotate_left 1; (focus (exact Kr.valOf rfl (quoI HD0.out HKD.out HZ63.out))); (focus ((try simp only [Kr.PT]); first | done | rfl)))
            (refine Kr.seqQ (v := ?_) (a' := ?_) (by rfl) ?_ ?_ ?_; rotate_left 2; (focus (go_simp; first | done | rfl)); (focus ((try simp only [Kr.PT]); first | done | rfl)))
            refine Kr.seqDoneW ?_
            go_wp2
            go_roundw
            case rel => exact ⟨k, r ++ [d], rfl, HK0.out.1, Lib.hid (by rw [List.length_append]; exact HPW2.out), Lib.hid (by rw [← HL.out, List.append_assoc]; rfl), HRR, HR, Lib.hid H⟩
            case measure => simp [intOf]; have := HK0.out; omega
          · have HE : Hid (decide ((t : Int) = 0) = false) := Lib.hid (decide_eq_false (by omega))
            have HS := strip_no (d := d) (z := z) (by rw [HTM.out]; exact ht0)
            rw [HS] at HL HRR
            clear HS ht0
            go_upto_region 5 with fail
            refine Kr.seqStartW ?_
            iterate 2 (refine Kr.seqQ (v := ?_) (a' := ?_) (by rfl) ?_ ?_ ?_; rotate_left 2; (focus (go_simp; first | done | rfl)); (focus ((try simp only [Kr.PT]); first | done | rfl)))
            (refine Kr.seqQ (v := .int .i64 (t : Int)) (a' := ?_) (by rfl) ?_ ?_ ?_; rotate_left 1; (focus (exact Kr.valOf rfl (remI HD0.out HTM.out HD63.out))); (focus ((try simp only [Kr.PT]); first | done | rfl)))
            (refine Kr.seqQ (v := .bool false) (a' := ?_) (by rfl) ?_ ?_ ?_; rotate_left 1; (focus (exact Kr.valOf rfl (eqlI HE.out))); (focus ((try simp only [Kr.PT]); first | done | rfl)))
            refine Kr.seqDoneW ?_
            have HADD : Hid (IntKind.i64.wrap ((d : Int) + 1) = ((d + 1 : Nat) : Int)) := Lib.hid (wrap_nat (by omega) (by have h1 := HD20.out; omega))
            go_upto_region 4 with fail
            refine Kr.seqStartW ?_
            (refine Kr.seqQ (v := ?_) (a' := ?_) (by rfl) ?_ ?_ ?_; rotate_left 2; (focus (go_simp; first | done | rfl)); (focus ((try simp only [Kr.PT]); first | done | rfl)))
            (refine Kr.seqQ (v := .int .i64 ((d + 1 : Nat) : Int)) (a' := ?_) (by rfl) ?_ ?_ ?_; rotate_left 1; (focus (exact Kr.valOf rfl (addI HADD.out))); (focus ((try simp only [Kr.PT]); first | done | rfl)))
            (refine Kr.seqQ (v := ?_) (a' := ?_) (by rfl) ?_ ?_ ?_; rotate_left 2; (focus (go_simp; first | done | rfl)); (focus ((try simp only [Kr.PT]); first | done | rfl)))
            refine Kr.seqDoneW ?_
            go_wp2
            go_roundw
            case rel => exact ⟨z, d + 1, r, rfl, rfl, Nat.le_succ_of_le HD2.out, Nat.succ_le_succ HD20.out, HZ.out, HPW, HL, HRR, HR, Lib.hid H⟩
            case measure => simp [intOf]; have := HD20.out; omega
      · have HC2 : Hid (decide ((q : Int) ≤ (z : Int)) = false) := Lib.hid (decide_eq_false (by omega))
        have HNO : Hid (¬ (d ≤ 1048576 ∧ d * d ≤ z)) := Lib.hid (by rw [HQD.out]; exact fun h => hqz h.2)
        clear hqz
        go_upto_region 3 with fail
        refine Kr.seqStartW ?_
        (refine Kr.seqQ (v := ?_) (a' := ?_) (by rfl) ?_ ?_ ?_; rotate_left 2; (focus (go_simp; first | done | rfl)); (focus ((try simp only [Kr.PT]); first | done | rfl)))
        (refine Kr.seqQ (v := .bool true) (a' := ?_) (by rfl) ?_ ?_ ?_; rotate_left 1; (focus (exact Kr.valOf rfl (leqI HC1.out))); (focus ((try simp only [Kr.PT]); first | done | rfl)))
        iterate 3 (refine Kr.seqQ (v := ?_) (a' := ?_) (by rfl) ?_ ?_ ?_; rotate_left 2; (focus (go_simp; first | done | rfl)); (focus ((try simp only [Kr.PT]); first | done | rfl)))
        (refine Kr.seqQ (v := .int .i64 (q : Int)) (a' := ?_) (by rfl) ?_ ?_ ?_; rotate_left 1; (focus (exact Kr.valOf rfl (mulI HMUL.out))); (focus ((try simp only [Kr.PT]); first | done | rfl)))
        (refine Kr.seqQ (v := ?_) (a' := ?_) (by rfl) ?_ ?_ ?_; rotate_left 2; (focus (go_simp; first | done | rfl)); (focus ((try simp only [Kr.PT]); first | done | rfl)))
        (refine Kr.seqQ (v := .bool false) (a' := ?_) (by rfl) ?_ ?_ ?_; rotate_left 1; (focus (exact Kr.valOf rfl (leqI HC2.out))); (focus ((try simp only [Kr.PT]); first | done | rfl)))
        (refine Kr.seqQ (v := ?_) (a' := ?_) (by rfl) ?_ ?_ ?_; rotate_left 2; (focus (go_simp; first | done | rfl)); (focus ((try simp only [Kr.PT]); first | done | rfl)))
        refine Kr.seqDoneW ?_
        have HF := fac_no (d := d) (z := z) HNO.out
        rw [HF] at HL HRR
        rw [List.append_nil] at HL
        have e1 := HL.out; have e2 : z = R := HRR.out
        subst e2; subst e1
        clear HF HL HRR
        obtain ⟨m, hm⟩ : ∃ m, r.length = m := ⟨_, rfl⟩
        have HM := Lib.hid hm
        have hmb : m ≤ 2048 := by have h := len64 HPW.out HZ.out HN.out; omega
        clear hm
        by_cases hz1 : z = 1
        · have HE : Hid (decide ((z : Int) = 1) = true) := Lib.hid (decide_eq_true (by omega))
          have HF1 : Hid (facs N = some r) := Lib.hid (by rw [HFS.out, if_pos hz1])
          clear hz1 HFS
          go_upto_region 8 with fail
          refine Kr.seqStartW ?_
          (refine Kr.seqQ (v := ?_) (a' := ?_) (by rfl) ?_ ?_ ?_; rotate_left 2; (focus (go_simp; first | done | rfl)); (focus ((try simp only [Kr.PT]); first | done | rfl)))
          (refine Kr.seqQ (v := .bool true) (a' := ?_) (by rfl) ?_ ?_ ?_; rotate_left 1; (focus (exact Kr.valOf rfl (eqlI HE.out))); (focus ((try simp only [Kr.PT]); first | done | rfl)))
          refine Kr.seqDoneW ?_
          go_upto_region 9 with fail
          refine Kr.seqStartW ?_
          iterate 3 (refine Kr.seqQ (v := ?_) (a' := ?_) (by rfl) ?_ ?_ ?_; rotate_left 2; (focus (go_simp; first | done | rfl)); (focus ((try simp only [Kr.PT]); first | done | rfl)))
          refine Kr.seqDoneW ?_
          have hk : True := trivial
          go_wp2
          refine bodyPost_ret (v := .tuple #[u4, .bool true]) (by simp [results, Tryd.results16, go_sem, hk]) rfl ⟨H.g, .inl ⟨r, u4, HF1.out, rfl, HR.out⟩⟩
        · have HE : Hid (decide ((z : Int) = 1) = false) := Lib.hid (decide_eq_false (by omega))
          have HF1 : Hid (facs N = if isP z = true then some (r ++ [z]) else none) := Lib.hid (by rw [HFS.out, if_neg hz1])
          clear hz1 HFS
          go_upto_region 8 with fail
          refine Kr.seqStartW ?_
          (refine Kr.seqQ (v := ?_) (a' := ?_) (by rfl) ?_ ?_ ?_; rotate_left 2; (focus (go_simp; first | done | rfl)); (focus ((try simp only [Kr.PT]); first | done | rfl)))
          (refine Kr.seqQ (v := .bool false) (a' := ?_) (by rfl) ?_ ?_ ?_; rotate_left 1; (focus (exact Kr.valOf rfl (eqlI HE.out))); (focus ((try simp only [Kr.PT]); first | done | rfl)))
          refine Kr.seqDoneW ?_
          cases hp : isP z
          · have HP : Hid (isP z = false) := Lib.hid hp
            clear hp
            rw [HP.out] at HF1
            go_upto_region 10 with fail
            refine Kr.seqStartW ?_
            (refine Kr.seqQ (v := ?_) (a' := ?_) (by rfl) ?_ ?_ ?_; rotate_left 2; (focus (go_simp; first | done | rfl)); (focus ((try simp only [Kr.PT]); first | done | rfl)))
            refine Kr.seqR (by rfl) (fun K hK => ?_)
            go_simp
            go_at_call 13
            have hP := rIs_v (n := z) (w := wr) (by have := HZN.out; omega)
            rw [HP.out] at hP
            refine (hP).mono ?_
            rintro e y2 ⟨rfl, hg⟩
            replace HR := Lib.hid (HR.out.grow hg)
            replace H := H.grow hg
            clear hg
            clear hP
            (refine Kr.outS hK (a' := ?_) ?_ ?_; rotate_left; (focus ((try simp only [Kr.PT]); first | done | rfl))); clear hK K
            (refine Kr.seqQ (v := ?_) (a' := ?_) (by rfl) ?_ ?_ ?_; rotate_left 2; (focus (go_simp; first | done | rfl)); (focus ((try simp only [Kr.PT]); first | done | rfl)))
            refine Kr.seqDoneW ?_
            go_upto_region 11 with fail
            refine Kr.seqStartW ?_
            iterate 2 (refine Kr.seqQ (v := ?_) (a' := ?_) (by rfl) ?_ ?_ ?_; rotate_left 2; (focus (go_simp; first | done | rfl)); (focus ((try simp only [Kr.PT]); first | done | rfl)))
            refine Kr.seqDoneW ?_
            have hk : True := trivial
            go_wp2
            refine bodyPost_ret (v := .tuple #[.slice none 0 0, .bool false]) (by simp [results, Tryd.results16, go_sem, hk]) rfl ⟨H.g, .inr ⟨HF1.out, rfl⟩⟩
          · have HP : Hid (isP z = true) := Lib.hid hp
            clear hp
            rw [HP.out] at HF1
            go_upto_region 10 with fail
            refine Kr.seqStartW ?_
            (refine Kr.seqQ (v := ?_) (a' := ?_) (by rfl) ?_ ?_ ?_; rotate_left 2; (focus (go_simp; first | done | rfl)); (focus ((try simp only [Kr.PT]); first | done | rfl)))
            refine Kr.seqR (by rfl) (fun K hK => ?_)
            go_simp
            go_at_call 13
            have hP := rIs_v (n := z) (w := wr) (by have := HZN.out; omega)
            rw [HP.out] at hP
            refine (hP).mono ?_
            rintro e y3 ⟨rfl, hg⟩
            replace HR := Lib.hid (HR.out.grow hg)
            replace H := H.grow hg
            clear hg
            clear hP
            (refine Kr.outS hK (a' := ?_) ?_ ?_; rotate_left; (focus ((try simp only [Kr.PT]); first | done | rfl))); clear hK K
            (refine Kr.seqQ (v := ?_) (a' := ?_) (by rfl) ?_ ?_ ?_; rotate_left 2; (focus (go_simp; first | done | rfl)); (focus ((try simp only [Kr.PT]); first | done | rfl)))
            refine Kr.seqDoneW ?_
            go_upto_region 12 with fail
            refine Kr.seqStartW ?_
            iterate 2 (refine Kr.seqQ (v := ?_) (a' := ?_) (by rfl) ?_ ?_ ?_; rotate_left 2; (focus (go_simp; first | done | rfl)); (focus ((try simp only [Kr.PT]); first | done | rfl)))
            refine Kr.seqR (by rfl) (fun K hK => ?_)
            go_simp
            obtain ⟨y4, hy⟩ : ∃ y, y3.alloc (.cells #[.int .i64 (z : Int)] 3) = y := ⟨_, rfl⟩
            obtain ⟨bone, hbn⟩ : ∃ b, y3.heap.size = b := ⟨_, rfl⟩
            rw [hy, hbn]
            have hg : Gr y3 y4 := hy ▸ (Gr.refl _).alloc _
            have HONE := Lib.hid (hbn ▸ hy ▸ one_int y3 (z : Int))
            replace HR := Lib.hid (HR.out.grow hg)
            replace H := H.grow hg
            clear hg hy hbn
            (refine Kr.outS hK (a' := ?_) ?_ ?_; rotate_left; (focus ((try simp only [Kr.PT]); first | done | rfl))); clear hK K
            refine Kr.seqR (by rfl) (fun K hK => ?_)
            refine wp_append_lies _ (.tmp 34) (.tmp 36) 28 rfl w.heap.size 3 i0 (.int .i64 0) 1 8 Tryd.underlying28 hi hz0 hz1 hz2 rfl (by decide) u4 m (ci r) rfl (HM.out ▸ HR.out) ⟨bone, 0, none⟩ 1 1 [.int .i64 (z : Int)] rfl rfl HONE.out (by simp [Value.oneCell']) (by decide) (by unfold maxLen; omega) (by omega) H.g.le _ rfl ?_
            intro gb cap w3 hown hgrow hat _
            have h5 := int_append H HR.out (v1 := .slice (some ⟨gb, 0, none⟩) (m + 1) cap) (by rw [HM.out]; exact hown) hgrow
            obtain ⟨v1, hv1⟩ : ∃ v1 : Value, .slice (some ⟨gb, 0, none⟩) (m + 1) cap = v1 := ⟨_, rfl⟩
            rw [hv1] at h5
            rw [hv1]
            clear hown hgrow hat hv1 HONE
            clear H HR
            obtain ⟨H, hR⟩ := h5
            have HR := Lib.hid hR
            clear hR
            (refine Kr.outS hK (a' := ?_) ?_ ?_; rotate_left; (focus ((try simp only [Kr.PT]); first | done | rfl))); clear hK K
            iterate 2 (refine Kr.seqQ (v := ?_) (a' := ?_) (by rfl) ?_ ?_ ?_; rotate_left 2; (focus (go_simp; first | done | rfl)); (focus ((try simp only [Kr.PT]); first | done | rfl)))
            refine Kr.seqDoneW ?_
            have hk : True := trivial
            go_wp2
            refine bodyPost_ret (v := .tuple #[v1, .bool true]) (by simp [results, Tryd.results16, go_sem, hk]) rfl ⟨H.g, .inl ⟨r ++ [z], v1, HF1.out, rfl, HR.out⟩⟩
    · have HC1 : Hid (decide ((d : Int) ≤ 1048576) = false) := Lib.hid (decide_eq_false (by omega))
      have HNO : Hid (¬ (d ≤ 1048576 ∧ d * d ≤ z)) := Lib.hid (fun h => hd h.1)
      clear hd
      go_upto_region 3 with fail
      refine Kr.seqStartW ?_
      (refine Kr.seqQ (v := ?_) (a' := ?_) (by rfl) ?_ ?_ ?_; rotate_left 2; (focus (go_simp; first | done | rfl)); (focus ((try simp only [Kr.PT]); first | done | rfl)))
      (refine Kr.seqQ (v := .bool false) (a' := ?_) (by rfl) ?_ ?_ ?_; rotate_left 1; (focus (exact Kr.valOf rfl (leqI HC1.out))); (focus ((try simp only [Kr.PT]); first | done | rfl)))
      (refine Kr.seqQ (v := ?_) (a' := ?_) (by rfl) ?_ ?_ ?_; rotate_left 2; (focus (go_simp; first | done | rfl)); (focus ((try simp only [Kr.PT]); first | done | rfl)))
      (refine Kr.seqSkipQ (a' := ?_) (by rfl) ?_ ?_; rotate_left; (focus ((try simp only [Kr.PT]); first | done | rfl)))
      (refine Kr.seqSkipQ (a' := ?_) (by rfl) ?_ ?_; rotate_left; (focus ((try simp only [Kr.PT]); first | done | rfl)))
      (refine Kr.seqSkipQ (a' := ?_) (by rfl) ?_ ?_; rotate_left; (focus ((try simp only [Kr.PT]); first | done | rfl)))
      (refine Kr.seqSkipQ (a' := ?_) (by rfl) ?_ ?_; rotate_left; (focus ((try simp only [Kr.PT]); first | done | rfl)))
      (refine Kr.seqSkipQ (a' := ?_) (by rfl) ?_ ?_; rotate_left; (focus ((try simp only [Kr.PT]); first | done | rfl)))
      (refine Kr.seqQ (v := ?_) (a' := ?_) (by rfl) ?_ ?_ ?_; rotate_left 2; (focus (go_simp; first | done | rfl)); (focus ((try simp only [Kr.PT]); first | done | rfl)))
      refine Kr.seqDoneW ?_
      have HF := fac_no (d := d) (z := z) HNO.out
      rw [HF] at HL HRR
      rw [List.append_nil] at HL
      have e1 := HL.out; have e2 : z = R := HRR.out
      subst e2; subst e1
      clear HF HL HRR
      obtain ⟨m, hm⟩ : ∃ m, r.length = m := ⟨_, rfl⟩
      have HM := Lib.hid hm
      have hmb : m ≤ 2048 := by have h := len64 HPW.out HZ.out HN.out; omega
      clear hm
      by_cases hz1 : z = 1
      · have HE : Hid (decide ((z : Int) = 1) = true) := Lib.hid (decide_eq_true (by omega))
        have HF1 : Hid (facs N = some r) := Lib.hid (by rw [HFS.out, if_pos hz1])
        clear hz1 HFS
        go_upto_region 8 with fail
        refine Kr.seqStartW ?_
        (refine Kr.seqQ (v := ?_) (a' := ?_) (by rfl) ?_ ?_ ?_; rotate_left 2; (focus (go_simp; first | done | rfl)); (focus ((try simp only [Kr.PT]); first | done | rfl)))
        (refine Kr.seqQ (v := .bool true) (a' := ?_) (by rfl) ?_ ?_ ?_; rotate_left 1; (focus (exact Kr.valOf rfl (eqlI HE.out))); (focus ((try simp only [Kr.PT]); first | done | rfl)))
        refine Kr.seqDoneW ?_
        go_upto_region 9 with fail
        refine Kr.seqStartW ?_
        iterate 3 (refine Kr.seqQ (v := ?_) (a' := ?_) (by rfl) ?_ ?_ ?_; rotate_left 2; (focus (go_simp; first | done | rfl)); (focus ((try simp only [Kr.PT]); first | done | rfl)))
        refine Kr.seqDoneW ?_
        have hk : True := trivial
        go_wp2
        refine bodyPost_ret (v := .tuple #[u4, .bool true]) (by simp [results, Tryd.results16, go_sem, hk]) rfl ⟨H.g, .inl ⟨r, u4, HF1.out, rfl, HR.out⟩⟩
      · have HE : Hid (decide ((z : Int) = 1) = false) := Lib.hid (decide_eq_false (by omega))
        have HF1 : Hid (facs N = if isP z = true then some (r ++ [z]) else none) := Lib.hid (by rw [HFS.out, if_neg hz1])
        clear hz1 HFS
        go_upto_region 8 with fail
        refine Kr.seqStartW ?_
        (refine Kr.seqQ (v := ?_) (a' := ?_) (by rfl) ?_ ?_ ?_; rotate_left 2; (focus (go_simp; first | done | rfl)); (focus ((try simp only [Kr.PT]); first | done | rfl)))
        (refine Kr.seqQ (v := .bool false) (a' := ?_) (by rfl) ?_ ?_ ?_; rotate_left 1; (focus (exact Kr.valOf rfl (eqlI HE.out))); (focus ((try simp only [Kr.PT]); first | done | rfl)))
        refine Kr.seqDoneW ?_
        cases hp : isP z
        · have HP : Hid (isP z = false) := Lib.hid hp
          clear hp
          rw [HP.out] at HF1
          go_upto_region 10 with fail
          refine Kr.seqStartW ?_
          (refine Kr.seqQ (v := ?_) (a' := ?_) (by rfl) ?_ ?_ ?_; rotate_left 2; (focus (go_simp; first | done | rfl)); (focus ((try simp only [Kr.PT]); first | done | rfl)))
          refine Kr.seqR (by rfl) (fun K hK => ?_)
          go_simp
          go_at_call 13
          have hP := rIs_v (n := z) (w := wr) (by have := HZN.out; omega)
          rw [HP.out] at hP
          refine (hP).mono ?_
          rintro e y5 ⟨rfl, hg⟩
          replace HR := Lib.hid (HR.out.grow hg)
          replace H := H.grow hg
          clear hg
          clear hP
          (refine Kr.outS hK (a' := ?_) ?_ ?_; rotate_left; (focus ((try simp only [Kr.PT]); first | done | rfl))); clear hK K
          (refine Kr.seqQ (v := ?_) (a' := ?_) (by rfl) ?_ ?_ ?_; rotate_left 2; (focus (go_simp; first | done | rfl)); (focus ((try simp only [Kr.PT]); first | done | rfl)))
          refine Kr.seqDoneW ?_
          go_upto_region 11 with fail
          refine Kr.seqStartW ?_
          iterate 2 (refine Kr.seqQ (v := ?_) (a' := ?_) (by rfl) ?_ ?_ ?_; rotate_left 2; (focus (go_simp; first | done | rfl)); (focus ((try simp only [Kr.PT]); first | done | rfl)))
          refine Kr.seqDoneW ?_
          have hk : True := trivial
          go_wp2
          refine bodyPost_ret (v := .tuple #[.slice none 0 0, .bool false]) (by simp [results, Tryd.results16, go_sem, hk]) rfl ⟨H.g, .inr ⟨HF1.out, rfl⟩⟩
        · have HP : Hid (isP z = true) := Lib.hid hp
          clear hp
          rw [HP.out] at HF1
          go_upto_region 10 with fail
          refine Kr.seqStartW ?_
          (refine Kr.seqQ (v := ?_) (a' := ?_) (by rfl) ?_ ?_ ?_; rotate_left 2; (focus (go_simp; first | done | rfl)); (focus ((try simp only [Kr.PT]); first | done | rfl)))
          refine Kr.seqR (by rfl) (fun K hK => ?_)
          go_simp
          go_at_call 13
          have hP := rIs_v (n := z) (w := wr) (by have := HZN.out; omega)
          rw [HP.out] at hP
          refine (hP).mono ?_
          rintro e y6 ⟨rfl, hg⟩
          replace HR := Lib.hid (HR.out.grow hg)
          replace H := H.grow hg
          clear hg
          clear hP
          (refine Kr.outS hK (a' := ?_) ?_ ?_; rotate_left; (focus ((try simp only [Kr.PT]); first | done | rfl))); clear hK K
          (refine Kr.seqQ (v := ?_) (a' := ?_) (by rfl) ?_ ?_ ?_; rotate_left 2; (focus (go_simp; first | done | rfl)); (focus ((try simp only [Kr.PT]); first | done | rfl)))
          refine Kr.seqDoneW ?_
          go_upto_region 12 with fail
          refine Kr.seqStartW ?_
          iterate 2 (refine Kr.seqQ (v := ?_) (a' := ?_) (by rfl) ?_ ?_ ?_; rotate_left 2; (focus (go_simp; first | done | rfl)); (focus ((try simp only [Kr.PT]); first | done | rfl)))
          refine Kr.seqR (by rfl) (fun K hK => ?_)
          go_simp
          obtain ⟨y7, hy⟩ : ∃ y, y6.alloc (.cells #[.int .i64 (z : Int)] 3) = y := ⟨_, rfl⟩
          obtain ⟨bone, hbn⟩ : ∃ b, y6.heap.size = b := ⟨_, rfl⟩
          rw [hy, hbn]
          have hg : Gr y6 y7 := hy ▸ (Gr.refl _).alloc _
          have HONE := Lib.hid (hbn ▸ hy ▸ one_int y6 (z : Int))
          replace HR := Lib.hid (HR.out.grow hg)
          replace H := H.grow hg
          clear hg hy hbn
          (refine Kr.outS hK (a' := ?_) ?_ ?_; rotate_left; (focus ((try simp only [Kr.PT]); first | done | rfl))); clear hK K
          refine Kr.seqR (by rfl) (fun K hK => ?_)
          refine wp_append_lies _ (.tmp 34) (.tmp 36) 28 rfl w.heap.size 3 i0 (.int .i64 0) 1 8 Tryd.underlying28 hi hz0 hz1 hz2 rfl (by decide) u4 m (ci r) rfl (HM.out ▸ HR.out) ⟨bone, 0, none⟩ 1 1 [.int .i64 (z : Int)] rfl rfl HONE.out (by simp [Value.oneCell']) (by decide) (by unfold maxLen; omega) (by omega) H.g.le _ rfl ?_
          intro gb cap w3 hown hgrow hat _
          have h5 := int_append H HR.out (v1 := .slice (some ⟨gb, 0, none⟩) (m + 1) cap) (by rw [HM.out]; exact hown) hgrow
          obtain ⟨v1, hv1⟩ : ∃ v1 : Value, .slice (some ⟨gb, 0, none⟩) (m + 1) cap = v1 := ⟨_, rfl⟩
          rw [hv1] at h5
          rw [hv1]
          clear hown hgrow hat hv1 HONE
          clear H HR
          obtain ⟨H, hR⟩ := h5
          have HR := Lib.hid hR
          clear hR
          (refine Kr.outS hK (a' := ?_) ?_ ?_; rotate_left; (focus ((try simp only [Kr.PT]); first | done | rfl))); clear hK K
          iterate 2 (refine Kr.seqQ (v := ?_) (a' := ?_) (by rfl) ?_ ?_ ?_; rotate_left 2; (focus (go_simp; first | done | rfl)); (focus ((try simp only [Kr.PT]); first | done | rfl)))
          refine Kr.seqDoneW ?_
          have hk : True := trivial
          go_wp2
          refine bodyPost_ret (v := .tuple #[v1, .bool true]) (by simp [results, Tryd.results16, go_sem, hk]) rfl ⟨H.g, .inl ⟨r ++ [z], v1, HF1.out, rfl, HR.out⟩⟩
set_option linter.unusedSimpArgs false in
set_option maxRecDepth 100000 in
set_option maxHeartbeats 16000000 in
theorem Factors_v {N : Nat} {w : World} (hT : Wb.Tab w ∧ Bas w) (h1 : 0 < N) (hn : N < 2305843009213693952) :
    Calls Tryd.prog 15 #[.int .i64 (N : Int)] w (FacOut (.int .i64 0) (.int .i64 9) N w) := by
  have HT := Lib.hid hT; clear hT
  have HN := Lib.hid hn; have HN1 := Lib.hid h1; clear hn h1
  obtain ⟨L, hL⟩ : ∃ L, (fac 2 N).1 = L := ⟨_, rfl⟩
  obtain ⟨R, hR⟩ : ∃ R, (fac 2 N).2 = R := ⟨_, rfl⟩
  have HFS : Hid (facs N = if R = 1 then some L else if isP R = true then some (L ++ [R]) else none) := Lib.hid (by unfold facs; rw [hL, hR])
  have HL0 : Hid ([] ++ (fac 2 N).1 = L) := Lib.hid hL; have HR0 : Hid ((fac 2 N).2 = R) := Lib.hid hR; clear hL hR
  obtain ⟨i0, hi, hz0, hz1, hz2⟩ := info_parts infoI
  have HLT : Hid (decide ((N : Int) < 1) = false) := Lib.hid (decide_eq_false (by have := HN1.out; omega)); have HGE : Hid (decide ((2305843009213693952 : Int) ≤ (N : Int)) = false) := Lib.hid (decide_eq_false (by have := HN.out; omega))
  have H := Sta.start w
  go_enter Tryd.func15, Tryd.ntmps15
  go_upto_region 0 with fail
  refine Kr.seqStartW ?_
  iterate 2 (refine Kr.seqQ (v := ?_) (a' := ?_) (by rfl) ?_ ?_ ?_; rotate_left 2; (focus (go_simp; first | done | rfl)); (focus ((try simp only [Kr.PT]); first | done | rfl)))
  refine Kr.seqDoneW ?_
  go_upto_region 1 with fail
  refine Kr.seqStartW ?_
  (refine Kr.seqQ (v := ?_) (a' := ?_) (by rfl) ?_ ?_ ?_; rotate_left 2; (focus (go_simp; first | done | rfl)); (focus ((try simp only [Kr.PT]); first | done | rfl)))
  (refine Kr.seqQ (v := .bool false) (a' := ?_) (by rfl) ?_ ?_ ?_; rotate_left 1; (focus (exact Kr.valOf rfl (lssT HLT.out))); (focus ((try simp only [Kr.PT]); first | done | rfl)))
  iterate 2 (refine Kr.seqQ (v := ?_) (a' := ?_) (by rfl) ?_ ?_ ?_; rotate_left 2; (focus (go_simp; first | done | rfl)); (focus ((try simp only [Kr.PT]); first | done | rfl)))
  (refine Kr.seqQ (v := .bool false) (a' := ?_) (by rfl) ?_ ?_ ?_; rotate_left 1; (focus (exact Kr.valOf rfl (geqI HGE.out))); (focus ((try simp only [Kr.PT]); first | done | rfl)))
  (refine Kr.seqQ (v := ?_) (a' := ?_) (by rfl) ?_ ?_ ?_; rotate_left 2; (focus (go_simp; first | done | rfl)); (focus ((try simp only [Kr.PT]); first | done | rfl)))
  refine Kr.seqDoneW ?_
  go_upto_region 3 with fail
  refine Kr.seqStartW ?_
  (refine Kr.seqQ (v := ?_) (a' := ?_) (by rfl) ?_ ?_ ?_; rotate_left 2; (focus (go_simp; first | done | rfl)); (focus ((try simp only [Kr.PT]); first | done | rfl)))
  refine Kr.seqDoneW ?_
  go_upto_region 4 with fail
  refine Kr.seqStartW ?_
  (refine Kr.seqQ (v := ?_) (a' := ?_) (by rfl) ?_ ?_ ?_; rotate_left 2; (focus (go_simp; first | done | rfl)); (focus ((try simp only [Kr.PT]); first | done | rfl)))
  refine Kr.seqDoneW ?_
  have h0 : Hid (RowI w.heap.size (.slice none 0 0) [] w) := Lib.hid (RowI.start _ _)
  have H2 := Lib.hid H
  clear H
  go_wp2_with fail
  go_loopw [0, 4, 5] (fun zv v dv wr => ∃ (z d : Nat) (r : List Nat), zv = .int .i64 (z : Int) ∧ dv = .int .i64 (d : Int) ∧ 2 ≤ d ∧ d ≤ 1048577 ∧ 0 < z ∧ Hid (2 ^ r.length * z ≤ N) ∧ Hid (r ++ (fac d z).1 = L) ∧ Hid ((fac d z).2 = R) ∧ Hid (RowI w.heap.size v r wr) ∧ Hid (Sta w wr [] [])) (fun _ _ dv _ => 1048577 - (intOf dv).toNat)
  case atStart => exact ⟨N, 2, [], rfl, rfl, by decide, by decide, HN1.out, Lib.hid (by rw [List.length_nil, Nat.pow_zero, Nat.one_mul]; exact Nat.le_refl _), HL0, HR0, h0, H2⟩
  case round =>
    clear H2 h0 HL0 HR0
    obtain ⟨z, d, r, rfl, rfl, hd2, hdl, hz, HPW, HL, HRR, HR, HH⟩ := hrel
    have H := HH.out; have HD2 := Lib.hid hd2; have HDL := Lib.hid hdl; have HZ := Lib.hid hz; clear HH hd2 hdl hz
    have HZN : Hid (z < 2305843009213693952) := Lib.hid (Nat.lt_of_le_of_lt (le_of_pow HPW.out) HN.out)
    by_cases hd : d ≤ 1048576
    · have HC1 : Hid (decide ((d : Int) ≤ 1048576) = true) := Lib.hid (decide_eq_true (by omega))
      have HD20 := Lib.hid hd; clear hd
      obtain ⟨q, hq⟩ : ∃ q, d * d = q := ⟨_, rfl⟩
      have HQD := Lib.hid hq; have HMUL : Hid (IntKind.i64.wrap ((d : Int) * (d : Int)) = (q : Int)) := Lib.hid (wrap_nat (by rw [← hq]; simp) (hq ▸ sq_small HDL.out)); clear hq
      by_cases hqz : q ≤ z
      · have HC2 : Hid (decide ((q : Int) ≤ (z : Int)) = true) := Lib.hid (decide_eq_true (by omega))
        have HFY := fac_yes HD20.out (show d * d ≤ z by rw [HQD.out]; exact hqz)
        rw [HFY] at HL HRR
        clear HFY hqz
        go_upto_region 5 with fail
        refine Kr.seqStartW ?_
        (refine Kr.seqQ (v := ?_) (a' := ?_) (by rfl) ?_ ?_ ?_; rotate_left 2; (focus (go_simp; first | done | rfl)); (focus ((try simp only [Kr.PT]); first | done | rfl)))
        (refine Kr.seqQ (v := .bool true) (a' := ?_) (by rfl) ?_ ?_ ?_; rotate_left 1; (focus (exact Kr.valOf rfl (leqI HC1.out))); (focus ((try simp only [Kr.PT]); first | done | rfl)))
        iterate 3 (refine Kr.seqQ (v := ?_) (a' := ?_) (by rfl) ?_ ?_ ?_; rotate_left 2; (focus (go_simp; first | done | rfl)); (focus ((try simp only [Kr.PT]); first | done | rfl)))
        (refine Kr.seqQ (v := .int .i64 (q : Int)) (a' := ?_) (by rfl) ?_ ?_ ?_; rotate_left 1; (focus (exact Kr.valOf rfl (mulI HMUL.out))); (focus ((try simp only [Kr.PT]); first | done | rfl)))
        (refine Kr.seqQ (v := ?_) (a' := ?_) (by rfl) ?_ ?_ ?_; rotate_left 2; (focus (go_simp; first | done | rfl)); (focus ((try simp only [Kr.PT]); first | done | rfl)))
        (refine Kr.seqQ (v := .bool true) (a' := ?_) (by rfl) ?_ ?_ ?_; rotate_left 1; (focus (exact Kr.valOf rfl (leqI HC2.out))); (focus ((try simp only [Kr.PT]); first | done | rfl)))
        (refine Kr.seqQ (v := ?_) (a' := ?_) (by rfl) ?_ ?_ ?_; rotate_left 2; (focus (go_simp; first | done | rfl)); (focus ((try simp only [Kr.PT]); first | done | rfl)))
        refine Kr.seqDoneW ?_
        have H2 := Lib.hid H
        clear H
        go_wp2_with fail
        go_loopw [0, 4] (fun zv v wi => ∃ (z : Nat) (r : List Nat), zv = .int .i64 (z : Int) ∧ 0 < z ∧ Hid (2 ^ r.length * z ≤ N) ∧ Hid (r ++ ((strip d z).1 ++ (fac (d + 1) (strip d z).2).1) = L) ∧ Hid ((fac (d + 1) (strip d z).2).2 = R) ∧ Hid (RowI w.heap.size v r wi) ∧ Hid (Sta w wi [] [])) (fun zv _ _ => (intOf zv).toNat)
        case atStart => exact ⟨z, r, rfl, HZ.out, HPW, HL, HRR, HR, H2⟩
        case round =>
          clear H2 HPW HL HRR HR HZ HZN HC2 HQD HMUL
          obtain ⟨z, r, rfl, hz, HPW, HL, HRR, HR, HH⟩ := hrel
          have H := HH.out; have HZ := Lib.hid hz; clear HH hz
          have HZN : Hid (z < 2305843009213693952) := Lib.hid (Nat.lt_of_le_of_lt (le_of_pow HPW.out) HN.out)
          have HZ63 : Hid (z < 9223372036854775808) := Lib.hid (Nat.lt_trans HZN.out (by decide)); have HD0 : Hid (0 < d) := Lib.hid (by have := HD2.out; omega); have HD63 : Hid (d < 9223372036854775808) := Lib.hid (by have := HDL.out; omega)
          obtain ⟨t, ht⟩ : ∃ t, z % d = t := ⟨_, rfl⟩
          have HTM := Lib.hid ht; clear ht
          by_cases ht0 : t = 0
          · subst ht0
            have HE : Hid (decide (((0 : Nat) : Int) = 0) = true) := Lib.hid (by decide)
            have HS := strip_yes HD2.out HZ.out HTM.out
            rw [HS] at HL HRR
            clear HS
            obtain ⟨k, hk⟩ : ∃ k, z / d = k := ⟨_, rfl⟩
            rw [hk] at HL HRR
            have HKD := Lib.hid hk; have HPW2 : Hid (2 ^ (r.length + 1) * k ≤ N) := Lib.hid (hk ▸ pow_step HPW.out HD2.out HTM.out)
            have HK0 : Hid (0 < k ∧ k < z) := Lib.hid ⟨hk ▸ Nat.div_pos (Nat.le_of_dvd HZ.out (Nat.dvd_of_mod_eq_zero HTM.out)) HD0.out, hk ▸ Nat.div_lt_self HZ.out HD2.out⟩
            clear hk
            go_upto_region 7 with fail
            refine Kr.seqStartW ?_
            iterate 2 (refine Kr.seqQ (v := ?_) (a' := ?_) (by rfl) ?_ ?_ ?_; rotate_left 2; (focus (go_simp; first | done | rfl)); (focus ((try simp only [Kr.PT]); first | done | rfl)))
            (refine Kr.seqQ (v := .int .i64 ((0 : Nat) : Int)) (a' := ?_) (by rfl) ?_ ?_ ?_; rotate_left 1; (focus (exact Kr.valOf rfl (remI HD0.out HTM.out HD63.out))); (focus ((try simp only [Kr.PT]); first | done | rfl)))
            (refine Kr.seqQ (v := .bool true) (a' := ?_) (by rfl) ?_ ?_ ?_; rotate_left 1; (focus (exact Kr.valOf rfl (eqlI HE.out))); (focus ((try simp only [Kr.PT]); first | done | rfl)))
            refine Kr.seqDoneW ?_
            obtain ⟨m, hm⟩ : ∃ m, r.length = m := ⟨_, rfl⟩
            have HM := Lib.hid hm
            have hmb : m ≤ 2048 := by have h := len64 HPW.out HZ.out HN.out; omega
            clear hm
            go_upto_region 8 with fail
            refine Kr.seqStartW ?_
            iterate 2 (refine Kr.seqQ (v := ?_) (a' := ?_) (by rfl) ?_ ?_ ?_; rotate_left 2; (focus (go_simp; first | done | rfl)); (focus ((try simp only [Kr.PT]); first | done | rfl)))
            refine Kr.seqR (by rfl) (fun K hK => ?_)
            go_simp
            obtain ⟨y1, hy⟩ : ∃ y, wr.alloc (.cells #[.int .i64 (d : Int)] 3) = y := ⟨_, rfl⟩
            obtain ⟨bone, hbn⟩ : ∃ b, wr.heap.size = b := ⟨_, rfl⟩
            rw [hy, hbn]
            have hg : Gr wr y1 := hy ▸ (Gr.refl _).alloc _
            have HONE := Lib.hid (hbn ▸ hy ▸ one_int wr (d : Int))
            replace HR := Lib.hid (HR.out.grow hg)
            replace H := H.grow hg
            clear hg hy hbn
            (refine Kr.outS hK (a' := ?_) ?_ ?_; rotate_left; (focus ((try simp only [Kr.PT]); first | done | rfl))); clear hK K
            refine Kr.seqR (by rfl) (fun K hK => ?_)
            refine wp_append_lies _ (.tmp 27) (.tmp 29) 28 rfl w.heap.size 3 i0 (.int .i64 0) 1 8 Tryd.underlying28 hi hz0 hz1 hz2 rfl (by decide) u4 m (ci r) rfl (HM.out ▸ HR.out) ⟨bone, 0, none⟩ 1 1 [.int .i64 (d : Int)] rfl rfl HONE.out (by simp [Value.oneCell']) (by decide) (by unfold maxLen; omega) (by omega) H.g.le _ rfl ?_
            intro gb cap w3 hown hgrow hat _
            have h5 := int_append H HR.out (v1 := .slice (some ⟨gb, 0, none⟩) (m + 1) cap) (by rw [HM.out]; exact hown) hgrow
            obtain ⟨v1, hv1⟩ : ∃ v1 : Value, .slice (some ⟨gb, 0, none⟩) (m + 1) cap = v1 := ⟨_, rfl⟩
            rw [hv1] at h5
            rw [hv1]
            clear hown hgrow hat hv1 HONE
            clear H HR
            obtain ⟨H, hR⟩ := h5
            have HR := Lib.hid hR
            clear hR
            (refine Kr.outS hK (a' := ?_) ?_ ?_; rotate_left; (focus ((try simp only [Kr.PT]); first | done | rfl))); clear hK K
            (refine Kr.seqQ (v := ?_) (a' := ?_) (by rfl) ?_ ?_ ?_; rotate_left 2; (focus (go_simp; first | done | rfl)); (focus ((try simp only [Kr.PT]); first | done | rfl)))
            refine Kr.seqDoneW ?_
            go_upto_region 9 with fail
            refine Kr.seqStartW ?_
            iterate 2 (refine Kr.seqQ (v := ?_) (a' := ?_) (by rfl) ?_ ?_ ?_; rotate_left 2; (focus (go_simp; first | done | rfl)); (focus ((try simp only [Kr.PT]); first | done | rfl)))
            (refine Kr.seqQ (v := .int .i64 (k : Int)) (a' := ?_) (by rfl) ?_ ?_ ?_; rotate_left 1; (focus (exact Kr.valOf rfl (quoI HD0.out HKD.out HZ63.out))); (focus ((try simp only [Kr.PT]); first | done | rfl)))
            (refine Kr.seqQ (v := ?_) (a' := ?_) (by rfl) ?_ ?_ ?_; rotate_left 2; (focus (go_simp; first | done | rfl)); (focus ((try simp only [Kr.PT]); first | done | rfl)))
            refine Kr.seqDoneW ?_
            go_wp2
            go_roundw
            case rel => exact ⟨k, r ++ [d], rfl, HK0.out.1, Lib.hid (by rw [List.length_append]; exact HPW2.out), Lib.hid (by rw [← HL.out, List.append_assoc]; rfl), HRR, HR, Lib.hid H⟩
            case measure => simp [intOf]; have := HK0.out; omega
          · have HE : Hid (decide ((t : Int) = 0) = false) := Lib.hid (decide_eq_false (by omega))
            have HS := strip_no (d := d) (z := z) (by rw [HTM.out]; exact ht0)
            rw [HS] at HL HRR
            clear HS ht0
            go_upto_region 7 with fail
            refine Kr.seqStartW ?_
            iterate 2 (refine Kr.seqQ (v := ?_) (a' := ?_) (by rfl) ?_ ?_ ?_; rotate_left 2; (focus (go_simp; first | done | rfl)); (focus ((try simp only [Kr.PT]); first | done | rfl)))
            (refine Kr.seqQ (v := .int .i64 (t : Int)) (a' := ?_) (by rfl) ?_ ?_ ?_; rotate_left 1; (focus (exact Kr.valOf rfl (remI HD0.out HTM.out HD63.out))); (focus ((try simp only [Kr.PT]); first | done | rfl)))
            (refine Kr.seqQ (v := .bool false) (a' := ?_) (by rfl) ?_ ?_ ?_; rotate_left 1; (focus (exact Kr.valOf rfl (eqlI HE.out))); (focus ((try simp only [Kr.PT]); first | done | rfl)))
            refine Kr.seqDoneW ?_
            have HADD : Hid (IntKind.i64.wrap ((d : Int) + 1) = ((d + 1 : Nat) : Int)) := Lib.hid (wrap_nat (by omega) (by have h1 := HD20.out; omega))
            go_upto_region 6 with fail
            refine Kr.seqStartW ?_
            (refine Kr.seqQ (v := ?_) (a' := ?_) (by rfl) ?_ ?_ ?_; rotate_left 2; (focus (go_simp; first | done | rfl)); (focus ((try simp only [Kr.PT]); first | done | rfl)))
            (refine Kr.seqQ (v := .int .i64 ((d + 1 : Nat) : Int)) (a' := ?_) (by rfl) ?_ ?_ ?_; rotate_left 1; (focus (exact Kr.valOf rfl (addI HADD.out))); (focus ((try simp only [Kr.PT]); first | done | rfl)))
            (refine Kr.seqQ (v := ?_) (a' := ?_) (by rfl) ?_ ?_ ?_; rotate_left 2; (focus (go_simp; first | done | rfl)); (focus ((try simp only [Kr.PT]); first | done | rfl)))
            refine Kr.seqDoneW ?_
            go_wp2
            go_roundw
            case rel => exact ⟨z, d + 1, r, rfl, rfl, Nat.le_succ_of_le HD2.out, Nat.succ_le_succ HD20.out, HZ.out, HPW, HL, HRR, HR, Lib.hid H⟩
            case measure => simp [intOf]; have := HD20.out; omega
      · have HC2 : Hid (decide ((q : Int) ≤ (z : Int)) = false) := Lib.hid (decide_eq_false (by omega))
        have HNO : Hid (¬ (d ≤ 1048576 ∧ d * d ≤ z)) := Lib.hid (by rw [HQD.out]; exact fun h => hqz h.2)
        clear hqz
        go_upto_region 5 with fail
        refine Kr.seqStartW ?_
        (refine Kr.seqQ (v := ?_) (a' := ?_) (by rfl) ?_ ?_ ?_; rotate_left 2; (focus (go_simp; first | done | rfl)); (focus ((try simp only [Kr.PT]); first | done | rfl)))
        (refine Kr.seqQ (v := .bool true) (a' := ?_) (by rfl) ?_ ?_ ?_; rotate_left 1; (focus (exact Kr.valOf rfl (leqI HC1.out))); (focus ((try simp only [Kr.PT]); first | done | rfl)))
        iterate 3 (refine Kr.seqQ (v := ?_) (a' := ?_) (by rfl) ?_ ?_ ?_; rotate_left 2; (focus (go_simp; first | done | rfl)); (focus ((try simp only [Kr.PT]); first | done | rfl)))
        (refine Kr.seqQ (v := .int .i64 (q : Int)) (a' := ?_) (by rfl) ?_ ?_ ?_; rotate_left 1; (focus (exact Kr.valOf rfl (mulI HMUL.out))); (focus ((try simp only [Kr.PT]); first | done | rfl)))
        (refine Kr.seqQ (v := ?_) (a' := ?_) (by rfl) ?_ ?_ ?_; rotate_left 2; (focus (go_simp; first | done | rfl)); (focus ((try simp only [Kr.PT]); first | done | rfl)))
        (refine Kr.seqQ (v := .bool false) (a' := ?_) (by rfl) ?_ ?_ ?_; rotate_left 1; (focus (exact Kr.valOf rfl (leqI HC2.out))); (focus ((try simp only [Kr.PT]); first | done | rfl)))
        (refine Kr.seqQ (v := ?_) (a' := ?_) (by rfl) ?_ ?_ ?_; rotate_left 2; (focus (go_simp; first | done | rfl)); (focus ((try simp only [Kr.PT]); first | done | rfl)))
        refine Kr.seqDoneW ?_
        have HF := fac_no (d := d) (z := z) HNO.out
        rw [HF] at HL HRR
        rw [List.append_nil] at HL
        have e1 := HL.out; have e2 : z = R := HRR.out
        subst e2; subst e1
        clear HF HL HRR
        obtain ⟨m, hm⟩ : ∃ m, r.length = m := ⟨_, rfl⟩
        have HM := Lib.hid hm
        have hmb : m ≤ 2048 := by have h := len64 HPW.out HZ.out HN.out; omega
        clear hm
        by_cases hz1 : z = 1
        · have HE : Hid (decide ((z : Int) = 1) = true) := Lib.hid (decide_eq_true (by omega))
          have HF1 : Hid (facs N = some r) := Lib.hid (by rw [HFS.out, if_pos hz1])
          clear hz1 HFS
          go_upto_region 10 with fail
          refine Kr.seqStartW ?_
          (refine Kr.seqQ (v := ?_) (a' := ?_) (by rfl) ?_ ?_ ?_; rotate_left 2; (focus (go_simp; first | done | rfl)); (focus ((try simp only [Kr.PT]); first | done | rfl)))
          (refine Kr.seqQ (v := .bool true) (a' := ?_) (by rfl) ?_ ?_ ?_; rotate_left 1; (focus (exact Kr.valOf rfl (eqlI HE.out))); (focus ((try simp only [Kr.PT]); first | done | rfl)))
          (refine Kr.seqQ (v := ?_) (a' := ?_) (by rfl) ?_ ?_ ?_; rotate_left 2; (focus (go_simp; first | done | rfl)); (focus ((try simp only [Kr.PT]); first | done | rfl)))
          refine Kr.seqDoneW ?_
          go_upto_region 11 with fail
          refine Kr.seqStartW ?_
          iterate 3 (refine Kr.seqQ (v := ?_) (a' := ?_) (by rfl) ?_ ?_ ?_; rotate_left 2; (focus (go_simp; first | done | rfl)); (focus ((try simp only [Kr.PT]); first | done | rfl)))
          refine Kr.seqDoneW ?_
          have hk : True := trivial
          go_wp2
          refine bodyPost_ret (v := .tuple #[u4, .int .i64 0]) (by simp [results, Tryd.results15, go_sem, hk]) rfl ⟨H.g, .inl ⟨r, u4, HF1.out, rfl, HR.out⟩⟩
        · have HE : Hid (decide ((z : Int) = 1) = false) := Lib.hid (decide_eq_false (by omega))
          have HF1 : Hid (facs N = if isP z = true then some (r ++ [z]) else none) := Lib.hid (by rw [HFS.out, if_neg hz1])
          clear hz1 HFS
          go_upto_region 10 with fail
          refine Kr.seqStartW ?_
          (refine Kr.seqQ (v := ?_) (a' := ?_) (by rfl) ?_ ?_ ?_; rotate_left 2; (focus (go_simp; first | done | rfl)); (focus ((try simp only [Kr.PT]); first | done | rfl)))
          (refine Kr.seqQ (v := .bool false) (a' := ?_) (by rfl) ?_ ?_ ?_; rotate_left 1; (focus (exact Kr.valOf rfl (eqlI HE.out))); (focus ((try simp only [Kr.PT]); first | done | rfl)))
          (refine Kr.seqQ (v := ?_) (a' := ?_) (by rfl) ?_ ?_ ?_; rotate_left 2; (focus (go_simp; first | done | rfl)); (focus ((try simp only [Kr.PT]); first | done | rfl)))
          refine Kr.seqDoneW ?_
          cases hp : isP z
          · have HP : Hid (isP z = false) := Lib.hid hp
            clear hp
            rw [HP.out] at HF1
            go_upto_region 12 with fail
            refine Kr.seqStartW ?_
            (refine Kr.seqQ (v := ?_) (a' := ?_) (by rfl) ?_ ?_ ?_; rotate_left 2; (focus (go_simp; first | done | rfl)); (focus ((try simp only [Kr.PT]); first | done | rfl)))
            refine Kr.seqR (by rfl) (fun K hK => ?_)
            go_simp
            go_at_call 12
            have hP := Is_v (n := z) (w := wr) ⟨Tab_grow HT.out.1 H.g, Bas_grow HT.out.2 H.g⟩ (by have := HZN.out; omega)
            rw [HP.out] at hP
            refine (hP).mono ?_
            rintro e y2 ⟨rfl, hg⟩
            replace HR := Lib.hid (HR.out.grow hg)
            replace H := H.grow hg
            clear hg
            clear hP
            (refine Kr.outS hK (a' := ?_) ?_ ?_; rotate_left; (focus ((try simp only [Kr.PT]); first | done | rfl))); clear hK K
            (refine Kr.seqQ (v := ?_) (a' := ?_) (by rfl) ?_ ?_ ?_; rotate_left 2; (focus (go_simp; first | done | rfl)); (focus ((try simp only [Kr.PT]); first | done | rfl)))
            refine Kr.seqDoneW ?_
            go_upto_region 14 with fail
            refine Kr.seqStartW ?_
            iterate 2 (refine Kr.seqQ (v := ?_) (a' := ?_) (by rfl) ?_ ?_ ?_; rotate_left 2; (focus (go_simp; first | done | rfl)); (focus ((try simp only [Kr.PT]); first | done | rfl)))
            refine Kr.seqDoneW ?_
            have hk : True := trivial
            go_wp2
            refine bodyPost_ret (v := .tuple #[.slice none 0 0, .int .i64 9]) (by simp [results, Tryd.results15, go_sem, hk]) rfl ⟨H.g, .inr ⟨HF1.out, rfl⟩⟩
          · have HP : Hid (isP z = true) := Lib.hid hp
            clear hp
            rw [HP.out] at HF1
            go_upto_region 12 with fail
            refine Kr.seqStartW ?_
            (refine Kr.seqQ (v := ?_) (a' := ?_) (by rfl) ?_ ?_ ?_; rotate_left 2; (focus (go_simp; first | done | rfl)); (focus ((try simp only [Kr.PT]); first | done | rfl)))
            refine Kr.seqR (by rfl) (fun K hK => ?_)
            go_simp
            go_at_call 12
            have hP := Is_v (n := z) (w := wr) ⟨Tab_grow HT.out.1 H.g, Bas_grow HT.out.2 H.g⟩ (by have := HZN.out; omega)
            rw [HP.out] at hP
            refine (hP).mono ?_
            rintro e y3 ⟨rfl, hg⟩
            replace HR := Lib.hid (HR.out.grow hg)
            replace H := H.grow hg
            clear hg
            clear hP
            (refine Kr.outS hK (a' := ?_) ?_ ?_; rotate_left; (focus ((try simp only [Kr.PT]); first | done | rfl))); clear hK K
            (refine Kr.seqQ (v := ?_) (a' := ?_) (by rfl) ?_ ?_ ?_; rotate_left 2; (focus (go_simp; first | done | rfl)); (focus ((try simp only [Kr.PT]); first | done | rfl)))
            refine Kr.seqDoneW ?_
            go_upto_region 13 with fail
            refine Kr.seqStartW ?_
            iterate 2 (refine Kr.seqQ (v := ?_) (a' := ?_) (by rfl) ?_ ?_ ?_; rotate_left 2; (focus (go_simp; first | done | rfl)); (focus ((try simp only [Kr.PT]); first | done | rfl)))
            refine Kr.seqR (by rfl) (fun K hK => ?_)
            go_simp
            obtain ⟨y4, hy⟩ : ∃ y, y3.alloc (.cells #[.int .i64 (z : Int)] 3) = y := ⟨_, rfl⟩
            obtain ⟨bone, hbn⟩ : ∃ b, y3.heap.size = b := ⟨_, rfl⟩
            rw [hy, hbn]
            have hg : Gr y3 y4 := hy ▸ (Gr.refl _).alloc _
            have HONE := Lib.hid (hbn ▸ hy ▸ one_int y3 (z : Int))
            replace HR := Lib.hid (HR.out.grow hg)
            replace H := H.grow hg
            clear hg hy hbn
            (refine Kr.outS hK (a' := ?_) ?_ ?_; rotate_left; (focus ((try simp only [Kr.PT]); first | done | rfl))); clear hK K
            refine Kr.seqR (by rfl) (fun K hK => ?_)
            refine wp_append_lies _ (.tmp 41) (.tmp 43) 28 rfl w.heap.size 3 i0 (.int .i64 0) 1 8 Tryd.underlying28 hi hz0 hz1 hz2 rfl (by decide) u4 m (ci r) rfl (HM.out ▸ HR.out) ⟨bone, 0, none⟩ 1 1 [.int .i64 (z : Int)] rfl rfl HONE.out (by simp [Value.oneCell']) (by decide) (by unfold maxLen; omega) (by omega) H.g.le _ rfl ?_
            intro gb cap w3 hown hgrow hat _
            have h5 := int_append H HR.out (v1 := .slice (some ⟨gb, 0, none⟩) (m + 1) cap) (by rw [HM.out]; exact hown) hgrow
            obtain ⟨v1, hv1⟩ : ∃ v1 : Value, .slice (some ⟨gb, 0, none⟩) (m + 1) cap = v1 := ⟨_, rfl⟩
            rw [hv1] at h5
            rw [hv1]
            clear hown hgrow hat hv1 HONE
            clear H HR
            obtain ⟨H, hR⟩ := h5
            have HR := Lib.hid hR
            clear hR
            (refine Kr.outS hK (a' := ?_) ?_ ?_; rotate_left; (focus ((try simp only [Kr.PT]); first | done | rfl))); clear hK K
            iterate 2 (refine Kr.seqQ (v := ?_) (a' := ?_) (by rfl) ?_ ?_ ?_; rotate_left 2; (focus (go_simp; first | done | rfl)); (focus ((try simp only [Kr.PT]); first | done | rfl)))
            refine Kr.seqDoneW ?_
            have hk : True := trivial
            go_wp2
            refine bodyPost_ret (v := .tuple #[v1, .int .i64 0]) (by simp [results, Tryd.results15, go_sem, hk]) rfl ⟨H.g, .inl ⟨r ++ [z], v1, HF1.out, rfl, HR.out⟩⟩
    · have HC1 : Hid (decide ((d : Int) ≤ 1048576) = false) := Lib.hid (decide_eq_false (by omega))
      have HNO : Hid (¬ (d ≤ 1048576 ∧ d * d ≤ z)) := Lib.hid (fun h => hd h.1)
      clear hd
      go_upto_region 5 with fail
      refine Kr.seqStartW ?_
      (refine Kr.seqQ (v := ?_) (a' := ?_) (by rfl) ?_ ?_ ?_; rotate_left 2; (focus (go_simp; first | done | rfl)); (focus ((try simp only [Kr.PT]); first | done | rfl)))
      (refine Kr.seqQ (v := .bool false) (a' := ?_) (by rfl) ?_ ?_ ?_; rotate_left 1; (focus (exact Kr.valOf rfl (leqI HC1.out))); (focus ((try simp only [Kr.PT]); first | done | rfl)))
      (refine Kr.seqQ (v := ?_) (a' := ?_) (by rfl) ?_ ?_ ?_; rotate_left 2; (focus (go_simp; first | done | rfl)); (focus ((try simp only [Kr.PT]); first | done | rfl)))
      (refine Kr.seqSkipQ (a' := ?_) (by rfl) ?_ ?_; rotate_left; (focus ((try simp only [Kr.PT]); first | done | rfl)))
      (refine Kr.seqSkipQ (a' := ?_) (by rfl) ?_ ?_; rotate_left; (focus ((try simp only [Kr.PT]); first | done | rfl)))
      (refine Kr.seqSkipQ (a' := ?_) (by rfl) ?_ ?_; rotate_left; (focus ((try simp only [Kr.PT]); first | done | rfl)))
      (refine Kr.seqSkipQ (a' := ?_) (by rfl) ?_ ?_; rotate_left; (focus ((try simp only [Kr.PT]); first | done | rfl)))
      (refine Kr.seqSkipQ (a' := ?_) (by rfl) ?_ ?_; rotate_left; (focus ((try simp only [Kr.PT]); first | done | rfl)))
      (refine Kr.seqQ (v := ?_) (a' := ?_) (by rfl) ?_ ?_ ?_; rotate_left 2; (focus (go_simp; first | done | rfl)); (focus ((try simp only [Kr.PT]); first | done | rfl)))
      refine Kr.seqDoneW ?_
      have HF := fac_no (d := d) (z := z) HNO.out
      rw [HF] at HL HRR
      rw [List.append_nil] at HL
      have e1 := HL.out; have e2 : z = R := HRR.out
      subst e2; subst e1
      clear HF HL HRR
      obtain ⟨m, hm⟩ : ∃ m, r.length = m := ⟨_, rfl⟩
      have HM := Lib.hid hm
      have hmb : m ≤ 2048 := by have h := len64 HPW.out HZ.out HN.out; omega
      clear hm
      by_cases hz1 : z = 1
      · have HE : Hid (decide ((z : Int) = 1) = true) := Lib.hid (decide_eq_true (by omega))
        have HF1 : Hid (facs N = some r) := Lib.hid (by rw [HFS.out, if_pos hz1])
        clear hz1 HFS
        go_upto_region 10 with fail
        refine Kr.seqStartW ?_
        (refine Kr.seqQ (v := ?_) (a' := ?_) (by rfl) ?_ ?_ ?_; rotate_left 2; (focus (go_simp; first | done | rfl)); (focus ((try simp only [Kr.PT]); first | done | rfl)))
        (refine Kr.seqQ (v := .bool true) (a' := ?_) (by rfl) ?_ ?_ ?_; rotate_left 1; (focus (exact Kr.valOf rfl (eqlI HE.out))); (focus ((try simp only [Kr.PT]); first | done | rfl)))
        (refine Kr.seqQ (v := ?_) (a' := ?_) (by rfl) ?_ ?_ ?_; rotate_left 2; (focus (go_simp; first | done | rfl)); (focus ((try simp only [Kr.PT]); first | done | rfl)))
        refine Kr.seqDoneW ?_
        go_upto_region 11 with fail
        refine Kr.seqStartW ?_
        iterate 3 (refine Kr.seqQ (v := ?_) (a' := ?_) (by rfl) ?_ ?_ ?_; rotate_left 2; (focus (go_simp; first | done | rfl)); (focus ((try simp only [Kr.PT]); first | done | rfl)))
        refine Kr.seqDoneW ?_
        have hk : True := trivial
        go_wp2
        refine bodyPost_ret (v := .tuple #[u4, .int .i64 0]) (by simp [results, Tryd.results15, go_sem, hk]) rfl ⟨H.g, .inl ⟨r, u4, HF1.out, rfl, HR.out⟩⟩
      · have HE : Hid (decide ((z : Int) = 1) = false) := Lib.hid (decide_eq_false (by omega))
        have HF1 : Hid (facs N = if isP z = true then some (r ++ [z]) else none) := Lib.hid (by rw [HFS.out, if_neg hz1])
        clear hz1 HFS
        go_upto_region 10 with fail
        refine Kr.seqStartW ?_
        (refine Kr.seqQ (v := ?_) (a' := ?_) (by rfl) ?_ ?_ ?_; rotate_left 2; (focus (go_simp; first | done | rfl)); (focus ((try simp only [Kr.PT]); first | done | rfl)))
        (refine Kr.seqQ (v := .bool false) (a' := ?_) (by rfl) ?_ ?_ ?_; rotate_left 1; (focus (exact Kr.valOf rfl (eqlI HE.out))); (focus ((try simp only [Kr.PT]); first | done | rfl)))
        (refine Kr.seqQ (v := ?_) (a' := ?_) (by rfl) ?_ ?_ ?_; rotate_left 2; (focus (go_simp; first | done | rfl)); (focus ((try simp only [Kr.PT]); first | done | rfl)))
        refine Kr.seqDoneW ?_
        cases hp : isP z
        · have HP : Hid (isP z = false) := Lib.hid hp
          clear hp
          rw [HP.out] at HF1
          go_upto_region 12 with fail
          refine Kr.seqStartW ?_
          (refine Kr.seqQ (v := ?_) (a' := ?_) (by rfl) ?_ ?_ ?_; rotate_left 2; (focus (go_simp; first | done | rfl)); (focus ((try simp only [Kr.PT]); first | done | rfl)))
          refine Kr.seqR (by rfl) (fun K hK => ?_)
          go_simp
          go_at_call 12
          have hP := Is_v (n := z) (w := wr) ⟨Tab_grow HT.out.1 H.g, Bas_grow HT.out.2 H.g⟩ (by have := HZN.out; omega)
          rw [HP.out] at hP
          refine (hP).mono ?_
          rintro e y5 ⟨rfl, hg⟩
          replace HR := Lib.hid (HR.out.grow hg)
          replace H := H.grow hg
          clear hg
          clear hP
          (refine Kr.outS hK (a' := ?_) ?_ ?_; rotate_left; (focus ((try simp only [Kr.PT]); first | done | rfl))); clear hK K
          (refine Kr.seqQ (v := ?_) (a' := ?_) (by rfl) ?_ ?_ ?_; rotate_left 2; (focus (go_simp; first | done | rfl)); (focus ((try simp only [Kr.PT]); first | done | rfl)))
          refine Kr.seqDoneW ?_
          go_upto_region 14 with fail
          refine Kr.seqStartW ?_
          iterate 2 (refine Kr.seqQ (v := ?_) (a' := ?_) (by rfl) ?_ ?_ ?_; rotate_left 2; (focus (go_simp; first | done | rfl)); (focus ((try simp only [Kr.PT]); first | done | rfl)))
          refine Kr.seqDoneW ?_
          have hk : True := trivial
          go_wp2
          refine bodyPost_ret (v := .tuple #[.slice none 0 0, .int .i64 9]) (by simp [results, Tryd.results15, go_sem, hk]) rfl ⟨H.g, .inr ⟨HF1.out, rfl⟩⟩
        · have HP : Hid (isP z = true) := Lib.hid hp
          clear hp
          rw [HP.out] at HF1
          go_upto_region 12 with fail
          refine Kr.seqStartW ?_
          (refine Kr.seqQ (v := ?_) (a' := ?_) (by rfl) ?_ ?_ ?_; rotate_left 2; (focus (go_simp; first | done | rfl)); (focus ((try simp only [Kr.PT]); first | done | rfl)))
          refine Kr.seqR (by rfl) (fun K hK => ?_)
          go_simp
          go_at_call 12
          have hP := Is_v (n := z) (w := wr) ⟨Tab_grow HT.out.1 H.g, Bas_grow HT.out.2 H.g⟩ (by have := HZN.out; omega)
          rw [HP.out] at hP
          refine (hP).mono ?_
          rintro e y6 ⟨rfl, hg⟩
          replace HR := Lib.hid (HR.out.grow hg)
          replace H := H.grow hg
          clear hg
          clear hP
          (refine Kr.outS hK (a' := ?_) ?_ ?_; rotate_left; (focus ((try simp only [Kr.PT]); first | done | rfl))); clear hK K
          (refine Kr.seqQ (v := ?_) (a' := ?_) (by rfl) ?_ ?_ ?_; rotate_left 2; (focus (go_simp; first | done | rfl)); (focus ((try simp only [Kr.PT]); first | done | rfl)))
          refine Kr.seqDoneW ?_
          go_upto_region 13 with fail
          refine Kr.seqStartW ?_
          iterate 2 (refine Kr.seqQ (v := ?_) (a' := ?_) (by rfl) ?_ ?_ ?_; rotate_left 2; (focus (go_simp; first | done | rfl)); (focus ((try simp only [Kr.PT]); first | done | rfl)))
          refine Kr.seqR (by rfl) (fun K hK => ?_)
          go_simp
          obtain ⟨y7, hy⟩ : ∃ y, y6.alloc (.cells #[.int .i64 (z : Int)] 3) = y := ⟨_, rfl⟩
          obtain ⟨bone, hbn⟩ : ∃ b, y6.heap.size = b := ⟨_, rfl⟩
          rw [hy, hbn]
          have hg : Gr y6 y7 := hy ▸ (Gr.refl _).alloc _
          have HONE := Lib.hid (hbn ▸ hy ▸ one_int y6 (z : Int))
          replace HR := Lib.hid (HR.out.grow hg)
          replace H := H.grow hg
          clear hg hy hbn
          (refine Kr.outS hK (a' := ?_) ?_ ?_; rotate_left; (focus ((try simp only [Kr.PT]); first | done | rfl))); clear hK K
          refine Kr.seqR (by rfl) (fun K hK => ?_)
          refine wp_append_lies _ (.tmp 41) (.tmp 43) 28 rfl w.heap.size 3 i0 (.int .i64 0) 1 8 Tryd.underlying28 hi hz0 hz1 hz2 rfl (by decide) u4 m (ci r) rfl (HM.out ▸ HR.out) ⟨bone, 0, none⟩ 1 1 [.int .i64 (z : Int)] rfl rfl HONE.out (by simp [Value.oneCell']) (by decide) (by unfold maxLen; omega) (by omega) H.g.le _ rfl ?_
          intro gb cap w3 hown hgrow hat _
          have h5 := int_append H HR.out (v1 := .slice (some ⟨gb, 0, none⟩) (m + 1) cap) (by rw [HM.out]; exact hown) hgrow
          obtain ⟨v1, hv1⟩ : ∃ v1 : Value, .slice (some ⟨gb, 0, none⟩) (m + 1) cap = v1 := ⟨_, rfl⟩
          rw [hv1] at h5
          rw [hv1]
          clear hown hgrow hat hv1 HONE
          clear H HR
          obtain ⟨H, hR⟩ := h5
          have HR := Lib.hid hR
          clear hR
          (refine Kr.outS hK (a' := ?_) ?_ ?_; rotate_left; (focus ((try simp only [Kr.PT]); first | done | rfl))); clear hK K
          iterate 2 (refine Kr.seqQ (v := ?_) (a' := ?_) (by rfl) ?_ ?_ ?_; rotate_left 2; (focus (go_simp; first | done | rfl)); (focus ((try simp only [Kr.PT]); first | done | rfl)))
          refine Kr.seqDoneW ?_
          have hk : True := trivial
          go_wp2
          refine bodyPost_ret (v := .tuple #[v1, .int .i64 0]) (by simp [results, Tryd.results15, go_sem, hk]) rfl ⟨H.g, .inl ⟨r ++ [z], v1, HF1.out, rfl, HR.out⟩⟩
end Go.Proofs.YtfompolklkehpaaDoor.Pr


/- The library's generic functions at rows of ints, laid at this seat. -/
namespace Go.Proofs
open Go.Shelf
shelf_lay_g SlLaysE.n43 Slgn 43 at Tryd 54 as Tryd.layCompact
shelf_lay_g SlLaysE0.n41 Slgn 41 at Tryd 55 as Tryd.layClone
shelf_lay_g SlLaysH.n8 Slgf 8 at Tryd 56 as Tryd.layContains
shelf_lay_g SlLaysE.n33 Slgn 33 at Tryd 17 as Tryd.layEqual
end Go.Proofs


/- Rows of ints as values: read, cloned, compacted. -/
namespace Go.Proofs.YtfompolklkehpaaDoor.Pr
open Go Go.RowKit Go.Shelf Go.Lib Go.Sort Go.Proofs.YtfompolklkehpaaDoor.Nm Go.Proofs.YtfompolklkehpaaDoor.Ne Go.Proofs.YtfompolklkehpaaDoor.Nf Go.Proofs.YtfompolklkehpaaDoor.Nk Go.Proofs.YtfompolklkehpaaDoor.Nv Go.Proofs.YtfompolklkehpaaDoor.Nr2 Go.Proofs.YtfompolklkehpaaDoor.Kr

/-- An int as a value. -/
def ei (x : Nat) : Value := .int .i64 (x : Int)
/-- The value is a slice that holds these ints. -/
def IntsV (v : Value) (l : List Nat) (W : World) : Prop :=
  (v = .slice none 0 0 ∧ l = []) ∨ ∃ b off c, v = .slice (some ⟨b, off, none⟩) l.length c ∧ ∀ j q, l[j]? = some q → W.cell? ⟨b, off + j, none⟩ = some (ei q)
theorem IntsV.grow {v : Value} {l : List Nat} {W W' : World} (h : IntsV v l W) (g : Gr W W') : IntsV v l W' := by
  rcases h with h | ⟨b, off, c, h1, h2⟩
  · exact .inl h
  · exact .inr ⟨b, off, c, h1, fun j q e => g.cell (h2 j q e)⟩
theorem ci_get {l : List Nat} {j q : Nat} (h : l[j]? = some q) : (ci l)[j]? = some (ei q) := by
  unfold ci
  rw [List.getElem?_map, h]; rfl
theorem RowI.ints {B : Nat} {v : Value} {l : List Nat} {W : World} (h : RowI B v l W) : IntsV v l W := by
  rcases h.2 with ⟨h1, h2⟩ | ⟨g, cap, cur, h1, _, h3, _, _, _, h5⟩
  · exact .inl ⟨h1, List.eq_nil_of_length_eq_zero h2⟩
  · refine .inr ⟨g, 0, cap, h1, fun j q e => ?_⟩
    have hj : j < l.length := (List.getElem?_eq_some_iff.1 e).1
    rw [Nat.zero_add, cell_of_row W g j cur _ _ h3]
    have h6 := ci_get e
    rw [← h5, List.getElem?_take, if_pos (by omega)] at h6
    simpa using h6
theorem oneCell_ei : OneCell ei := fun _ => rfl
theorem eqlAt_ei (T : TypeId) : EqlAt Tryd.prog T ei (fun x y => decide (x = y)) :=
  ⟨fun x y w => by
    have h := (EqlAt.intD Tryd.prog T .i64).1 (x : Int) (y : Int) w
    dsimp only at h
    rw [show decide ((x : Int) = (y : Int)) = decide (x = y) from decide_eq_decide.2 Int.ofNat_inj] at h
    exact h, fun op a b x y w => (EqlAt.intD Tryd.prog T .i64).2 op a b (x : Int) (y : Int) w⟩
theorem neqAt_ei (T : TypeId) : NeqAt Tryd.prog T ei (fun x y => decide (x = y)) :=
  ⟨fun x y w => by
    have h := (NeqAt.intD Tryd.prog T .i64).1 (x : Int) (y : Int) w
    dsimp only at h
    rw [show decide ((x : Int) = (y : Int)) = decide (x = y) from decide_eq_decide.2 Int.ofNat_inj] at h
    exact h, fun op a b x y w => (NeqAt.intD Tryd.prog T .i64).2 op a b (x : Int) (y : Int) w⟩
noncomputable def infoInt : TypeInfo := (Tryd.prog.info? 3).get (by kernel_rfl)
theorem sizeInt : ∀ w, (Go.sizeOf 3).run Tryd.prog w = .ok 1 w := fun w => Tryd.sizeOf3 w
theorem ci_mem {l : List Nat} : ∀ u ∈ ci l, u.oneCell' = true := by
  intro u hu
  obtain ⟨x, _, rfl⟩ := List.mem_map.1 hu
  rfl
theorem clone_v {v : Value} {l : List Nat} {w : World} (h : IntsV v l w) (hs : l.length ≤ 1048576) :
    Calls Tryd.prog 55 #[v] w fun e w' => ∃ v', e = .returned v' ∧ RowI w.heap.size v' l w' ∧ Gr w w' := by
  rcases h with ⟨rfl, rfl⟩ | ⟨b, off, c, rfl, hc⟩
  · refine (show Calls Tryd.prog 55 #[.slice none 0 0] w _ from AnyE.slices_Clone_nil Tryd.layClone 0 0 w).mono ?_
    rintro e w' ⟨rfl, rfl⟩
    exact ⟨_, rfl, RowI.start _ _, Gr.refl _⟩
  · refine (show Calls Tryd.prog 55 #[.slice (some ⟨b, off, none⟩) l.length c] w _ from AnyE.slices_Clone Tryd.layClone infoInt (.int .i64 0) 1 8 (by kernel_rfl) (by kernel_rfl) (by kernel_rfl) (by kernel_rfl) rfl (by decide) sizeInt b off l.length c (ci l) w (by rw [ci_length, Nat.mul_one]) (by unfold maxLen; omega) (by omega) ?_ ci_mem).mono ?_
    · intro j u hu
      unfold ci at hu
      rw [List.getElem?_map] at hu
      cases hq : l[j]? with
      | none => rw [hq] at hu; cases hu
      | some q =>
        rw [hq] at hu
        cases hu
        exact hc j q hq
    · rintro e w' ⟨v', rfl, h1, _, h3⟩
      exact ⟨v', rfl, h1, h3⟩
/-- The row without repetitions of a neighbour. -/
def comp (l : List Nat) : List Nat := compactUpTo l.toArray l.toArray.size
theorem comp_le (l : List Nat) : (comp l).length ≤ l.length := by
  unfold comp compactUpTo
  rw [List.length_map]
  have h := List.length_filter_le (keeps l.toArray) (List.range l.toArray.size)
  rw [List.length_range] at h
  simpa using h
theorem keep_back (d : Array Nat) : ∀ j, j < d.size → ∃ i, i ≤ j ∧ keeps d i = true ∧ d[i]! = d[j]!
  | 0, _ => ⟨0, Nat.le_refl _, by simp [keeps], rfl⟩
  | j + 1, h => by
    by_cases hk : keeps d (j + 1) = true
    · exact ⟨j + 1, Nat.le_refl _, hk, rfl⟩
    · obtain ⟨i, h1, h2, h3⟩ := keep_back d j (by omega)
      refine ⟨i, by omega, h2, h3.trans ?_⟩
      simp only [keeps, Nat.add_sub_cancel, decide_eq_true_eq] at hk
      rcases Classical.em (d[j + 1]! = d[j]!) with e | e
      · exact e.symm
      · exact absurd (Or.inr e) hk
theorem mem_comp {l : List Nat} {x : Nat} : x ∈ comp l ↔ x ∈ l := by
  have hg : ∀ j, j < l.toArray.size → l.toArray[j]! ∈ l := fun j hj => by
    rw [getElem!_pos _ j hj]
    simp
  constructor
  · intro h
    obtain ⟨j, hj, rfl⟩ := List.mem_map.1 h
    exact hg j (List.mem_range.1 (List.mem_filter.1 hj).1)
  · intro h
    obtain ⟨j, hj, e⟩ := List.getElem_of_mem h
    have hj2 : j < l.toArray.size := by simpa using hj
    obtain ⟨i, h1, h2, h3⟩ := keep_back l.toArray j hj2
    refine List.mem_map.2 ⟨i, List.mem_filter.2 ⟨List.mem_range.2 (by omega), h2⟩, ?_⟩
    rw [h3, getElem!_pos _ j hj2]
    simpa using e
theorem any_comp (l : List Nat) (P : Nat → Bool) : (comp l).any P = l.any P := by
  rw [Bool.eq_iff_iff, List.any_eq_true, List.any_eq_true]
  constructor
  · rintro ⟨x, h1, h2⟩; exact ⟨x, mem_comp.1 h1, h2⟩
  · rintro ⟨x, h1, h2⟩; exact ⟨x, mem_comp.2 h1, h2⟩
theorem holds_row {w : World} {b : Nat} {cur : Array Value} {e : TypeId} {r : List Nat} (hh : w.heap[b]? = some (.cells cur e (0, 0))) (ht : cur.toList.take r.length = ci r) : Holds ei w b 0 r.toArray := by
  intro j hj
  have hj2 : j < r.length := by simpa using hj
  have h1 := ci_get (List.getElem?_eq_getElem hj2)
  rw [← ht, List.getElem?_take, if_pos hj2] at h1
  refine ⟨?_, by simp [World.frozen?, hh]⟩
  rw [Nat.zero_add, cell_of_row w b j cur e (0, 0) hh]
  have h2 : cur[j]? = some (ei r[j]) := by simpa using h1
  rw [h2]
  simp [hj2]
theorem put_heapI {w : World} {b n : Nat} {cur : Array Value} {e : TypeId} (d : Array Nat) (hh : w.heap[b]? = some (.cells cur e (0, 0))) :
    (putRow ei (Sort.ahead w n) b 0 d).heap[b]? = some (.cells (putCells ei 0 d cur) e (0, 0)) := by
  have h1 : (Sort.ahead w n).heap[b]? = some (.cells cur e (0, 0)) := hh
  simp only [putRow, mapBlock, Array.getElem?_modify, if_true, h1, Option.map_some, onCells]
theorem put_grownI (w : World) (b n : Nat) (d : Array Nat) : w.grownBy (putRow ei (Sort.ahead w n) b 0 d) (some b) := by
  refine ⟨rfl, rfl, rfl, by simp [putRow, mapBlock, Sort.ahead], fun k _ hne => ?_⟩
  have hkb : b ≠ k := fun e => hne (by rw [e])
  simp only [putRow, mapBlock, Array.getElem?_modify, if_neg hkb]
  rfl
theorem put_at {j : Nat} {d : Array Nat} {cur : Array Value} (h1 : j < cur.size) (h2 : j < d.size) : (putCells ei 0 d cur)[j]? = some (ei d[j]!) := by
  simp [putCells, h1, h2]
theorem zeroInt : ∀ w, (zeroValue 3).run Tryd.prog w = .ok (ei 0) w := fun w => by kernel_rfl
set_option maxHeartbeats 4000000 in
set_option maxRecDepth 1000000 in
theorem compact_nil (w : World) : Calls Tryd.prog 54 #[.slice none 0 0] w fun e w' => e = .returned (.slice none 0 0) ∧ w' = w := by
  go_enter Tryd.func54, Tryd.ntmps54
  go_wp2
  go_ret
  exact ⟨rfl, rfl⟩
theorem compact_v {B : Nat} {v : Value} {l : List Nat} {w : World} (h : RowI B v l w) (hs : l.length ≤ 1048576) :
    Calls Tryd.prog 54 #[v] w fun e w' => ∃ v', e = .returned v' ∧ IntsV v' (comp l) w' ∧ w.grownBy w' v.ownBlock := by
  rcases h.2 with ⟨rfl, e0⟩ | ⟨b, cap, cur, rfl, hb, hh, hn, hm, hcs, ht⟩
  · obtain rfl := List.eq_nil_of_length_eq_zero e0
    refine (compact_nil w).mono ?_
    rintro e w' ⟨rfl, rfl⟩
    exact ⟨_, rfl, .inl ⟨rfl, rfl⟩, rfl, rfl, rfl, Nat.le_refl _, fun _ _ _ => rfl⟩
  · have ht' : cur.toList.take l.length = ci l := by rw [← ht, Nat.mul_one]
    have hsz : l.toArray.size = l.length := by simp
    have hc := AnyE.slices_Compact Tryd.layCompact ei oneCell_ei (eqlAt_ei _) (neqAt_ei _) 0 zeroInt b 0 cap l.toArray w (holds_row hh ht') (by rw [hsz]; omega) (by rw [hsz]; exact hn)
    rw [hsz] at hc
    refine (show Calls Tryd.prog 54 #[.slice (some ⟨b, 0, none⟩) l.length cap] w _ from hc).mono ?_
    rintro e w' ⟨rfl, q, rfl⟩
    refine ⟨_, rfl, .inr ⟨b, 0, cap, ?_, fun j x hx => ?_⟩, put_grownI w b q _⟩
    · unfold comp; rw [hsz]
    · have hcomp : comp l = compactUpTo l.toArray l.length := by unfold comp; rw [hsz]
      rw [hcomp] at hx
      have hj : j < (compactUpTo l.toArray l.length).length := (List.getElem?_eq_some_iff.1 hx).1
      have hle : (compactUpTo l.toArray l.length).length ≤ l.length := hcomp ▸ comp_le l
      have hcur : l.length ≤ cur.size := by rw [hcs]; omega
      rw [Nat.zero_add, cell_of_row _ b j _ _ _ (put_heapI _ hh)]
      have hjc : j < cur.size := by omega
      have hx2 : (compactUpTo l.toArray l.length)[j] = x := by
        rw [List.getElem?_eq_getElem hj] at hx
        exact Option.some.inj hx
      have hd : (compactUpTo l.toArray l.length ++ List.replicate (l.length - (compactUpTo l.toArray l.length).length) 0).toArray[j]! = x := by
        rw [getElem!_pos _ j (by simp; omega)]
        rw [List.getElem_toArray, List.getElem_append_left hj]
        exact hx2
      rw [put_at hjc (by simp; omega), hd]
end Go.Proofs.YtfompolklkehpaaDoor.Pr


/- The closure of leastRoot; ContainsFunc over it. -/
namespace Go.Proofs.YtfompolklkehpaaDoor.Pr
open Go.RowKit Go.Shelf Go.Proofs.YtfompolklkehpaaDoor.Nm Go.Proofs.YtfompolklkehpaaDoor.Ne Go.Proofs.YtfompolklkehpaaDoor.Nf Go.Proofs.YtfompolklkehpaaDoor.Nk Go.Proofs.YtfompolklkehpaaDoor.Nv Go.Proofs.YtfompolklkehpaaDoor.Nr2 Go.Proofs.YtfompolklkehpaaDoor.Mo Go.Proofs.YtfompolklkehpaaDoor.Mr Go.Proofs.YtfompolklkehpaaDoor.Kr

/-- The power that a root must not have. -/
def rootBad (p r q : Nat) : Bool := decide (r ^ ((p - 1) / q) % p = 1)
/-- r is the least number without such powers. -/
def IsRoot (p : Nat) (l : List Nat) (r : Nat) : Prop := 1 ≤ r ∧ l.any (rootBad p r) = false ∧ ∀ s, 1 ≤ s → s < r → l.any (rootBad p s) = true
theorem IsRoot.unique {p r s : Nat} {l : List Nat} (h : IsRoot p l r) (k : IsRoot p l s) : r = s := by
  rcases Nat.lt_trichotomy r s with h1 | h1 | h1
  · have := k.2.2 r h.1 h1
    rw [h.2.1] at this; cases this
  · exact h1
  · have := h.2.2 s k.1 h1
    rw [k.2.1] at this; cases this
theorem exp_pos {p q : Nat} (h0 : 0 < q) (h : q ≤ p - 1) : 0 < (p - 1) / q := Nat.div_pos h h0
theorem pow_self {p e : Nat} (h : 0 < e) : p ^ e % p = 0 := by
  obtain ⟨k, rfl⟩ : ∃ k, e = k + 1 := ⟨e - 1, by omega⟩
  rw [Nat.pow_succ, Nat.mul_mod_left]
theorem root_p {p : Nat} {l : List Nat} (hl : ∀ q ∈ l, 0 < q ∧ q ≤ p - 1) : l.any (rootBad p p) = false := by
  rw [List.any_eq_false]
  intro q hq
  have h := hl q hq
  unfold rootBad
  rw [pow_self (exp_pos h.1 h.2)]
  decide
theorem pow_le {a e m : Nat} {w : World} (ha : a ≤ m) (h0 : 0 < m) (hm : m < 2305843009213693952) (he : e < 9223372036854775808) (he0 : 0 < e) :
    Calls Tryd.prog 50 #[.int .i64 (a : Int), .int .i64 (e : Int), .int .i64 (m : Int)] w fun r w' => r = .returned (.int .i64 ((a ^ e % m : Nat) : Int)) ∧ Gr w w' := by
  rcases Nat.lt_or_ge a m with h | h
  · exact pow_small h hm he
  · obtain rfl : a = m := Nat.le_antisymm ha h
    have hc : Ww.chk (a : Int) 0 (a : Int) = 2 := by
      unfold Ww.chk
      rw [if_neg (by omega), if_pos (by omega)]
    rw [pow_self he0]
    exact pow_err (by omega) hc (.inr rfl)
set_option linter.unusedSimpArgs false in
set_option maxRecDepth 100000 in
set_option maxHeartbeats 16000000 in
theorem lr1 {p r q br bp : Nat} {w : World} (hp : 2 ≤ p) (hpm : p < 2305843009213693952) (hr : r ≤ p) (hq0 : 0 < q) (hq : q ≤ p - 1)
    (cr : ∀ W, Gr w W → W.cell? ⟨br, 0, none⟩ = some (.int .i64 (r : Int)) ∧ W.frozen? ⟨br, 0, none⟩ = false) (cp : ∀ W, Gr w W → W.cell? ⟨bp, 0, none⟩ = some (.int .i64 (p : Int)) ∧ W.frozen? ⟨bp, 0, none⟩ = false) :
    Calls Tryd.prog 57 #[.int .i64 (q : Int), .pointer (some ⟨br, 0, none⟩), .pointer (some ⟨bp, 0, none⟩)] w fun e w' => e = .returned (.bool (rootBad p r q)) ∧ Gr w w' := by
  have HRL := Lib.hid hr; have HP2 := Lib.hid hp; have HPM := Lib.hid hpm; have HQ0 := Lib.hid hq0; have HQL := Lib.hid hq; have HCR := Lib.hid cr; have HCP := Lib.hid cp; clear hr hp hpm hq0 hq cr cp
  obtain ⟨a, ha⟩ : ∃ a, p - 1 = a := ⟨_, rfl⟩
  obtain ⟨e, he⟩ : ∃ e, a / q = e := ⟨_, rfl⟩
  have HE := Lib.hid he; have HE0 : Hid (0 < e) := Lib.hid (he ▸ ha ▸ exp_pos HQ0.out HQL.out); have HA63 : Hid (a < 9223372036854775808) := Lib.hid (by have := HPM.out; omega)
  have HE63 : Hid (e < 9223372036854775808) := Lib.hid (Nat.lt_of_le_of_lt (he ▸ Nat.div_le_self _ _) HA63.out)
  have HSUB : Hid (IntKind.i64.wrap ((p : Int) - 1) = (a : Int)) := Lib.hid (wrap_nat (by have := HP2.out; omega) HA63.out)
  obtain ⟨z, hz⟩ : ∃ z, r ^ e % p = z := ⟨_, rfl⟩
  obtain ⟨b, hb⟩ : ∃ b, rootBad p r q = b := ⟨_, rfl⟩
  rw [hb]
  have HZB : Hid (decide ((z : Int) = 1) = b) := Lib.hid (by rw [← hb]; unfold rootBad; rw [ha, he, hz, Bool.eq_iff_iff]; simp; omega)
  have HZ := Lib.hid hz; clear ha he hz hb
  have H := Sta.start w
  go_enter Tryd.func57, Tryd.ntmps57
  go_upto_region 0 with fail
  refine Kr.seqStartW ?_
  (refine Kr.seqQ (v := ?_) (a' := ?_) (by rfl) ?_ ?_ ?_; rotate_left 2; (focus (go_simp; first | done | rfl)); (focus ((try simp only [Kr.PT]); first | done | rfl)))
  refine Kr.seqDoneW ?_
  go_upto_region 1 with fail
  refine Kr.startL (fun W' => Kr.Cells W' [(br, 0, .int .i64 (r : Int)), (bp, 0, .int .i64 (p : Int))]) [] (by kernel_rfl) ?_
  have gd : Gr w w.drew := (Gr.refl _).drew
  generalize w.drew = d1 at gd ⊢
  replace H := H.grow gd
  clear gd
  refine have nd1_1 : ∀ (Wd1 : World), Sta w Wd1 [] [] → (?Q1_1 : World → Prop) Wd1 := ?pf1_1; ?mn1_1
  case mn1_1 =>
    (refine Kr.tSQ 0 [] (v := ?_) (a' := ?_) rfl (by kernel_rfl) (fun _ _ _ h => h) (by rfl) ⟨HCR.out _ H.g, ⟨HCP.out _ H.g, (H.sub [] rfl)⟩⟩ (fun wx hSx => ?_) ?_ ?_; rotate_left 2; (focus (simp only [Kr.Cells] at hSx; go_simp; first | done | rfl)); (focus ((try simp only [Kr.PT]); first | done | rfl)))
    (refine Kr.tSQ 1 [] (v := ?_) (a' := ?_) rfl (by kernel_rfl) (fun _ _ _ h => h) (by rfl) ⟨HCR.out _ H.g, ⟨HCP.out _ H.g, (H.sub [] rfl)⟩⟩ (fun wx hSx => ?_) ?_ ?_; rotate_left 2; (focus (simp only [Kr.Cells] at hSx; go_simp; first | done | rfl)); (focus ((try simp only [Kr.PT]); first | done | rfl)))
    (refine Kr.tPQ 2 (v := .int .i64 (a : Int)) (a' := ?_) rfl (by kernel_rfl) (fun _ _ _ h => h) (by rfl) (fun _ => ⟨HCR.out _ H.g, ⟨HCP.out _ H.g, (H.sub [] rfl)⟩⟩) (fun wx => ?_) ?_ ?_; rotate_left 1; (focus (exact Kr.valOf rfl (subI HSUB.out))); (focus ((try simp only [Kr.PT]); first | done | rfl)))
    (refine Kr.tPQ 3 (v := ?_) (a' := ?_) rfl (by kernel_rfl) (fun _ _ _ h => h) (by rfl) (fun _ => ⟨HCR.out _ H.g, ⟨HCP.out _ H.g, (H.sub [] rfl)⟩⟩) (fun wx => ?_) ?_ ?_; rotate_left 2; (focus (go_simp; first | done | rfl)); (focus ((try simp only [Kr.PT]); first | done | rfl)))
    (refine Kr.tPQ 4 (v := .int .i64 (e : Int)) (a' := ?_) rfl (by kernel_rfl) (fun _ _ _ h => h) (by rfl) (fun _ => ⟨HCR.out _ H.g, ⟨HCP.out _ H.g, (H.sub [] rfl)⟩⟩) (fun wx => ?_) ?_ ?_; rotate_left 1; (focus (exact Kr.valOf rfl (quoI HQ0.out HE.out HA63.out))); (focus ((try simp only [Kr.PT]); first | done | rfl)))
    (refine Kr.tSQ 5 [] (v := ?_) (a' := ?_) rfl (by kernel_rfl) (fun _ _ _ h => h) (by rfl) ⟨HCR.out _ H.g, ⟨HCP.out _ H.g, (H.sub [] rfl)⟩⟩ (fun wx hSx => ?_) ?_ ?_; rotate_left 2; (focus (simp only [Kr.Cells] at hSx; go_simp; first | done | rfl)); (focus ((try simp only [Kr.PT]); first | done | rfl)))
    refine Kr.readyL (rs := [6]) (by kernel_rfl) (by simp) ?_
    refine Kr.AllL.cons rfl (fun K hK => ?_) Kr.AllL.nil
    go_simp
    go_at_call 50
    have hP := pow_le (w := d1) HRL.out (by have := HP2.out; omega) HPM.out HE63.out HE0.out
    rw [HZ.out] at hP
    refine (hP).mono ?_
    rintro e y2 ⟨rfl, hg⟩
    replace H := H.grow hg
    clear hg
    clear hP
    (refine Kr.outL hK (a' := ?_) ?_ (fun _ => ⟨HCR.out _ H.g, ⟨HCP.out _ H.g, (H.sub [] rfl)⟩⟩) ?_; rotate_left; (focus ((try simp only [Kr.PT]); first | done | rfl))); clear hK K
    (refine Kr.tPQ 7 (v := .bool b) (a' := ?_) rfl (by kernel_rfl) (fun _ _ _ h => h) (by rfl) (fun _ => ⟨HCR.out _ H.g, ⟨HCP.out _ H.g, (H.sub [] rfl)⟩⟩) (fun wx => ?_) ?_ ?_; rotate_left 1; (focus (exact Kr.valOf rfl (eqlI HZB.out))); (focus ((try simp only [Kr.PT]); first | done | rfl)))
    (refine Kr.tPQ 8 (v := ?_) (a' := ?_) rfl (by kernel_rfl) (fun _ _ _ h => h) (by rfl) (fun _ => ⟨HCR.out _ H.g, ⟨HCP.out _ H.g, (H.sub [] rfl)⟩⟩) (fun wx => ?_) ?_ ?_; rotate_left 2; (focus (go_simp; first | done | rfl)); (focus ((try simp only [Kr.PT]); first | done | rfl)))
    refine Kr.relistL (l2 := #[true, true, true, true, true, true, true, true, true]) (by kernel_rfl) ?_
    exact nd1_1 y2 H
  case pf1_1 =>
    intro Wd1 H
    refine Kr.doneL (by kernel_rfl) ?_ _
    have hk : True := trivial
    go_wp2
    refine bodyPost_ret (v := .bool b) (by simp [results, Tryd.results57, go_sem, hk]) rfl ⟨rfl, H.g⟩
set_option maxHeartbeats 4000000 in
theorem ix_lr (A B : Addr) (P : Nat → Bool) (v : Value) (l : List Nat) (hs : l.length ≤ 1048576) (w : World) (h : IntsV v l w)
    (H : ∀ q, q ∈ l → ∀ W, Gr w W → Calls Tryd.prog 57 #[.int .i64 (q : Int), .pointer (some A), .pointer (some B)] W fun e w' => e = .returned (.bool (P q)) ∧ Gr W w') :
    Calls Tryd.prog 77 #[v, .func (.func 57) #[] #[.pointer (some A), .pointer (some B)]] w fun e w' => (∃ i : Int, e = .returned (.int .i64 i) ∧ (0 ≤ i ↔ l.any P = true)) ∧ Gr w w' := by
  rcases h with ⟨rfl, rfl⟩ | ⟨b, off, c, rfl, hc⟩
  · clear H hs
    go_enter Tryd.func77, Tryd.ntmps77
    go_wp2
    go_loopw [8] (fun i wr => i = .int .i64 0 ∧ Hid (Gr w wr)) (fun i _ => 0)
    case atStart => exact ⟨rfl, Gr.refl w⟩
    case round =>
      obtain ⟨rfl, HG⟩ := hrel
      go_wp2
      go_ret
      exact ⟨⟨_, rfl, by simp⟩, HG.out⟩
  · have HN := Lib.hid hc
    have HP := Lib.hid H
    have HS2 := Lib.hid hs
    obtain ⟨n, hn⟩ : ∃ n, l.length = n := ⟨_, rfl⟩
    have EX := Lib.hid hn
    rw [hn]
    have hn2 : n ≤ 1048576 := hn ▸ hs
    clear hc H hs hn
    go_enter Tryd.func77, Tryd.ntmps77
    go_wp2
    go_loopw [8] (fun i wr => ∃ k : Nat, k ≤ n ∧ i = .int .i64 k ∧ Hid ((l.take k).any P = false) ∧ Hid (Gr w wr)) (fun i _ => n - (intOf i).toNat)
    case atStart => exact ⟨0, Nat.zero_le _, rfl, Lib.hid (by simp), Gr.refl w⟩
    case round =>
      obtain ⟨k, hk, rfl, HS, HG⟩ := hrel
      by_cases hlt : k < n
      · have hkl : k < l.length := by rw [EX.out]; exact hlt
        obtain ⟨x, hx⟩ : ∃ x, l[k]? = some x := ⟨_, List.getElem?_eq_getElem hkl⟩
        have hc : _ = some (Value.int .i64 (x : Int)) := HG.out.cell (HN.out k x hx)
        have HC := Lib.hid (HP.out x (List.mem_of_getElem? hx))
        have HTK : Hid ((l.take (k + 1)).any P = ((l.take k).any P || P x)) := Lib.hid (by rw [List.take_add_one, hx]; simp)
        have HX := Lib.hid (List.mem_of_getElem? hx)
        clear hx hkl
        have hk0 : (0 : Int) ≤ (k : Int) := by omega
        have hk1 : (k : Int) < (n : Int) := by omega
        obtain ⟨v, hv⟩ : ∃ v, P x = v := ⟨_, rfl⟩
        rw [hv] at HC HTK
        have HV := Lib.hid hv
        clear hv
        cases v with
        | true =>
          go_wp2_with fail
          refine (HC.out _ HG.out).mono ?_
          rintro e w1 ⟨rfl, hg⟩
          have HG1 := Lib.hid (HG.out.trans hg)
          clear hg hc
          go_wp2
          go_ret
          exact ⟨⟨_, rfl, ⟨fun _ => List.any_eq_true.2 ⟨x, HX.out, HV.out⟩, fun _ => by omega⟩⟩, HG1.out⟩
        | false =>
          go_wp2_with fail
          refine (HC.out _ HG.out).mono ?_
          rintro e w1 ⟨rfl, hg⟩
          have HG1 := Lib.hid (HG.out.trans hg)
          clear hg hc
          go_wp2
          go_roundw
          case rel => exact ⟨k + 1, by omega, by go_num, Lib.hid (by rw [HTK.out, HS.out]; rfl), HG1⟩
          case measure => simp [intOf]; omega
      · obtain rfl : k = n := by omega
        have hall : l.any P = false := by rw [← HS.out, ← EX.out, List.take_length]
        have HALL := Lib.hid hall
        clear hall
        go_wp2
        go_ret
        exact ⟨⟨_, rfl, ⟨fun h => by omega, fun h => by rw [HALL.out] at h; cases h⟩⟩, HG.out⟩
set_option maxHeartbeats 2000000 in
theorem cf_lr (A B : Addr) (P : Nat → Bool) (v : Value) (l : List Nat) (hs : l.length ≤ 1048576) (w : World) (h : IntsV v l w)
    (H : ∀ q, q ∈ l → ∀ W, Gr w W → Calls Tryd.prog 57 #[.int .i64 (q : Int), .pointer (some A), .pointer (some B)] W fun e w' => e = .returned (.bool (P q)) ∧ Gr W w') :
    Calls Tryd.prog 56 #[v, .func (.func 57) #[] #[.pointer (some A), .pointer (some B)]] w fun e w' => e = .returned (.bool (l.any P)) ∧ Gr w w' := by
  have HI := Lib.hid (ix_lr A B P v l hs w h H)
  obtain ⟨b, hb⟩ : ∃ b, l.any P = b := ⟨_, rfl⟩
  rw [hb] at HI ⊢
  clear h H hb hs
  go_enter Tryd.func56, Tryd.ntmps56
  go_wp2_with fail
  refine HI.out.mono ?_
  rintro e w1 ⟨⟨i, rfl, hi⟩, hg⟩
  have HD : Hid (b = decide (0 ≤ i)) := Lib.hid (by rw [Bool.eq_iff_iff, decide_eq_true_iff, hi])
  have HG := Lib.hid hg
  clear hi hg
  go_wp2
  go_ret
  exact ⟨by rw [HD.out]; rfl, HG.out⟩
end Go.Proofs.YtfompolklkehpaaDoor.Pr


/- leastRoot. -/
namespace Go.Proofs.YtfompolklkehpaaDoor.Pr
open Go.RowKit Go.Shelf Go.Proofs.YtfompolklkehpaaDoor.Nm Go.Proofs.YtfompolklkehpaaDoor.Ne Go.Proofs.YtfompolklkehpaaDoor.Nf Go.Proofs.YtfompolklkehpaaDoor.Nk Go.Proofs.YtfompolklkehpaaDoor.Nv Go.Proofs.YtfompolklkehpaaDoor.Nr2 Go.Proofs.YtfompolklkehpaaDoor.Mo Go.Proofs.YtfompolklkehpaaDoor.Mr Go.Proofs.YtfompolklkehpaaDoor.Kr

theorem cells_grownI {W W' : World} {row : Option Nat} (g : W.grownBy W' row) : ∀ {cs : List (Nat × Nat × Value)}, (∀ x ∈ cs, row ≠ some x.1) → Cells W cs → Cells W' cs
  | [], _, _ => trivial
  | x :: _, hn, h => by
    have hb := g.block x.1 (World.block_lt_of_cell? W _ h.1.1) (fun e => hn x (List.mem_cons_self ..) e.symm)
    exact ⟨⟨(World.cell?_of_block (a := ⟨x.1, x.2.1, none⟩) hb).trans h.1.1, (World.frozen?_of_block (a := ⟨x.1, x.2.1, none⟩) hb).trans h.1.2⟩, cells_grownI g (fun y hy => hn y (List.mem_cons_of_mem _ hy)) h.2⟩
/-- A row made since has been written: the cells stay. -/
theorem sta_grownI {w W W1 W' : World} {cs : List (Nat × Nat × Value)} {row : Option Nat} (H : Sta w W cs []) (H1 : Sta w W1 cs []) (g : W1.grownBy W' row) (hr : ∀ k, row = some k → W.heap.size ≤ k) : Sta w W' cs [] :=
  ⟨gr_grown H1.g g (fun k e => Nat.le_trans H.g.le (hr k e)), cells_grownI g (fun x hx e => by
    have h1 := hr _ e
    have h2 := cells_lt H.c x hx
    omega) H1.c, H.low, H.ne, (fun F h => by cases h), (fun F h => by cases h)⟩
set_option linter.unusedSimpArgs false in
set_option maxRecDepth 100000 in
set_option maxHeartbeats 16000000 in
theorem leastRoot_v {p : Nat} {l : List Nat} {v : Value} {w : World} (hv : IntsV v l w) (hs : l.length ≤ 1048576) (hp : 2 ≤ p) (hpm : p < 2305843009213693952) (hl : ∀ q ∈ l, 0 < q ∧ q ≤ p - 1) :
    Calls Tryd.prog 34 #[.int .i64 (p : Int), v] w fun e w' => ∃ r : Nat, IsRoot p l r ∧ r ≤ p ∧ e = .returned (.int .i64 (r : Int)) ∧ Gr w w' := by
  have HV := Lib.hid hv; have HS := Lib.hid hs; have HP2 := Lib.hid hp; have HPM := Lib.hid hpm; have HL := Lib.hid hl; clear hv hs hp hpm hl
  have H := Sta.start w
  go_enter Tryd.func34, Tryd.ntmps34
  go_upto_region 0 with fail
  refine Kr.seqStartW ?_
  refine Kr.seqR (by rfl) (fun K hK => ?_)
  go_simp
  obtain ⟨y1, hy⟩ : ∃ y, w.alloc (.cells #[.int .i64 (p : Int)] 3) = y := ⟨_, rfl⟩
  obtain ⟨bp, hb⟩ : ∃ b, w.heap.size = b := ⟨_, rfl⟩
  rw [hy, hb]
  replace H := H.alloc hy hb rfl
  clear hy hb
  (refine Kr.outS hK (a' := ?_) ?_ ?_; rotate_left; (focus ((try simp only [Kr.PT]); first | done | rfl))); clear hK K
  (refine Kr.seqQ (v := ?_) (a' := ?_) (by rfl) ?_ ?_ ?_; rotate_left 2; (focus (go_simp; first | done | rfl)); (focus ((try simp only [Kr.PT]); first | done | rfl)))
  refine Kr.seqDoneW ?_
  go_upto_region 1 with fail
  refine Kr.seqStartW ?_
  (refine Kr.seqQ (v := ?_) (a' := ?_) (by rfl) ?_ ?_ ?_; rotate_left 2; (focus (go_simp; first | done | rfl)); (focus ((try simp only [Kr.PT]); first | done | rfl)))
  refine Kr.seqR (by rfl) (fun K hK => ?_)
  go_simp
  go_at_call 55
  have H0 := Lib.hid H
  refine (clone_v (HV.out.grow H.g) HS.out).mono ?_
  rintro e y2 ⟨v1, rfl, hr, hg⟩
  have HR0 := Lib.hid hr
  replace H := H.grow hg
  clear hg hr
  (refine Kr.outS hK (a' := ?_) ?_ ?_; rotate_left; (focus ((try simp only [Kr.PT]); first | done | rfl))); clear hK K
  refine Kr.seqR (by rfl) (fun K hK => ?_)
  go_simp
  go_at_call 54
  refine (compact_v HR0.out HS.out).mono ?_
  rintro e W1 ⟨v2, rfl, hi, hg⟩
  have HI := Lib.hid hi
  replace H := sta_grownI H0.out H hg (fun k e => (HR0.out.lt k e).1)
  clear hg hi HR0 H0
  (refine Kr.outS hK (a' := ?_) ?_ ?_; rotate_left; (focus ((try simp only [Kr.PT]); first | done | rfl))); clear hK K
  (refine Kr.seqQ (v := ?_) (a' := ?_) (by rfl) ?_ ?_ ?_; rotate_left 2; (focus (go_simp; first | done | rfl)); (focus ((try simp only [Kr.PT]); first | done | rfl)))
  refine Kr.seqDoneW ?_
  have HGR : Hid (Gr W1 W1) := Lib.hid (Gr.refl _)
  go_upto_region 2 with fail
  refine Kr.seqStartW ?_
  refine Kr.seqR (by rfl) (fun K hK => ?_)
  go_simp
  obtain ⟨y3, hy⟩ : ∃ y, W1.alloc (.cells #[.int .i64 0] 3) = y := ⟨_, rfl⟩
  obtain ⟨br, hb⟩ : ∃ b, W1.heap.size = b := ⟨_, rfl⟩
  have LHGR_r : Hid (W1.heap.size ≤ br) := Lib.hid (hb ▸ HGR.out.le)
  replace HGR : Hid (Gr W1 y3) := Lib.hid (hy ▸ HGR.out.alloc _)
  rw [hy, hb]
  replace H := H.alloc hy hb rfl
  clear hy hb
  (refine Kr.outS hK (a' := ?_) ?_ ?_; rotate_left; (focus ((try simp only [Kr.PT]); first | done | rfl))); clear hK K
  have hk := H.c
  simp only [Kr.Cells] at hk
  refine Kr.seqR (by rfl) (fun K hK => ?_)
  go_simp
  clear hk
  obtain ⟨y4, hy⟩ : ∃ y, y3.setCell ⟨br, 0, none⟩ (.int .i64 1) = y := ⟨_, rfl⟩
  replace HGR : Hid (Gr W1 y4) := Lib.hid (hy ▸ HGR.out.setCell (p := ⟨br, 0, none⟩) LHGR_r.out _)
  rw [hy]
  replace H := H.store 0 hy rfl rfl
  dsimp only [List.set] at H
  clear hy
  (refine Kr.outS hK (a' := ?_) ?_ ?_; rotate_left; (focus ((try simp only [Kr.PT]); first | done | rfl))); clear hK K
  refine Kr.seqDoneW ?_
  have H2 := Lib.hid H
  clear H
  go_wp2_with fail
  go_loopg [] p (fun k wr => ∃ r : Nat, p - r ≤ k ∧ 1 ≤ r ∧ r ≤ p ∧ Hid (∀ s, 1 ≤ s → s < r → l.any (rootBad p s) = true) ∧ Hid (Gr W1 wr) ∧ Hid (Sta w wr [(br, 0, .int .i64 (r : Int)), (bp, 0, .int .i64 (p : Int))] []))
  case atStart => exact ⟨1, by omega, Nat.le_refl _, by have := HP2.out; omega, Lib.hid (fun s h1 h2 => absurd h1 (by omega)), HGR, H2⟩
  case round =>
    clear H2 HGR
    obtain ⟨r, hk, hr1, hrp, HB, HGR, HH⟩ := hrel
    have H := HH.out; clear HH
    have HR1 := Lib.hid hr1; have HRP := Lib.hid hrp; have HK := Lib.hid hk; clear hr1 hrp hk
    obtain ⟨b, hb⟩ : ∃ b, l.any (rootBad p r) = b := ⟨_, rfl⟩
    have HBE := Lib.hid hb; clear hb
    cases b
    · go_upto_region 3 with fail
      refine Kr.seqStartW ?_
      iterate 2 (refine Kr.seqQ (v := ?_) (a' := ?_) (by rfl) ?_ ?_ ?_; rotate_left 2; (focus (go_simp; first | done | rfl)); (focus ((try simp only [Kr.PT]); first | done | rfl)))
      refine Kr.seqR (by rfl) (fun K hK => ?_)
      go_simp
      go_at_call 56
      have hcr : ∀ W, Gr wr W → W.cell? ⟨br, 0, none⟩ = some (.int .i64 (r : Int)) ∧ W.frozen? ⟨br, 0, none⟩ = false := fun W g => (H.grow g).c.get 0 rfl
      have hcp : ∀ W, Gr wr W → W.cell? ⟨bp, 0, none⟩ = some (.int .i64 (p : Int)) ∧ W.frozen? ⟨bp, 0, none⟩ = false := fun W g => (H.grow g).c.get 1 rfl
      have hcf := cf_lr ⟨br, 0, none⟩ ⟨bp, 0, none⟩ (rootBad p r) v2 (comp l) (Nat.le_trans (comp_le l) HS.out) wr (HI.out.grow HGR.out) (fun q hq W g => lr1 HP2.out HPM.out HRP.out (HL.out q (mem_comp.1 hq)).1 (HL.out q (mem_comp.1 hq)).2 (fun W1 g1 => hcr W1 (g.trans g1)) (fun W1 g1 => hcp W1 (g.trans g1)))
      rw [any_comp, HBE.out] at hcf
      clear hcr hcp
      refine (hcf).mono ?_
      rintro e y5 ⟨rfl, hg⟩
      replace HGR := Lib.hid (HGR.out.trans hg)
      replace H := H.grow hg
      clear hg
      clear hcf
      (refine Kr.outS hK (a' := ?_) ?_ ?_; rotate_left; (focus ((try simp only [Kr.PT]); first | done | rfl))); clear hK K
      refine Kr.seqDoneW ?_
      go_upto_region 5 with fail
      refine Kr.seqStartW ?_
      have hk := H.c
      simp only [Kr.Cells] at hk
      iterate 2 (refine Kr.seqQ (v := ?_) (a' := ?_) (by rfl) ?_ ?_ ?_; rotate_left 2; (focus (go_simp; first | done | rfl)); (focus ((try simp only [Kr.PT]); first | done | rfl)))
      clear hk
      refine Kr.seqDoneW ?_
      have HX : Hid (IsRoot p l r) := Lib.hid ⟨HR1.out, HBE.out, HB.out⟩
      have hk := H.c
      simp only [Kr.Cells] at hk
      go_wp2
      refine bodyPost_ret (v := .int .i64 (r : Int)) (by simp [results, Tryd.results34, go_sem, hk]) rfl ⟨r, HX.out, HRP.out, rfl, H.g⟩
    · go_upto_region 3 with fail
      refine Kr.seqStartW ?_
      iterate 2 (refine Kr.seqQ (v := ?_) (a' := ?_) (by rfl) ?_ ?_ ?_; rotate_left 2; (focus (go_simp; first | done | rfl)); (focus ((try simp only [Kr.PT]); first | done | rfl)))
      refine Kr.seqR (by rfl) (fun K hK => ?_)
      go_simp
      go_at_call 56
      have hcr : ∀ W, Gr wr W → W.cell? ⟨br, 0, none⟩ = some (.int .i64 (r : Int)) ∧ W.frozen? ⟨br, 0, none⟩ = false := fun W g => (H.grow g).c.get 0 rfl
      have hcp : ∀ W, Gr wr W → W.cell? ⟨bp, 0, none⟩ = some (.int .i64 (p : Int)) ∧ W.frozen? ⟨bp, 0, none⟩ = false := fun W g => (H.grow g).c.get 1 rfl
      have hcf := cf_lr ⟨br, 0, none⟩ ⟨bp, 0, none⟩ (rootBad p r) v2 (comp l) (Nat.le_trans (comp_le l) HS.out) wr (HI.out.grow HGR.out) (fun q hq W g => lr1 HP2.out HPM.out HRP.out (HL.out q (mem_comp.1 hq)).1 (HL.out q (mem_comp.1 hq)).2 (fun W1 g1 => hcr W1 (g.trans g1)) (fun W1 g1 => hcp W1 (g.trans g1)))
      rw [any_comp, HBE.out] at hcf
      clear hcr hcp
      refine (hcf).mono ?_
      rintro e y6 ⟨rfl, hg⟩
      replace HGR := Lib.hid (HGR.out.trans hg)
      replace H := H.grow hg
      clear hg
      clear hcf
      (refine Kr.outS hK (a' := ?_) ?_ ?_; rotate_left; (focus ((try simp only [Kr.PT]); first | done | rfl))); clear hK K
      refine Kr.seqDoneW ?_
      have HRL : Hid (r < p) := Lib.hid (by rcases Nat.lt_or_ge r p with h | h; exact h; have h2 := HBE.out; rw [show r = p by have := HRP.out; omega, root_p HL.out] at h2; cases h2)
      obtain ⟨r1, hr1⟩ : ∃ r1, r + 1 = r1 := ⟨_, rfl⟩
      have HADD : Hid (IntKind.i64.wrap ((r : Int) + 1) = (r1 : Int)) := Lib.hid (wrap_nat (by omega) (by have h1 := HRL.out; have h2 := HPM.out; omega)); have HR1E := Lib.hid hr1; clear hr1
      go_upto_region 4 with fail
      refine Kr.seqStartW ?_
      have hk := H.c
      simp only [Kr.Cells] at hk
      (refine Kr.seqQ (v := ?_) (a' := ?_) (by rfl) ?_ ?_ ?_; rotate_left 2; (focus (go_simp; first | done | rfl)); (focus ((try simp only [Kr.PT]); first | done | rfl)))
      (refine Kr.seqQ (v := .int .i64 (r1 : Int)) (a' := ?_) (by rfl) ?_ ?_ ?_; rotate_left 1; (focus (exact Kr.valOf rfl (addI HADD.out))); (focus ((try simp only [Kr.PT]); first | done | rfl)))
      refine Kr.seqR (by rfl) (fun K hK => ?_)
      go_simp
      clear hk
      obtain ⟨y7, hy⟩ : ∃ y, y6.setCell ⟨br, 0, none⟩ (.int .i64 (r1 : Int)) = y := ⟨_, rfl⟩
      replace HGR : Hid (Gr W1 y7) := Lib.hid (hy ▸ HGR.out.setCell (p := ⟨br, 0, none⟩) LHGR_r.out _)
      rw [hy]
      replace H := H.store 0 hy rfl rfl
      dsimp only [List.set] at H
      clear hy
      (refine Kr.outS hK (a' := ?_) ?_ ?_; rotate_left; (focus ((try simp only [Kr.PT]); first | done | rfl))); clear hK K
      refine Kr.seqDoneW ?_
      go_wp2
      go_roundg (p - (r + 1))
      case measure => have h1 := HRL.out; have h2 := HK.out; omega
      case rel => exact ⟨r1, by rw [HR1E.out]; exact Nat.le_refl _, by have := HR1E.out; omega, by have := HR1E.out; have := HRL.out; omega, Lib.hid (fun s h1 h2 => by rcases Nat.lt_succ_iff_lt_or_eq.1 (show s < r + 1 by rw [HR1E.out]; exact h2) with h | h; exact HB.out s h1 h; rw [h]; exact HBE.out), HGR, Lib.hid H⟩
end Go.Proofs.YtfompolklkehpaaDoor.Pr


/- factorsBefore and Root. -/
namespace Go.Proofs.YtfompolklkehpaaDoor.Pr
open Go.RowKit Go.Shelf Go.Proofs.YtfompolklkehpaaDoor.Nm Go.Proofs.YtfompolklkehpaaDoor.Ne Go.Proofs.YtfompolklkehpaaDoor.Nf Go.Proofs.YtfompolklkehpaaDoor.Nk Go.Proofs.YtfompolklkehpaaDoor.Nv Go.Proofs.YtfompolklkehpaaDoor.Nr2 Go.Proofs.YtfompolklkehpaaDoor.Mo Go.Proofs.YtfompolklkehpaaDoor.Mr Go.Proofs.YtfompolklkehpaaDoor.Kr

/-- The product of a list. -/
def lp : List Nat → Nat
  | [] => 1
  | x :: r => x * lp r
theorem lp_append : ∀ (l r : List Nat), lp (l ++ r) = lp l * lp r
  | [], r => (Nat.one_mul _).symm
  | x :: l, r => by
    show x * lp (l ++ r) = x * lp l * lp r
    rw [lp_append l r, Nat.mul_assoc]
theorem lp_dvd : ∀ {l : List Nat} {q : Nat}, q ∈ l → q ∣ lp l
  | x :: r, q, h => by
    rcases List.mem_cons.1 h with h | h
    · subst h; exact Nat.dvd_mul_right _ _
    · exact Nat.dvd_trans (lp_dvd h) (Nat.dvd_mul_left _ _)
theorem lp_len : ∀ {l : List Nat}, (∀ q ∈ l, 2 ≤ q) → 2 ^ l.length ≤ lp l
  | [], _ => Nat.le_refl _
  | x :: r, h => by
    have h1 := lp_len (l := r) (fun q hq => h q (List.mem_cons_of_mem _ hq))
    have h2 := h x (List.mem_cons_self ..)
    show 2 ^ (r.length + 1) ≤ x * lp r
    rw [Nat.pow_succ, Nat.mul_comm]
    exact Nat.mul_le_mul h2 h1
theorem strip_math {d : Nat} (hd : 2 ≤ d) : ∀ (z : Nat), 0 < z → lp (strip d z).1 * (strip d z).2 = z ∧ (∀ q ∈ (strip d z).1, q = d) ∧ 0 < (strip d z).2 := by
  intro z
  induction z using Nat.strongRecOn with
  | ind z ih =>
    intro hz
    by_cases h : z % d = 0
    · rw [strip_yes hd hz h]
      have h0 : 0 < z / d := Nat.div_pos (Nat.le_of_dvd hz (Nat.dvd_of_mod_eq_zero h)) (by omega)
      obtain ⟨h1, h2, h3⟩ := ih (z / d) (Nat.div_lt_self hz (by omega)) h0
      refine ⟨?_, fun q hq => ?_, h3⟩
      · show d * lp (strip d (z / d)).1 * (strip d (z / d)).2 = z
        rw [Nat.mul_assoc, h1]
        exact Nat.mul_div_cancel' (Nat.dvd_of_mod_eq_zero h)
      · rcases List.mem_cons.1 hq with e | e
        · exact e
        · exact h2 q e
    · rw [strip_no h]
      exact ⟨Nat.one_mul _, (fun q hq => by cases hq), hz⟩
theorem fac_math : ∀ (k d z : Nat), 1048577 - d ≤ k → 2 ≤ d → 0 < z → lp (fac d z).1 * (fac d z).2 = z ∧ (∀ q ∈ (fac d z).1, d ≤ q) ∧ 0 < (fac d z).2 := by
  intro k
  induction k with
  | zero =>
    intro d z hk hd hz
    rw [fac_no (by omega)]
    exact ⟨Nat.one_mul _, (fun q hq => by cases hq), hz⟩
  | succ k ih =>
    intro d z hk hd hz
    by_cases h : d ≤ 1048576 ∧ d * d ≤ z
    · rw [fac_yes h.1 h.2]
      obtain ⟨h1, h2, h3⟩ := strip_math hd z hz
      obtain ⟨h4, h5, h6⟩ := ih (d + 1) (strip d z).2 (by omega) (by omega) h3
      refine ⟨?_, fun q hq => ?_, h6⟩
      · show lp ((strip d z).1 ++ (fac (d + 1) (strip d z).2).1) * (fac (d + 1) (strip d z).2).2 = z
        rw [lp_append, Nat.mul_assoc, h4, h1]
      · rcases List.mem_append.1 hq with e | e
        · exact Nat.le_of_eq (h2 q e).symm
        · exact Nat.le_of_succ_le (h5 q e)
    · rw [fac_no h]
      exact ⟨Nat.one_mul _, (fun q hq => by cases hq), hz⟩
theorem isP_two {n : Nat} (h : isP n = true) : 2 ≤ n := by
  rcases Nat.lt_or_ge n 2 with h1 | h1
  · unfold isP at h
    rw [if_pos h1] at h; cases h
  · exact h1
theorem facs_math {n : Nat} {l : List Nat} (hn : 0 < n) (h : facs n = some l) : lp l = n ∧ ∀ q ∈ l, 2 ≤ q := by
  obtain ⟨h1, h2, h3⟩ := fac_math 1048575 2 n (by decide) (Nat.le_refl _) hn
  unfold facs at h
  by_cases e : (fac 2 n).2 = 1
  · rw [if_pos e] at h
    cases h
    rw [e, Nat.mul_one] at h1
    exact ⟨h1, h2⟩
  · rw [if_neg e] at h
    by_cases e2 : isP (fac 2 n).2 = true
    · rw [if_pos e2] at h
      cases h
      refine ⟨?_, fun q hq => ?_⟩
      · rw [lp_append]
        show _ * (_ * 1) = n
        rw [Nat.mul_one, h1]
      · rcases List.mem_append.1 hq with hq | hq
        · exact h2 q hq
        · rw [List.mem_singleton.1 hq]; exact isP_two e2
    · rw [if_neg e2] at h; cases h
theorem facs_le {n : Nat} {l : List Nat} (hn : 0 < n) (h : facs n = some l) : ∀ q ∈ l, 0 < q ∧ q ≤ n := by
  intro q hq
  obtain ⟨h1, h2⟩ := facs_math hn h
  exact ⟨Nat.lt_of_lt_of_le (by decide) (h2 q hq), Nat.le_of_dvd hn (h1 ▸ lp_dvd hq)⟩
theorem facs_len {n : Nat} {l : List Nat} (hn : 0 < n) (hs : n < 2305843009213693952) (h : facs n = some l) : l.length ≤ 1048576 := by
  obtain ⟨h1, h2⟩ := facs_math hn h
  have h3 := lp_len h2
  rw [h1] at h3
  have := len64 (k := l.length) (z := 1) (N := n) (by omega) (by decide) hs
  omega
/-- What Root hands back. -/
def RootOut (p : Nat) (w : World) (e : Ending) (w' : World) : Prop :=
  Gr w w' ∧ ((∃ l r, facs (p - 1) = some l ∧ IsRoot p l r ∧ r ≤ p ∧ e = .returned (.tuple #[.int .i64 ((r : Nat) : Int), .int .i64 0])) ∨ (facs (p - 1) = none ∧ e = .returned (.tuple #[.int .i64 0, .int .i64 9])))
set_option linter.unusedSimpArgs false in
set_option maxRecDepth 100000 in
set_option maxHeartbeats 16000000 in
theorem before_big {n : Int} {w : World} (h : 2305843009213693952 ≤ n) :
    Calls Tryd.prog 33 #[.int .i64 n] w fun r w' => r = .returned (.tuple #[.slice none 0 0, .int .i64 1]) ∧ Gr w w' := by
  have HG : Hid (decide (2305843009213693952 ≤ n) = true) := Lib.hid (decide_eq_true h); clear h
  have H := Sta.start w
  go_enter Tryd.func33, Tryd.ntmps33
  go_upto_region 0 with fail
  refine Kr.seqStartW ?_
  iterate 2 (refine Kr.seqQ (v := ?_) (a' := ?_) (by rfl) ?_ ?_ ?_; rotate_left 2; (focus (go_simp; first | done | rfl)); (focus ((try simp only [Kr.PT]); first | done | rfl)))
  refine Kr.seqDoneW ?_
  go_upto_region 1 with fail
  refine Kr.seqStartW ?_
  (refine Kr.seqQ (v := ?_) (a' := ?_) (by rfl) ?_ ?_ ?_; rotate_left 2; (focus (go_simp; first | done | rfl)); (focus ((try simp only [Kr.PT]); first | done | rfl)))
  (refine Kr.seqQ (v := .bool true) (a' := ?_) (by rfl) ?_ ?_ ?_; rotate_left 1; (focus (exact Kr.valOf rfl (geqI HG.out))); (focus ((try simp only [Kr.PT]); first | done | rfl)))
  (refine Kr.seqQ (v := ?_) (a' := ?_) (by rfl) ?_ ?_ ?_; rotate_left 2; (focus (go_simp; first | done | rfl)); (focus ((try simp only [Kr.PT]); first | done | rfl)))
  (refine Kr.seqSkipQ (a' := ?_) (by rfl) ?_ ?_; rotate_left; (focus ((try simp only [Kr.PT]); first | done | rfl)))
  (refine Kr.seqSkipQ (a' := ?_) (by rfl) ?_ ?_; rotate_left; (focus ((try simp only [Kr.PT]); first | done | rfl)))
  (refine Kr.seqSkipQ (a' := ?_) (by rfl) ?_ ?_; rotate_left; (focus ((try simp only [Kr.PT]); first | done | rfl)))
  (refine Kr.seqQ (v := ?_) (a' := ?_) (by rfl) ?_ ?_ ?_; rotate_left 2; (focus (go_simp; first | done | rfl)); (focus ((try simp only [Kr.PT]); first | done | rfl)))
  refine Kr.seqDoneW ?_
  go_upto_region 2 with fail
  refine Kr.seqStartW ?_
  iterate 2 (refine Kr.seqQ (v := ?_) (a' := ?_) (by rfl) ?_ ?_ ?_; rotate_left 2; (focus (go_simp; first | done | rfl)); (focus ((try simp only [Kr.PT]); first | done | rfl)))
  refine Kr.seqDoneW ?_
  have hk : True := trivial
  go_wp2
  refine bodyPost_ret (v := .tuple #[.slice none 0 0, .int .i64 1]) (by simp [results, Tryd.results33, go_sem, hk]) rfl ⟨rfl, H.g⟩
set_option linter.unusedSimpArgs false in
set_option maxRecDepth 100000 in
set_option maxHeartbeats 16000000 in
theorem before_no {n : Int} {w : World} (h : n < 2305843009213693952) (hi : ∀ W, Gr w W → Calls Tryd.prog 12 #[.int .i64 n] W fun r w' => r = .returned (.bool false) ∧ Gr W w') :
    Calls Tryd.prog 33 #[.int .i64 n] w fun r w' => r = .returned (.tuple #[.slice none 0 0, .int .i64 1]) ∧ Gr w w' := by
  have HI := Lib.hid hi; have HG : Hid (decide (2305843009213693952 ≤ n) = false) := Lib.hid (decide_eq_false (by omega)); clear h hi
  have H := Sta.start w
  go_enter Tryd.func33, Tryd.ntmps33
  go_upto_region 0 with fail
  refine Kr.seqStartW ?_
  iterate 2 (refine Kr.seqQ (v := ?_) (a' := ?_) (by rfl) ?_ ?_ ?_; rotate_left 2; (focus (go_simp; first | done | rfl)); (focus ((try simp only [Kr.PT]); first | done | rfl)))
  refine Kr.seqDoneW ?_
  go_upto_region 1 with fail
  refine Kr.seqStartW ?_
  (refine Kr.seqQ (v := ?_) (a' := ?_) (by rfl) ?_ ?_ ?_; rotate_left 2; (focus (go_simp; first | done | rfl)); (focus ((try simp only [Kr.PT]); first | done | rfl)))
  (refine Kr.seqQ (v := .bool false) (a' := ?_) (by rfl) ?_ ?_ ?_; rotate_left 1; (focus (exact Kr.valOf rfl (geqI HG.out))); (focus ((try simp only [Kr.PT]); first | done | rfl)))
  iterate 2 (refine Kr.seqQ (v := ?_) (a' := ?_) (by rfl) ?_ ?_ ?_; rotate_left 2; (focus (go_simp; first | done | rfl)); (focus ((try simp only [Kr.PT]); first | done | rfl)))
  refine Kr.seqR (by rfl) (fun K hK => ?_)
  go_simp
  go_at_call 12
  refine (HI.out _ H.g).mono ?_
  rintro e y1 ⟨rfl, hg⟩
  replace H := H.grow hg
  clear hg
  (refine Kr.outS hK (a' := ?_) ?_ ?_; rotate_left; (focus ((try simp only [Kr.PT]); first | done | rfl))); clear hK K
  iterate 2 (refine Kr.seqQ (v := ?_) (a' := ?_) (by rfl) ?_ ?_ ?_; rotate_left 2; (focus (go_simp; first | done | rfl)); (focus ((try simp only [Kr.PT]); first | done | rfl)))
  refine Kr.seqDoneW ?_
  go_upto_region 2 with fail
  refine Kr.seqStartW ?_
  iterate 2 (refine Kr.seqQ (v := ?_) (a' := ?_) (by rfl) ?_ ?_ ?_; rotate_left 2; (focus (go_simp; first | done | rfl)); (focus ((try simp only [Kr.PT]); first | done | rfl)))
  refine Kr.seqDoneW ?_
  have hk : True := trivial
  go_wp2
  refine bodyPost_ret (v := .tuple #[.slice none 0 0, .int .i64 1]) (by simp [results, Tryd.results33, go_sem, hk]) rfl ⟨rfl, H.g⟩
theorem RowI_base {B C : Nat} {v : Value} {l : List Nat} {W : World} (h : RowI B v l W) (hc : C ≤ B) : RowI C v l W := by
  refine ⟨h.1, ?_⟩
  rcases h.2 with h0 | ⟨g, cap, cur, h1, h2, h3⟩
  · exact .inl h0
  · exact .inr ⟨g, cap, cur, h1, Nat.le_trans hc h2, h3⟩
theorem fac_out {w W w' : World} {e : Ending} {n : Nat} (h : (∃ l v, facs n = some l ∧ e = .returned (.tuple #[v, .int .i64 0]) ∧ RowI W.heap.size v l w') ∨ (facs n = none ∧ e = .returned (.tuple #[.slice none 0 0, .int .i64 9]))) (hB : W.heap.size ≥ w.heap.size) (g : Gr w w') :
    ∃ (v : Value) (k : Int), e = .returned (.tuple #[v, .int .i64 k]) ∧ FacOut (.int .i64 0) (.int .i64 9) n w (.returned (.tuple #[v, .int .i64 k])) w' := by
  rcases h with ⟨l, v, h1, rfl, h2⟩ | ⟨h1, rfl⟩
  · exact ⟨v, 0, rfl, g, .inl ⟨l, v, h1, rfl, RowI_base h2 hB⟩⟩
  · exact ⟨_, 9, rfl, g, .inr ⟨h1, rfl⟩⟩
set_option linter.unusedSimpArgs false in
set_option maxRecDepth 100000 in
set_option maxHeartbeats 16000000 in
theorem before_v {p : Nat} {w : World} (hT : Wb.Tab w ∧ Bas w) (hp : isP p = true) (hpm : p < 2305843009213693952) :
    Calls Tryd.prog 33 #[.int .i64 (p : Int)] w (FacOut (.int .i64 0) (.int .i64 9) (p - 1) w) := by
  have HT := Lib.hid hT; have HP2 := Lib.hid (isP_two hp); have HP := Lib.hid hp; have HPM := Lib.hid hpm; clear hT hp hpm
  have HG : Hid (decide ((2305843009213693952 : Int) ≤ (p : Int)) = false) := Lib.hid (decide_eq_false (by have := HPM.out; omega))
  obtain ⟨a, ha⟩ : ∃ a, p - 1 = a := ⟨_, rfl⟩
  rw [ha]
  have HSUB : Hid (IntKind.i64.wrap ((p : Int) - 1) = (a : Int)) := Lib.hid (wrap_nat (by have := HP2.out; omega) (by have := HPM.out; omega)); have HA1 : Hid (0 < a) := Lib.hid (by have := HP2.out; omega); have HAM : Hid (a < 2305843009213693952) := Lib.hid (by have := HPM.out; omega); clear ha
  have H := Sta.start w
  go_enter Tryd.func33, Tryd.ntmps33
  go_upto_region 0 with fail
  refine Kr.seqStartW ?_
  iterate 2 (refine Kr.seqQ (v := ?_) (a' := ?_) (by rfl) ?_ ?_ ?_; rotate_left 2; (focus (go_simp; first | done | rfl)); (focus ((try simp only [Kr.PT]); first | done | rfl)))
  refine Kr.seqDoneW ?_
  go_upto_region 1 with fail
  refine Kr.seqStartW ?_
  (refine Kr.seqQ (v := ?_) (a' := ?_) (by rfl) ?_ ?_ ?_; rotate_left 2; (focus (go_simp; first | done | rfl)); (focus ((try simp only [Kr.PT]); first | done | rfl)))
  (refine Kr.seqQ (v := .bool false) (a' := ?_) (by rfl) ?_ ?_ ?_; rotate_left 1; (focus (exact Kr.valOf rfl (geqI HG.out))); (focus ((try simp only [Kr.PT]); first | done | rfl)))
  iterate 2 (refine Kr.seqQ (v := ?_) (a' := ?_) (by rfl) ?_ ?_ ?_; rotate_left 2; (focus (go_simp; first | done | rfl)); (focus ((try simp only [Kr.PT]); first | done | rfl)))
  refine Kr.seqR (by rfl) (fun K hK => ?_)
  go_simp
  go_at_call 12
  have hP := Is_v (n := p) (w := w) ⟨Tab_grow HT.out.1 H.g, Bas_grow HT.out.2 H.g⟩ (by have := HPM.out; omega)
  rw [HP.out] at hP
  refine (hP).mono ?_
  rintro e y1 ⟨rfl, hg⟩
  replace H := H.grow hg
  clear hg
  clear hP
  (refine Kr.outS hK (a' := ?_) ?_ ?_; rotate_left; (focus ((try simp only [Kr.PT]); first | done | rfl))); clear hK K
  iterate 2 (refine Kr.seqQ (v := ?_) (a' := ?_) (by rfl) ?_ ?_ ?_; rotate_left 2; (focus (go_simp; first | done | rfl)); (focus ((try simp only [Kr.PT]); first | done | rfl)))
  refine Kr.seqDoneW ?_
  go_upto_region 3 with fail
  refine Kr.seqStartW ?_
  (refine Kr.seqQ (v := ?_) (a' := ?_) (by rfl) ?_ ?_ ?_; rotate_left 2; (focus (go_simp; first | done | rfl)); (focus ((try simp only [Kr.PT]); first | done | rfl)))
  (refine Kr.seqQ (v := .int .i64 (a : Int)) (a' := ?_) (by rfl) ?_ ?_ ?_; rotate_left 1; (focus (exact Kr.valOf rfl (subI HSUB.out))); (focus ((try simp only [Kr.PT]); first | done | rfl)))
  refine Kr.seqR (by rfl) (fun K hK => ?_)
  go_simp
  go_at_call 15
  refine (Factors_v ⟨Tab_grow HT.out.1 H.g, Bas_grow HT.out.2 H.g⟩ HA1.out HAM.out).mono ?_
  rintro e y9 ⟨hg, hF⟩
  have hB : y1.heap.size ≥ w.heap.size := H.g.le
  replace H := H.grow hg
  have hF2 : ∃ (v : Value) (k : Int), e = .returned (.tuple #[v, .int .i64 k]) ∧ FacOut (.int .i64 0) (.int .i64 9) a w (.returned (.tuple #[v, .int .i64 k])) y9 := fac_out hF hB H.g
  clear hF hg hB
  obtain ⟨v, k, rfl, hF3⟩ := hF2
  have HF := Lib.hid hF3; clear hF3
  (refine Kr.outS hK (a' := ?_) ?_ ?_; rotate_left; (focus ((try simp only [Kr.PT]); first | done | rfl))); clear hK K
  iterate 4 (refine Kr.seqQ (v := ?_) (a' := ?_) (by rfl) ?_ ?_ ?_; rotate_left 2; (focus (go_simp; first | done | rfl)); (focus ((try simp only [Kr.PT]); first | done | rfl)))
  refine Kr.seqDoneW ?_
  have hk : True := trivial
  go_wp2
  refine bodyPost_ret (v := .tuple #[v, .int .i64 k]) (by simp [results, Tryd.results33, go_sem, hk]) rfl HF.out
set_option linter.unusedSimpArgs false in
set_option maxRecDepth 100000 in
set_option maxHeartbeats 16000000 in
theorem Root_no {n : Int} {w : World} (hi : ∀ W, Gr w W → Calls Tryd.prog 33 #[.int .i64 n] W fun r w' => r = .returned (.tuple #[.slice none 0 0, .int .i64 1]) ∧ Gr W w') :
    Calls Tryd.prog 18 #[.int .i64 n] w fun r w' => r = .returned (.tuple #[.int .i64 0, .int .i64 1]) ∧ Gr w w' := by
  have HI := Lib.hid hi; clear hi
  have H := Sta.start w
  go_enter Tryd.func18, Tryd.ntmps18
  go_upto_region 0 with fail
  refine Kr.seqStartW ?_
  iterate 2 (refine Kr.seqQ (v := ?_) (a' := ?_) (by rfl) ?_ ?_ ?_; rotate_left 2; (focus (go_simp; first | done | rfl)); (focus ((try simp only [Kr.PT]); first | done | rfl)))
  refine Kr.seqDoneW ?_
  go_upto_region 1 with fail
  refine Kr.seqStartW ?_
  (refine Kr.seqQ (v := ?_) (a' := ?_) (by rfl) ?_ ?_ ?_; rotate_left 2; (focus (go_simp; first | done | rfl)); (focus ((try simp only [Kr.PT]); first | done | rfl)))
  refine Kr.seqR (by rfl) (fun K hK => ?_)
  go_simp
  go_at_call 33
  refine (HI.out _ H.g).mono ?_
  rintro e y1 ⟨rfl, hg⟩
  replace H := H.grow hg
  clear hg
  (refine Kr.outS hK (a' := ?_) ?_ ?_; rotate_left; (focus ((try simp only [Kr.PT]); first | done | rfl))); clear hK K
  iterate 5 (refine Kr.seqQ (v := ?_) (a' := ?_) (by rfl) ?_ ?_ ?_; rotate_left 2; (focus (go_simp; first | done | rfl)); (focus ((try simp only [Kr.PT]); first | done | rfl)))
  refine Kr.seqDoneW ?_
  go_upto_region 2 with fail
  refine Kr.seqStartW ?_
  iterate 2 (refine Kr.seqQ (v := ?_) (a' := ?_) (by rfl) ?_ ?_ ?_; rotate_left 2; (focus (go_simp; first | done | rfl)); (focus ((try simp only [Kr.PT]); first | done | rfl)))
  refine Kr.seqDoneW ?_
  go_upto_region 3 with fail
  refine Kr.seqStartW ?_
  iterate 3 (refine Kr.seqQ (v := ?_) (a' := ?_) (by rfl) ?_ ?_ ?_; rotate_left 2; (focus (go_simp; first | done | rfl)); (focus ((try simp only [Kr.PT]); first | done | rfl)))
  refine Kr.seqDoneW ?_
  have hk : True := trivial
  go_wp2
  refine bodyPost_ret (v := .tuple #[.int .i64 0, .int .i64 1]) (by simp [results, Tryd.results18, go_sem, hk]) rfl ⟨rfl, H.g⟩
theorem root_out {w' : World} {B : Nat} {e : Ending} {n : Nat} (h : (∃ l v, facs n = some l ∧ e = .returned (.tuple #[v, .int .i64 0]) ∧ RowI B v l w') ∨ (facs n = none ∧ e = .returned (.tuple #[.slice none 0 0, .int .i64 9]))) :
    ∃ (v : Value) (k : Int), e = .returned (.tuple #[v, .int .i64 k]) ∧ (k = 0 ∧ (∃ l, facs n = some l ∧ IntsV v l w') ∨ k = 9 ∧ facs n = none) := by
  rcases h with ⟨l, v, h1, rfl, h2⟩ | ⟨h1, rfl⟩
  · exact ⟨v, 0, rfl, .inl ⟨rfl, l, h1, h2.ints⟩⟩
  · exact ⟨_, 9, rfl, .inr ⟨rfl, h1⟩⟩
set_option linter.unusedSimpArgs false in
set_option maxRecDepth 100000 in
set_option maxHeartbeats 16000000 in
theorem Root_v {p : Nat} {w : World} (hT : Wb.Tab w ∧ Bas w) (hp : isP p = true) (hpm : p < 2305843009213693952) :
    Calls Tryd.prog 18 #[.int .i64 (p : Int)] w (RootOut p w) := by
  have HT := Lib.hid hT; have HP2 := Lib.hid (isP_two hp); have HP := Lib.hid hp; have HPM := Lib.hid hpm; clear hT hp hpm
  have H := Sta.start w
  go_enter Tryd.func18, Tryd.ntmps18
  go_upto_region 0 with fail
  refine Kr.seqStartW ?_
  iterate 2 (refine Kr.seqQ (v := ?_) (a' := ?_) (by rfl) ?_ ?_ ?_; rotate_left 2; (focus (go_simp; first | done | rfl)); (focus ((try simp only [Kr.PT]); first | done | rfl)))
  refine Kr.seqDoneW ?_
  go_upto_region 1 with fail
  refine Kr.seqStartW ?_
  (refine Kr.seqQ (v := ?_) (a' := ?_) (by rfl) ?_ ?_ ?_; rotate_left 2; (focus (go_simp; first | done | rfl)); (focus ((try simp only [Kr.PT]); first | done | rfl)))
  refine Kr.seqR (by rfl) (fun K hK => ?_)
  go_simp
  go_at_call 33
  refine (before_v ⟨Tab_grow HT.out.1 H.g, Bas_grow HT.out.2 H.g⟩ HP.out HPM.out).mono ?_
  rintro e y9 ⟨hg, hF⟩
  replace H := H.grow hg
  clear hg
  have hF2 : ∃ (v : Value) (k : Int), e = .returned (.tuple #[v, .int .i64 k]) ∧ (k = 0 ∧ (∃ l, facs (p - 1) = some l ∧ IntsV v l y9) ∨ k = 9 ∧ facs (p - 1) = none) := root_out hF
  clear hF
  obtain ⟨v, k, rfl, hF3⟩ := hF2
  have HF := Lib.hid hF3; clear hF3
  (refine Kr.outS hK (a' := ?_) ?_ ?_; rotate_left; (focus ((try simp only [Kr.PT]); first | done | rfl))); clear hK K
  iterate 5 (refine Kr.seqQ (v := ?_) (a' := ?_) (by rfl) ?_ ?_ ?_; rotate_left 2; (focus (go_simp; first | done | rfl)); (focus ((try simp only [Kr.PT]); first | done | rfl)))
  refine Kr.seqDoneW ?_
  rcases HF.out with ⟨rfl, l, hl, hv⟩ | ⟨rfl, hn⟩
  · have HL := Lib.hid hl; have HV := Lib.hid hv; clear hl hv HF
    go_upto_region 2 with fail
    refine Kr.seqStartW ?_
    iterate 2 (refine Kr.seqQ (v := ?_) (a' := ?_) (by rfl) ?_ ?_ ?_; rotate_left 2; (focus (go_simp; first | done | rfl)); (focus ((try simp only [Kr.PT]); first | done | rfl)))
    refine Kr.seqDoneW ?_
    go_upto_region 4 with fail
    refine Kr.seqStartW ?_
    iterate 2 (refine Kr.seqQ (v := ?_) (a' := ?_) (by rfl) ?_ ?_ ?_; rotate_left 2; (focus (go_simp; first | done | rfl)); (focus ((try simp only [Kr.PT]); first | done | rfl)))
    refine Kr.seqR (by rfl) (fun K hK => ?_)
    go_simp
    go_at_call 34
    refine (leastRoot_v (HV.out) (facs_len (by have := HP2.out; omega) (by have := HPM.out; omega) HL.out) HP2.out HPM.out (facs_le (by have := HP2.out; omega) HL.out)).mono ?_
    rintro e y1 ⟨r, hr, hrp, rfl, hg⟩
    have HR := Lib.hid hr; have HRP := Lib.hid hrp; clear hr hrp
    replace H := H.grow hg
    clear hg
    (refine Kr.outS hK (a' := ?_) ?_ ?_; rotate_left; (focus ((try simp only [Kr.PT]); first | done | rfl))); clear hK K
    iterate 2 (refine Kr.seqQ (v := ?_) (a' := ?_) (by rfl) ?_ ?_ ?_; rotate_left 2; (focus (go_simp; first | done | rfl)); (focus ((try simp only [Kr.PT]); first | done | rfl)))
    refine Kr.seqDoneW ?_
    have hk : True := trivial
    go_wp2
    refine bodyPost_ret (v := .tuple #[.int .i64 (r : Int), .int .i64 0]) (by simp [results, Tryd.results18, go_sem, hk]) rfl ⟨H.g, .inl ⟨l, r, HL.out, HR.out, HRP.out, rfl⟩⟩
  · have HL := Lib.hid hn; clear hn HF
    go_upto_region 2 with fail
    refine Kr.seqStartW ?_
    iterate 2 (refine Kr.seqQ (v := ?_) (a' := ?_) (by rfl) ?_ ?_ ?_; rotate_left 2; (focus (go_simp; first | done | rfl)); (focus ((try simp only [Kr.PT]); first | done | rfl)))
    refine Kr.seqDoneW ?_
    go_upto_region 3 with fail
    refine Kr.seqStartW ?_
    iterate 3 (refine Kr.seqQ (v := ?_) (a' := ?_) (by rfl) ?_ ?_ ?_; rotate_left 2; (focus (go_simp; first | done | rfl)); (focus ((try simp only [Kr.PT]); first | done | rfl)))
    refine Kr.seqDoneW ?_
    have hk : True := trivial
    go_wp2
    refine bodyPost_ret (v := .tuple #[.int .i64 0, .int .i64 9]) (by simp [results, Tryd.results18, go_sem, hk]) rfl ⟨H.g, .inr ⟨HL.out, rfl⟩⟩
end Go.Proofs.YtfompolklkehpaaDoor.Pr


/- Products and powers of the reference for a residue that may be the modulus itself. -/
namespace Go.Proofs.YtfompolklkehpaaDoor.Wr
open Go.RowKit Go.Proofs.YtfompolklkehpaaDoor.Wb Go.Proofs.YtfompolklkehpaaDoor.Ww
set_option maxHeartbeats 1000000 in
theorem Mul_le (a b m : Nat) (ha : a ≤ m) (hb : b ≤ m) (h0m : 0 < m) (hm : m < 2305843009213693952) (w : World) :
    Calls Tryd.prog 53 #[.int .i64 a, .int .i64 b, .int .i64 m] w fun x w' => x = .returned (.int .i64 ((a * b % m : Nat) : Int)) ∧ w' = w := by
  by_cases hs : a < 2147483648 ∧ b < 2147483648
  · obtain ⟨h1, h2⟩ := hs
    have hp : a * b < 4611686018427387904 := by
      have : a * b ≤ a * 2147483648 := Nat.mul_le_mul_left _ (by omega)
      omega
    have e : wrap64 ((a : Int) * (b : Int)) % (m : Int) = ((a * b % m : Nat) : Int) := by
      rw [← Int.natCast_mul, IntWalk.wrap64_in _ ⟨by omega, by omega⟩, Int.natCast_emod]
    have e2 : (wrap64 ((a : Int) * (b : Int))).tmod (m : Int) = ((a * b % m : Nat) : Int) := by
      rw [← e, Int.tmod_eq_emod_of_nonneg]
      rw [← Int.natCast_mul, IntWalk.wrap64_in _ ⟨by omega, by omega⟩]; omega
    have E := Lib.hid e2
    have d1 : decide ((a : Int) < 2147483648) = true := by simp; omega
    have d2 : decide ((b : Int) < 2147483648) = true := by simp; omega
    clear e e2 hp h1 h2
    go_enter Tryd.func53, Tryd.ntmps53
    go_wp2
    go_ret
    exact ⟨ret_i E.out, rfl⟩
  · obtain ⟨A, HA⟩ : ∃ A, Hid (a * b % m = A) := ⟨_, Lib.hid rfl⟩
    have hst : (0 + a * b) % m = A := by rw [Nat.zero_add]; exact HA.out
    have Hst := Lib.hid hst
    rw [HA.out]
    clear hst HA
    have hT : (decide ((a : Int) < 2147483648) = false) ∨ (decide ((a : Int) < 2147483648) = true ∧ decide ((b : Int) < 2147483648) = false) := by
      by_cases h1 : a < 2147483648
      · exact Or.inr ⟨decide_eq_true (by omega), decide_eq_false (by omega)⟩
      · exact Or.inl (decide_eq_false (by omega))
    clear hs
    have hbb : b < 2305843009213693952 := by omega
    rcases hT with d1 | ⟨d1, d2⟩
    all_goals
      go_enter Tryd.func53, Tryd.ntmps53
      go_wp2_with fail
      go_loop [0, 1, 7] (fun s0 s1 s7 => ∃ a b o : Nat, s0 = .int .i64 a ∧ s1 = .int .i64 b ∧ s7 = .int .i64 o ∧ a ≤ m ∧ o < m ∧ b < 2305843009213693952 ∧ Hid ((o + a * b) % m = A)) (fun _ s1 _ => (intOf s1).toNat)
      case atStart => exact ⟨a, b, 0, rfl, rfl, rfl, ha, by omega, hbb, Hst⟩
      case round =>
        clear Hst hbb ha hb d1
        try clear d2
        obtain ⟨a, b, o, rfl, rfl, rfl, ha, ho, hb, HI⟩ := hrel
        by_cases h0 : b = 0
        · have HR : Hid ((o : Int) = (A : Int)) := Lib.hid (by rw [← HI.out, h0, Nat.mul_zero, Nat.add_zero, Nat.mod_eq_of_lt ho])
          have hb0 : ¬ 0 < (b : Int) := by omega
          clear h0
          go_wp2
          go_ret
          exact ⟨ret_i HR.out, rfl⟩
        · have hb0 : 0 < (b : Int) := by omega
          have hM : (a + a) % m < m := Nat.mod_lt _ (by omega)
          have E1 : Hid (((a : Int) + (a : Int)) % (m : Int) = (((a + a) % m : Nat) : Int)) := Lib.hid (by rw [Int.natCast_emod]; rfl)
          have hO : (o + a) % m < m := Nat.mod_lt _ (by omega)
          have E2 : Hid (((o : Int) + (a : Int)) % (m : Int) = (((o + a) % m : Nat) : Int)) := Lib.hid (by rw [Int.natCast_emod]; rfl)
          have E3 : Hid ((b : Int) / 2 = ((b / 2 : Nat) : Int)) := Lib.hid (by omega)
          by_cases h2 : b % 2 = 1
          · have HI2 : Hid (((o + a) % m + (a + a) % m * (b / 2)) % m = A) := Lib.hid (by rw [mul_half_odd a b m o h2]; exact HI.out)
            have hp : ((b : Int) % 2 == 1) = true := by simp; omega
            generalize (a + a) % m = M at *
            generalize (o + a) % m = O at *
            clear h2 h0 HI
            go_wp2
            go_round
            case rel => exact ⟨M, b / 2, O, by rw [E1.out], by rw [E3.out], by rw [E2.out], Nat.le_of_lt hM, hO, by omega, HI2⟩
            case measure => rw [E3.out]; simp [intOf]; omega
          · have HI2 : Hid ((o + (a + a) % m * (b / 2)) % m = A) := Lib.hid (by rw [mul_half a b m o (by omega)]; exact HI.out)
            have hp : ((b : Int) % 2 == 1) = false := by simp; omega
            generalize (a + a) % m = M at *
            clear h2 h0 HI
            go_wp2
            go_round
            case rel => exact ⟨M, b / 2, o, by rw [E1.out], by rw [E3.out], rfl, Nat.le_of_lt hM, ho, by omega, HI2⟩
            case measure => rw [E3.out]; simp [intOf]; omega

set_option maxHeartbeats 1000000 in
theorem Pow_le (a e m : Nat) (ha : a ≤ m) (h0m : 0 < m) (hm : m < 2305843009213693952) (he : e < 9223372036854775808) (w : World) :
    Calls Tryd.prog 35 #[.int .i64 a, .int .i64 e, .int .i64 m] w fun x w' => x = .returned (.int .i64 ((a ^ e % m : Nat) : Int)) ∧ w' = w := by
  obtain ⟨one, h1⟩ : ∃ one, one = 1 % m := ⟨_, rfl⟩
  have e1 : (1 : Int) % (m : Int) = (one : Int) := by rw [h1, Int.natCast_emod]; rfl
  have h1m : one < m := by rw [h1]; exact Nat.mod_lt _ (by omega)
  have hst : one * a ^ e % m = a ^ e % m := by rw [h1, Nat.mod_mul_mod, Nat.one_mul]
  obtain ⟨A, HA⟩ : ∃ A, Hid (a ^ e % m = A) := ⟨_, Lib.hid rfl⟩
  rw [HA.out] at hst
  have Hst := Lib.hid hst
  rw [HA.out]
  clear h1 hst HA
  go_enter Tryd.func35, Tryd.ntmps35
  go_wp2_with fail
  go_loop [0, 1, 7] (fun s0 s1 s7 => ∃ a e p : Nat, s0 = .int .i64 a ∧ s1 = .int .i64 e ∧ s7 = .int .i64 p ∧ a ≤ m ∧ p < m ∧ e < 9223372036854775808 ∧ Hid (p * a ^ e % m = A)) (fun _ s1 _ => (intOf s1).toNat)
  case atStart => exact ⟨a, e, one, rfl, rfl, by rw [e1], ha, h1m, he, Hst⟩
  case round =>
    clear Hst e1 h1m he ha
    obtain ⟨a, e, p, rfl, rfl, rfl, ha, hp, he, HI⟩ := hrel
    by_cases h0 : e = 0
    · have HR : Hid ((p : Int) = (A : Int)) := Lib.hid (by rw [← HI.out, h0, Nat.pow_zero, Nat.mul_one, Nat.mod_eq_of_lt hp])
      have hb0 : ¬ 0 < (e : Int) := by omega
      clear h0
      go_wp2
      go_ret
      exact ⟨ret_i HR.out, rfl⟩
    · have hb0 : 0 < (e : Int) := by omega
      have HM := Lib.hid (fun w => Mul_le a a m ha ha h0m hm w)
      have hM : a * a % m < m := Nat.mod_lt _ (by omega)
      have HP := Lib.hid (fun w => Mul_le p a m (Nat.le_of_lt hp) ha h0m hm w)
      have hP : p * a % m < m := Nat.mod_lt _ (by omega)
      have E3 : Hid ((e : Int) / 2 = ((e / 2 : Nat) : Int)) := Lib.hid (by omega)
      by_cases h2 : e % 2 = 1
      · have HI2 : Hid ((p * a % m) * (a * a % m) ^ (e / 2) % m = A) := Lib.hid (by rw [pow_odd, show 2 * (e / 2) + 1 = e by omega]; exact HI.out)
        have hpar : ((e : Int) % 2 == 1) = true := by simp; omega
        generalize a * a % m = M at *
        generalize p * a % m = P at *
        clear h2 h0 HI
        go_wp2_with fail
        refine (HP.out _).mono ?_
        rintro x w' ⟨rfl, rfl⟩
        go_wp2_with fail
        refine (HM.out _).mono ?_
        rintro x w' ⟨rfl, rfl⟩
        go_wp2
        go_round
        case rel => exact ⟨M, e / 2, P, rfl, by rw [E3.out], rfl, Nat.le_of_lt hM, hP, by omega, HI2⟩
        case measure => rw [E3.out]; simp [intOf]; omega
      · have HI2 : Hid (p * (a * a % m) ^ (e / 2) % m = A) := Lib.hid (by rw [pow_even, show 2 * (e / 2) = e by omega]; exact HI.out)
        have hpar : ((e : Int) % 2 == 1) = false := by simp; omega
        generalize a * a % m = M at *
        clear h2 h0 HI
        go_wp2_with fail
        refine (HM.out _).mono ?_
        rintro x w' ⟨rfl, rfl⟩
        go_wp2
        go_round
        case rel => exact ⟨M, e / 2, p, rfl, by rw [E3.out], rfl, Nat.le_of_lt hM, hp, by omega, HI2⟩
        case measure => rw [E3.out]; simp [intOf]; omega
end Go.Proofs.YtfompolklkehpaaDoor.Wr


/- The reference's Root. -/
namespace Go.Proofs.YtfompolklkehpaaDoor.Pr
open Go.RowKit Go.Shelf Go.Proofs.YtfompolklkehpaaDoor.Nm Go.Proofs.YtfompolklkehpaaDoor.Ne Go.Proofs.YtfompolklkehpaaDoor.Nf Go.Proofs.YtfompolklkehpaaDoor.Nk Go.Proofs.YtfompolklkehpaaDoor.Nv Go.Proofs.YtfompolklkehpaaDoor.Nr2 Go.Proofs.YtfompolklkehpaaDoor.Mo Go.Proofs.YtfompolklkehpaaDoor.Mr Go.Proofs.YtfompolklkehpaaDoor.Kr

theorem IntsV.form {v : Value} {l : List Nat} {W : World} (h : IntsV v l W) : ∃ pp c, v = .slice pp l.length c ∧ ∀ (j q : Nat), l[j]? = some q → ∃ b off, pp = some ⟨b, off, none⟩ ∧ W.cell? ⟨b, off + j, none⟩ = some (.int .i64 (q : Int)) := by
  rcases h with ⟨rfl, rfl⟩ | ⟨b, off, c, rfl, h⟩
  · exact ⟨none, 0, rfl, fun j q e => by simp at e⟩
  · exact ⟨_, c, rfl, fun j q e => ⟨b, off, rfl, h j q e⟩⟩
set_option linter.unusedSimpArgs false in
set_option maxRecDepth 100000 in
set_option maxHeartbeats 16000000 in
theorem rRoot_v {p : Nat} {l : List Nat} {v : Value} {w : World} (hv : IntsV v l w) (hs : l.length ≤ 1048576) (hp : 2 ≤ p) (hpm : p < 2305843009213693952) (hl : ∀ q ∈ l, 0 < q ∧ q ≤ p - 1) :
    Calls Tryd.prog 19 #[.int .i64 (p : Int), v] w fun e w' => ∃ r : Nat, IsRoot p l r ∧ e = .returned (.int .i64 (r : Int)) ∧ Gr w w' := by
  obtain ⟨pp, c, rfl, hrow⟩ := hv.form
  clear hv
  obtain ⟨n, hn⟩ : ∃ n, l.length = n := ⟨_, rfl⟩
  rw [hn]
  have HNL := Lib.hid hn; have hn2 : n ≤ 1048576 := hn ▸ hs; have HN2 := Lib.hid hn2; clear hn hn2 hs
  have HROW := Lib.hid hrow; have HP2 := Lib.hid hp; have HPM := Lib.hid hpm; have HL := Lib.hid hl; clear hrow hp hpm hl
  obtain ⟨a, ha⟩ : ∃ a, p - 1 = a := ⟨_, rfl⟩
  have HAP := Lib.hid ha; have HA63 : Hid (a < 9223372036854775808) := Lib.hid (by have := HPM.out; omega); have HSUB : Hid (IntKind.i64.wrap ((p : Int) - 1) = (a : Int)) := Lib.hid (wrap_nat (by have := HP2.out; omega) (by have := HPM.out; omega)); clear ha
  have H := Sta.start w
  go_enter Tryd.func19, Tryd.ntmps19
  go_upto_region 0 with fail
  refine Kr.seqStartW ?_
  (refine Kr.seqQ (v := ?_) (a' := ?_) (by rfl) ?_ ?_ ?_; rotate_left 2; (focus (go_simp; first | done | rfl)); (focus ((try simp only [Kr.PT]); first | done | rfl)))
  refine Kr.seqDoneW ?_
  go_upto_region 1 with fail
  refine Kr.seqStartW ?_
  (refine Kr.seqQ (v := ?_) (a' := ?_) (by rfl) ?_ ?_ ?_; rotate_left 2; (focus (go_simp; first | done | rfl)); (focus ((try simp only [Kr.PT]); first | done | rfl)))
  refine Kr.seqDoneW ?_
  have H2 := Lib.hid H
  clear H
  go_wp2_with fail
  go_loopw [5] (fun rv wr => ∃ r : Nat, rv = .int .i64 (r : Int) ∧ 1 ≤ r ∧ r ≤ p ∧ Hid (∀ s, 1 ≤ s → s < r → l.any (rootBad p s) = true) ∧ Hid (Sta w wr [] [])) (fun rv _ => p - (intOf rv).toNat)
  case atStart => exact ⟨1, rfl, Nat.le_refl _, by have := HP2.out; omega, Lib.hid (fun s h1 h2 => absurd h1 (by omega)), H2⟩
  case round =>
    clear H2
    obtain ⟨r, rfl, hr1, hrp, HB, HH⟩ := hrel
    have H := HH.out; have HR1 := Lib.hid hr1; have HRP := Lib.hid hrp; clear HH hr1 hrp
    go_upto_region 3 with fail
    refine Kr.seqStartW ?_
    (refine Kr.seqQ (v := ?_) (a' := ?_) (by rfl) ?_ ?_ ?_; rotate_left 2; (focus (go_simp; first | done | rfl)); (focus ((try simp only [Kr.PT]); first | done | rfl)))
    refine Kr.seqDoneW ?_
    go_upto_region 4 with fail
    refine Kr.seqStartW ?_
    (refine Kr.seqQ (v := ?_) (a' := ?_) (by rfl) ?_ ?_ ?_; rotate_left 2; (focus (go_simp; first | done | rfl)); (focus ((try simp only [Kr.PT]); first | done | rfl)))
    refine Kr.seqDoneW ?_
    have H2 := Lib.hid H
    clear H
    go_wp2_with fail
    go_loopw [6, 7] (fun ov i wr => ∃ (j : Nat) (ok : Bool), j ≤ n ∧ ov = .bool ok ∧ i = .int .i64 (j : Int) ∧ Hid ((!(l.take j).any (rootBad p r)) = ok) ∧ Hid (Sta w wr [] [])) (fun _ i _ => n - (intOf i).toNat)
    case atStart => exact ⟨0, true, Nat.zero_le _, rfl, rfl, Lib.hid (by simp), H2⟩
    case round =>
      clear H2
      obtain ⟨j, ok, hj, rfl, rfl, HO, HH⟩ := hrel
      have H := HH.out; clear HH
      by_cases hjn : j = n
      · have HC : Hid (decide ((j : Int) < (n : Int)) = false) := Lib.hid (decide_eq_false (by omega))
        have HALL : Hid ((!l.any (rootBad p r)) = ok) := Lib.hid (by have h := HO.out; rw [hjn, ← HNL.out, List.take_length] at h; exact h)
        clear hjn HO
        go_upto_region 5 with fail
        refine Kr.seqStartW ?_
        iterate 3 (refine Kr.seqQ (v := ?_) (a' := ?_) (by rfl) ?_ ?_ ?_; rotate_left 2; (focus (go_simp; first | done | rfl)); (focus ((try simp only [Kr.PT]); first | done | rfl)))
        (refine Kr.seqQ (v := .bool false) (a' := ?_) (by rfl) ?_ ?_ ?_; rotate_left 1; (focus (exact Kr.valOf rfl (lssT HC.out))); (focus ((try simp only [Kr.PT]); first | done | rfl)))
        refine Kr.seqDoneW ?_
        cases ok
        · have HRT : Hid (l.any (rootBad p r) = true) := Lib.hid (by have h := HALL.out; cases hh : l.any (rootBad p r) with | true => rfl | false => rw [hh] at h; cases h)
          have HRL : Hid (r < p) := Lib.hid (by rcases Nat.lt_or_ge r p with h | h; exact h; have h2 := HRT.out; rw [show r = p by have := HRP.out; omega, root_p HL.out] at h2; cases h2)
          go_upto_region 9 with fail
          refine Kr.seqStartW ?_
          (refine Kr.seqQ (v := ?_) (a' := ?_) (by rfl) ?_ ?_ ?_; rotate_left 2; (focus (go_simp; first | done | rfl)); (focus ((try simp only [Kr.PT]); first | done | rfl)))
          refine Kr.seqDoneW ?_
          have HADD : Hid (IntKind.i64.wrap ((r : Int) + 1) = ((r + 1 : Nat) : Int)) := Lib.hid (wrap_nat (by omega) (by have h1 := HRL.out; have h2 := HPM.out; omega))
          go_upto_region 2 with fail
          refine Kr.seqStartW ?_
          (refine Kr.seqQ (v := ?_) (a' := ?_) (by rfl) ?_ ?_ ?_; rotate_left 2; (focus (go_simp; first | done | rfl)); (focus ((try simp only [Kr.PT]); first | done | rfl)))
          (refine Kr.seqQ (v := .int .i64 ((r + 1 : Nat) : Int)) (a' := ?_) (by rfl) ?_ ?_ ?_; rotate_left 1; (focus (exact Kr.valOf rfl (addI HADD.out))); (focus ((try simp only [Kr.PT]); first | done | rfl)))
          (refine Kr.seqQ (v := ?_) (a' := ?_) (by rfl) ?_ ?_ ?_; rotate_left 2; (focus (go_simp; first | done | rfl)); (focus ((try simp only [Kr.PT]); first | done | rfl)))
          refine Kr.seqDoneW ?_
          go_wp2
          go_roundw
          case rel => exact ⟨r + 1, rfl, Nat.succ_pos _, HRL.out, Lib.hid (fun s h1 h2 => by rcases Nat.lt_succ_iff_lt_or_eq.1 h2 with h | h; exact HB.out s h1 h; rw [h]; exact HRT.out), Lib.hid H⟩
          case measure => simp [intOf]; have := HRL.out; omega
        · have HRT : Hid (l.any (rootBad p r) = false) := Lib.hid (by have h := HALL.out; cases hh : l.any (rootBad p r) with | false => rfl | true => rw [hh] at h; cases h)
          go_upto_region 9 with fail
          refine Kr.seqStartW ?_
          (refine Kr.seqQ (v := ?_) (a' := ?_) (by rfl) ?_ ?_ ?_; rotate_left 2; (focus (go_simp; first | done | rfl)); (focus ((try simp only [Kr.PT]); first | done | rfl)))
          refine Kr.seqDoneW ?_
          go_upto_region 10 with fail
          refine Kr.seqStartW ?_
          iterate 2 (refine Kr.seqQ (v := ?_) (a' := ?_) (by rfl) ?_ ?_ ?_; rotate_left 2; (focus (go_simp; first | done | rfl)); (focus ((try simp only [Kr.PT]); first | done | rfl)))
          refine Kr.seqDoneW ?_
          have HX : Hid (IsRoot p l r) := Lib.hid ⟨HR1.out, HRT.out, HB.out⟩
          have hk : True := trivial
          go_wp2
          refine bodyPost_ret (v := .int .i64 (r : Int)) (by simp [results, Tryd.results19, go_sem, hk]) rfl ⟨r, HX.out, rfl, H.g⟩
      · have HJ : Hid (j < n) := Lib.hid (by omega)
        have HC : Hid (decide ((j : Int) < (n : Int)) = true) := Lib.hid (decide_eq_true (by omega))
        clear hjn
        have hjl : j < l.length := by rw [HNL.out]; exact HJ.out
        obtain ⟨q, hq⟩ : ∃ q, l[j]? = some q := ⟨_, List.getElem?_eq_getElem hjl⟩
        obtain ⟨b, off, hpp, hc⟩ := HROW.out j q hq
        subst hpp
        have HC0 := Lib.hid hc
        have HQ0 := Lib.hid (HL.out q (List.mem_of_getElem? hq)).1; have HQL := Lib.hid (HL.out q (List.mem_of_getElem? hq)).2
        have HTK : Hid ((l.take (j + 1)).any (rootBad p r) = ((l.take j).any (rootBad p r) || rootBad p r q)) := Lib.hid (by rw [List.take_add_one, hq]; simp)
        obtain ⟨e, he⟩ : ∃ e, a / q = e := ⟨_, rfl⟩
        have HE := Lib.hid he; have HE0 : Hid (0 < e) := Lib.hid (he ▸ HAP.out ▸ exp_pos HQ0.out HQL.out); have HE63 : Hid (e < 9223372036854775808) := Lib.hid (Nat.lt_of_le_of_lt (he ▸ Nat.div_le_self _ _) HA63.out)
        obtain ⟨z, hz⟩ : ∃ z, r ^ e % p = z := ⟨_, rfl⟩
        obtain ⟨t, ht⟩ : ∃ t, rootBad p r q = t := ⟨_, rfl⟩
        have HZB : Hid (decide ((z : Int) = 1) = t) := Lib.hid (by rw [← ht]; unfold rootBad; rw [HAP.out, he, hz, Bool.eq_iff_iff]; simp; omega)
        have HZ := Lib.hid hz; rw [ht] at HTK; clear he hz ht hq hjl hc
        go_upto_region 5 with fail
        refine Kr.seqStartW ?_
        iterate 3 (refine Kr.seqQ (v := ?_) (a' := ?_) (by rfl) ?_ ?_ ?_; rotate_left 2; (focus (go_simp; first | done | rfl)); (focus ((try simp only [Kr.PT]); first | done | rfl)))
        (refine Kr.seqQ (v := .bool true) (a' := ?_) (by rfl) ?_ ?_ ?_; rotate_left 1; (focus (exact Kr.valOf rfl (lssT HC.out))); (focus ((try simp only [Kr.PT]); first | done | rfl)))
        refine Kr.seqDoneW ?_
        have hk_row := H.g.cell HC0.out
        have hj1 : j < n := HJ.out; have hj2 : (j : Int) < (n : Int) := by omega
        cases t
        · go_upto_region 7 with fail
          refine Kr.seqStartW ?_
          iterate 2 (refine Kr.seqQ (v := ?_) (a' := ?_) (by rfl) ?_ ?_ ?_; rotate_left 2; (focus (go_simp; first | done | rfl)); (focus ((try simp only [Kr.PT]); first | done | rfl)))
          (refine Kr.seqQ (v := .int .i64 (a : Int)) (a' := ?_) (by rfl) ?_ ?_ ?_; rotate_left 1; (focus (exact Kr.valOf rfl (subI HSUB.out))); (focus ((try simp only [Kr.PT]); first | done | rfl)))
          iterate 3 (refine Kr.seqQ (v := ?_) (a' := ?_) (by rfl) ?_ ?_ ?_; rotate_left 2; (focus (go_simp; first | done | rfl)); (focus ((try simp only [Kr.PT]); first | done | rfl)))
          (refine Kr.seqQ (v := ?_) (a' := ?_) (by rfl) ?_ ?_ ?_; rotate_left 2; (focus (go_simp; first | done | rfl)); (focus ((try simp only [Kr.PT]); first | done | rfl)))
          (refine Kr.seqQ (v := .int .i64 (e : Int)) (a' := ?_) (by rfl) ?_ ?_ ?_; rotate_left 1; (focus (exact Kr.valOf rfl (quoI HQ0.out HE.out HA63.out))); (focus ((try simp only [Kr.PT]); first | done | rfl)))
          (refine Kr.seqQ (v := ?_) (a' := ?_) (by rfl) ?_ ?_ ?_; rotate_left 2; (focus (go_simp; first | done | rfl)); (focus ((try simp only [Kr.PT]); first | done | rfl)))
          refine Kr.seqR (by rfl) (fun K hK => ?_)
          go_simp
          go_at_call 35
          have hP := Wr.Pow_le r e p HRP.out (by have := HP2.out; omega) HPM.out HE63.out wr
          rw [HZ.out] at hP
          refine (hP).mono ?_
          rintro e w9 ⟨rfl, hw⟩
          rw [hw]
          clear hw w9
          clear hP
          (refine Kr.outS hK (a' := ?_) ?_ ?_; rotate_left; (focus ((try simp only [Kr.PT]); first | done | rfl))); clear hK K
          (refine Kr.seqQ (v := .bool false) (a' := ?_) (by rfl) ?_ ?_ ?_; rotate_left 1; (focus (exact Kr.valOf rfl (eqlI HZB.out))); (focus ((try simp only [Kr.PT]); first | done | rfl)))
          refine Kr.seqDoneW ?_
          clear hk_row hj1 hj2
          have HADD : Hid (IntKind.i64.wrap ((j : Int) + 1) = ((j + 1 : Nat) : Int)) := Lib.hid (wrap_nat (by omega) (by have h1 := HJ.out; have h2 := HN2.out; omega))
          go_upto_region 6 with fail
          refine Kr.seqStartW ?_
          (refine Kr.seqQ (v := ?_) (a' := ?_) (by rfl) ?_ ?_ ?_; rotate_left 2; (focus (go_simp; first | done | rfl)); (focus ((try simp only [Kr.PT]); first | done | rfl)))
          (refine Kr.seqQ (v := .int .i64 ((j + 1 : Nat) : Int)) (a' := ?_) (by rfl) ?_ ?_ ?_; rotate_left 1; (focus (exact Kr.valOf rfl (addI HADD.out))); (focus ((try simp only [Kr.PT]); first | done | rfl)))
          (refine Kr.seqQ (v := ?_) (a' := ?_) (by rfl) ?_ ?_ ?_; rotate_left 2; (focus (go_simp; first | done | rfl)); (focus ((try simp only [Kr.PT]); first | done | rfl)))
          refine Kr.seqDoneW ?_
          go_wp2
          go_roundw
          case rel => exact ⟨j + 1, ok, HJ.out, rfl, rfl, Lib.hid (by rw [HTK.out, Bool.or_false]; exact HO.out), Lib.hid H⟩
          case measure => simp [intOf]; have := HJ.out; omega
        · go_upto_region 7 with fail
          refine Kr.seqStartW ?_
          iterate 2 (refine Kr.seqQ (v := ?_) (a' := ?_) (by rfl) ?_ ?_ ?_; rotate_left 2; (focus (go_simp; first | done | rfl)); (focus ((try simp only [Kr.PT]); first | done | rfl)))
          (refine Kr.seqQ (v := .int .i64 (a : Int)) (a' := ?_) (by rfl) ?_ ?_ ?_; rotate_left 1; (focus (exact Kr.valOf rfl (subI HSUB.out))); (focus ((try simp only [Kr.PT]); first | done | rfl)))
          iterate 3 (refine Kr.seqQ (v := ?_) (a' := ?_) (by rfl) ?_ ?_ ?_; rotate_left 2; (focus (go_simp; first | done | rfl)); (focus ((try simp only [Kr.PT]); first | done | rfl)))
          (refine Kr.seqQ (v := ?_) (a' := ?_) (by rfl) ?_ ?_ ?_; rotate_left 2; (focus (go_simp; first | done | rfl)); (focus ((try simp only [Kr.PT]); first | done | rfl)))
          (refine Kr.seqQ (v := .int .i64 (e : Int)) (a' := ?_) (by rfl) ?_ ?_ ?_; rotate_left 1; (focus (exact Kr.valOf rfl (quoI HQ0.out HE.out HA63.out))); (focus ((try simp only [Kr.PT]); first | done | rfl)))
          (refine Kr.seqQ (v := ?_) (a' := ?_) (by rfl) ?_ ?_ ?_; rotate_left 2; (focus (go_simp; first | done | rfl)); (focus ((try simp only [Kr.PT]); first | done | rfl)))
          refine Kr.seqR (by rfl) (fun K hK => ?_)
          go_simp
          go_at_call 35
          have hP := Wr.Pow_le r e p HRP.out (by have := HP2.out; omega) HPM.out HE63.out wr
          rw [HZ.out] at hP
          refine (hP).mono ?_
          rintro e w9 ⟨rfl, hw⟩
          rw [hw]
          clear hw w9
          clear hP
          (refine Kr.outS hK (a' := ?_) ?_ ?_; rotate_left; (focus ((try simp only [Kr.PT]); first | done | rfl))); clear hK K
          (refine Kr.seqQ (v := .bool true) (a' := ?_) (by rfl) ?_ ?_ ?_; rotate_left 1; (focus (exact Kr.valOf rfl (eqlI HZB.out))); (focus ((try simp only [Kr.PT]); first | done | rfl)))
          refine Kr.seqDoneW ?_
          clear hk_row hj1 hj2
          go_upto_region 8 with fail
          refine Kr.seqStartW ?_
          (refine Kr.seqQ (v := ?_) (a' := ?_) (by rfl) ?_ ?_ ?_; rotate_left 2; (focus (go_simp; first | done | rfl)); (focus ((try simp only [Kr.PT]); first | done | rfl)))
          refine Kr.seqDoneW ?_
          have HADD : Hid (IntKind.i64.wrap ((j : Int) + 1) = ((j + 1 : Nat) : Int)) := Lib.hid (wrap_nat (by omega) (by have h1 := HJ.out; have h2 := HN2.out; omega))
          go_upto_region 6 with fail
          refine Kr.seqStartW ?_
          (refine Kr.seqQ (v := ?_) (a' := ?_) (by rfl) ?_ ?_ ?_; rotate_left 2; (focus (go_simp; first | done | rfl)); (focus ((try simp only [Kr.PT]); first | done | rfl)))
          (refine Kr.seqQ (v := .int .i64 ((j + 1 : Nat) : Int)) (a' := ?_) (by rfl) ?_ ?_ ?_; rotate_left 1; (focus (exact Kr.valOf rfl (addI HADD.out))); (focus ((try simp only [Kr.PT]); first | done | rfl)))
          (refine Kr.seqQ (v := ?_) (a' := ?_) (by rfl) ?_ ?_ ?_; rotate_left 2; (focus (go_simp; first | done | rfl)); (focus ((try simp only [Kr.PT]); first | done | rfl)))
          refine Kr.seqDoneW ?_
          go_wp2
          go_roundw
          case rel => exact ⟨j + 1, false, HJ.out, rfl, rfl, Lib.hid (by rw [HTK.out, Bool.or_true]; rfl), Lib.hid H⟩
          case measure => simp [intOf]; have := HJ.out; omega
end Go.Proofs.YtfompolklkehpaaDoor.Pr


/- Certificates in memory; count. -/
namespace Go.Proofs.YtfompolklkehpaaDoor.Pr
open Go.RowKit Go.Shelf Go.Proofs.YtfompolklkehpaaDoor.Nm Go.Proofs.YtfompolklkehpaaDoor.Ne Go.Proofs.YtfompolklkehpaaDoor.Nf Go.Proofs.YtfompolklkehpaaDoor.Nk Go.Proofs.YtfompolklkehpaaDoor.Nv Go.Proofs.YtfompolklkehpaaDoor.Nr2 Go.Proofs.YtfompolklkehpaaDoor.Mo Go.Proofs.YtfompolklkehpaaDoor.Mr Go.Proofs.YtfompolklkehpaaDoor.Kr

/-- A block of three cells is made. -/
theorem Sta_alloc3 {w W y : World} {cs : List (Nat × Nat × Value)} {fs : List (World → Prop)} (H : Sta w W cs fs) {v0 v1 v2 : Value} {T b : Nat} (hy : W.alloc (.cells #[v0, v1, v2] T) = y) (hb : W.heap.size = b) (h0 : noData v0 = true) (h1 : noData v1 = true) (h2 : noData v2 = true) :
    Sta w y ((b, 0, v0) :: (b, 1, v1) :: (b, 2, v2) :: cs) fs := by
  have hg : Gr W y := by rw [← hy]; exact (Gr.refl _).alloc _
  have hc : ∀ x ∈ cs, x.1 ≠ b := fun x hx e => by
    have := cells_lt H.c x hx
    omega
  have hl : w.heap.size ≤ b := hb ▸ H.g.le
  refine ⟨H.g.trans hg, ⟨⟨by rw [← hy, ← hb]; simp [go_sem], by rw [← hy, ← hb]; simp [go_sem]⟩, ⟨by rw [← hy, ← hb]; simp [go_sem], by rw [← hy, ← hb]; simp [go_sem]⟩, ⟨by rw [← hy, ← hb]; simp [go_sem], by rw [← hy, ← hb]; simp [go_sem]⟩, H.c.grow hg⟩, ?_, ?_, fun F h => (H.k F h).grow (H.f F h) hg, H.k⟩
  · intro x hx
    rcases List.mem_cons.1 hx with rfl | hx
    · exact ⟨hl, h0⟩
    rcases List.mem_cons.1 hx with rfl | hx
    · exact ⟨hl, h1⟩
    rcases List.mem_cons.1 hx with rfl | hx
    · exact ⟨hl, h2⟩
    · exact H.low x hx
  · have hn : ∀ (o : Nat), ∀ x ∈ cs, (b, o) ≠ (x.1, x.2.1) := fun o x hx e => by
      have := hc x hx
      simp only [Prod.mk.injEq] at e
      omega
    refine List.Pairwise.cons (fun x hx => ?_) (List.Pairwise.cons (fun x hx => ?_) (List.Pairwise.cons (fun x hx => hn 2 x hx) H.ne))
    · rcases List.mem_cons.1 hx with rfl | hx
      · simp
      rcases List.mem_cons.1 hx with rfl | hx
      · simp
      · exact hn 0 x hx
    · rcases List.mem_cons.1 hx with rfl | hx
      · simp
      · exact hn 1 x hx
/-- A certificate as a tree: the words of its number and of its root, its parts. -/
inductive Ct where
  | mk : List Nat → List Nat → List Ct → Ct
def Ct.n : Ct → List Nat | .mk n _ _ => n
def Ct.r : Ct → List Nat | .mk _ r _ => r
def Ct.ps : Ct → List Ct | .mk _ _ ps => ps
mutual
/-- How many certificates there are in one. -/
def sz : Ct → Nat
  | .mk _ _ ps => 1 + szs ps
def szs : List Ct → Nat
  | [] => 0
  | c :: r => sz c + szs r
end
theorem sz_eq (c : Ct) : sz c = 1 + szs c.ps := by
  cases c; rw [sz]; rfl
theorem szs_append : ∀ (l r : List Ct), szs (l ++ r) = szs l + szs r
  | [], r => by rw [List.nil_append]; simp [szs]
  | c :: l, r => by
    show szs (c :: (l ++ r)) = _
    simp only [szs]
    rw [szs_append l r, Nat.add_assoc]
theorem szs_snoc (l : List Ct) (c : Ct) : szs (l ++ [c]) = szs l + sz c := by
  rw [szs_append]; simp [szs]
/-- The value reads as this certificate, to this depth. -/
def CertV (W : World) : Nat → Value → Ct → Prop
  | 0, _, _ => False
  | k + 1, v, c => ∃ (pn : Option Addr) (nn cn : Nat) (pr : Option Addr) (nr cr : Nat) (pp : Option Addr) (cp : Nat),
      v = .agg #[.slice pn nn cn, .slice pr nr cr, .slice pp c.ps.length cp] ∧ Nw W pn nn cn c.n ∧ Nw W pr nr cr c.r ∧ c.ps.length < 9223372036854775808 ∧ (pp = none ∨ ∃ b off, pp = some ⟨b, off, none⟩) ∧
      ∀ (j : Nat) (d : Ct), c.ps[j]? = some d → ∃ (b off : Nat) (v0 v1 v2 : Value), pp = some ⟨b, off, none⟩ ∧ W.cell? ⟨b, off + j * 3, none⟩ = some v0 ∧ W.cell? ⟨b, off + j * 3 + 1, none⟩ = some v1 ∧ W.cell? ⟨b, off + j * 3 + 2, none⟩ = some v2 ∧ CertV W k (.agg #[v0, v1, v2]) d
theorem CertV.grow {W W' : World} (g : Gr W W') : ∀ {k : Nat} {v : Value} {c : Ct}, CertV W k v c → CertV W' k v c
  | 0, _, _, h => h
  | _ + 1, _, _, ⟨pn, nn, cn, pr, nr, cr, pp, cp, e, h1, h2, hl, hp, h3⟩ =>
    ⟨pn, nn, cn, pr, nr, cr, pp, cp, e, h1.grow g, h2.grow g, hl, hp, fun j d hd => by
      obtain ⟨b, off, v0, v1, v2, e, c0, c1, c2, h⟩ := h3 j d hd
      exact ⟨b, off, v0, v1, v2, e, g.cell c0, g.cell c1, g.cell c2, h.grow g⟩⟩
theorem CertV.form {W : World} {k : Nat} {v0 v1 v2 : Value} {c : Ct} (h : CertV W k (.agg #[v0, v1, v2]) c) : ∃ (pn : Option Addr) (nn cn : Nat) (pr : Option Addr) (nr cr : Nat) (pp : Option Addr) (np cp : Nat), v0 = .slice pn nn cn ∧ v1 = .slice pr nr cr ∧ v2 = .slice pp np cp := by
  cases k with
  | zero => exact h.elim
  | succ k =>
    obtain ⟨pn, nn, cn, pr, nr, cr, pp, cp, e, _⟩ := h
    simp only [Value.agg.injEq, Array.mk.injEq, List.cons.injEq] at e
    exact ⟨pn, nn, cn, pr, nr, cr, pp, _, cp, by simpa using e.1, by simpa using e.2.1, by simpa using e.2.2⟩
set_option linter.unusedSimpArgs false in
set_option maxRecDepth 100000 in
set_option maxHeartbeats 16000000 in
theorem count_step {k : Nat} {v : Value} {c : Ct} {m : Nat} {w : World} (IH : ∀ (W : World) (v : Value) (d : Ct) (t : Nat), CertV W k v d → t ≤ 1000000 → Calls Tryd.prog 48 #[v, .int .i64 (t : Int)] W fun e w' => e = .returned (.int .i64 ((min (sz d) (t + 1) : Nat) : Int)) ∧ Gr W w')
    (hc : CertV w (k + 1) v c) (hm : m ≤ 1000000) :
    Calls Tryd.prog 48 #[v, .int .i64 (m : Int)] w fun e w' => e = .returned (.int .i64 ((min (sz c) (m + 1) : Nat) : Int)) ∧ Gr w w' := by
  obtain ⟨pn, nn, cn, pr, nr, cr, pp, cp, rfl, hn, hr, hsz, _, hrow⟩ := hc
  obtain ⟨n, hnl⟩ : ∃ n, c.ps.length = n := ⟨_, rfl⟩
  rw [hnl]
  have HNL := Lib.hid hnl; have HROW := Lib.hid hrow; have HM := Lib.hid hm; have HSZ := Lib.hid hsz; have HIH := Lib.hid IH; have HNB : Hid (n < 9223372036854775808) := Lib.hid (hnl ▸ hsz)
  clear hnl hrow hm hsz IH hn hr
  have H := Sta.start w
  go_enter Tryd.func48, Tryd.ntmps48
  go_upto_region 0 with fail
  refine Kr.seqStartW ?_
  refine Kr.seqR (by rfl) (fun K hK => ?_)
  go_simp
  obtain ⟨y1, hy⟩ : ∃ y, w.alloc (.cells #[.slice pn nn cn, .slice pr nr cr, .slice pp n cp] 46) = y := ⟨_, rfl⟩
  obtain ⟨bc, hb⟩ : ∃ b, w.heap.size = b := ⟨_, rfl⟩
  rw [hy, hb]
  replace H := Sta_alloc3 H hy hb rfl rfl rfl
  clear hy hb
  (refine Kr.outS hK (a' := ?_) ?_ ?_; rotate_left; (focus ((try simp only [Kr.PT]); first | done | rfl))); clear hK K
  (refine Kr.seqQ (v := ?_) (a' := ?_) (by rfl) ?_ ?_ ?_; rotate_left 2; (focus (go_simp; first | done | rfl)); (focus ((try simp only [Kr.PT]); first | done | rfl)))
  refine Kr.seqDoneW ?_
  go_upto_region 1 with fail
  refine Kr.seqStartW ?_
  (refine Kr.seqQ (v := ?_) (a' := ?_) (by rfl) ?_ ?_ ?_; rotate_left 2; (focus (go_simp; first | done | rfl)); (focus ((try simp only [Kr.PT]); first | done | rfl)))
  refine Kr.seqDoneW ?_
  go_upto_region 2 with fail
  refine Kr.seqStartW ?_
  (refine Kr.seqQ (v := ?_) (a' := ?_) (by rfl) ?_ ?_ ?_; rotate_left 2; (focus (go_simp; first | done | rfl)); (focus ((try simp only [Kr.PT]); first | done | rfl)))
  have hk := H.c
  simp only [Kr.Cells] at hk
  iterate 3 (refine Kr.seqQ (v := ?_) (a' := ?_) (by rfl) ?_ ?_ ?_; rotate_left 2; (focus (go_simp; first | done | rfl)); (focus ((try simp only [Kr.PT]); first | done | rfl)))
  clear hk
  refine Kr.seqDoneW ?_
  have H2 := Lib.hid H
  clear H
  go_wp2_with fail
  go_loopw [5, 11] (fun sv i wr => ∃ j z : Nat, j ≤ n ∧ sv = .int .i64 (z : Int) ∧ i = .int .i64 (j : Int) ∧ Hid (z = min (1 + szs (c.ps.take j)) (m + 1)) ∧ Hid (Sta w wr [(bc, 0, .slice pn nn cn), (bc, 1, .slice pr nr cr), (bc, 2, .slice pp n cp)] [])) (fun _ i _ => n - (intOf i).toNat)
  case atStart => exact ⟨0, 1, Nat.zero_le _, rfl, rfl, Lib.hid (by rw [List.take_zero, szs]; omega), H2⟩
  case round =>
    clear H2
    obtain ⟨j, z, hj, rfl, rfl, HZ, HH⟩ := hrel
    have H := HH.out; clear HH
    by_cases hjn : j = n
    · have HC : Hid (decide ((j : Int) < (n : Int)) = false) := Lib.hid (decide_eq_false (by omega))
      have HZE : Hid (z = min (sz c) (m + 1)) := Lib.hid (by rw [sz_eq, HZ.out, hjn, ← HNL.out, List.take_length])
      clear hjn
      go_upto_region 3 with fail
      refine Kr.seqStartW ?_
      (refine Kr.seqQ (v := .bool false) (a' := ?_) (by rfl) ?_ ?_ ?_; rotate_left 1; (focus (exact Kr.valOf rfl (lssT HC.out))); (focus ((try simp only [Kr.PT]); first | done | rfl)))
      refine Kr.seqDoneW ?_
      go_upto_region 8 with fail
      refine Kr.seqStartW ?_
      iterate 2 (refine Kr.seqQ (v := ?_) (a' := ?_) (by rfl) ?_ ?_ ?_; rotate_left 2; (focus (go_simp; first | done | rfl)); (focus ((try simp only [Kr.PT]); first | done | rfl)))
      refine Kr.seqDoneW ?_
      have hk := H.c
      simp only [Kr.Cells] at hk
      go_wp2
      refine bodyPost_ret (v := .int .i64 (z : Int)) (by simp [results, Tryd.results48, go_sem, hk]) rfl ⟨by rw [← HZE.out], H.g⟩
    · have HJ : Hid (j < n) := Lib.hid (by omega)
      have HC : Hid (decide ((j : Int) < (n : Int)) = true) := Lib.hid (decide_eq_true (by omega))
      clear hjn
      have hjl : j < c.ps.length := by rw [HNL.out]; exact HJ.out
      obtain ⟨d, hd⟩ : ∃ d, c.ps[j]? = some d := ⟨_, List.getElem?_eq_getElem hjl⟩
      obtain ⟨b, off, v0, v1, v2, hpp, h0, h1, h2, hcd⟩ := HROW.out j d hd
      subst hpp
      obtain ⟨qn, mn, dn, qr, mr, dr, qp, mp, dp, rfl, rfl, rfl⟩ := hcd.form
      have HTK : Hid (szs (c.ps.take (j + 1)) = szs (c.ps.take j) + sz d) := Lib.hid (by rw [List.take_add_one, hd]; exact szs_snoc _ _)
      have HALLZ : Hid (szs (c.ps.take j) ≤ szs c.ps) := Lib.hid (by have h := szs_append (c.ps.take j) (c.ps.drop j); rw [List.take_append_drop] at h; omega)
      have hk_r0 := H.g.cell h0; have hk_r1 := H.g.cell h1; have hk_r2 := H.g.cell h2; have HCD := Lib.hid hcd
      clear h0 h1 h2 hcd hjl hd
      have hj1 : j < n := HJ.out; have hj2 : (j : Int) < (n : Int) := by omega
      go_upto_region 3 with fail
      refine Kr.seqStartW ?_
      (refine Kr.seqQ (v := .bool true) (a' := ?_) (by rfl) ?_ ?_ ?_; rotate_left 1; (focus (exact Kr.valOf rfl (lssT HC.out))); (focus ((try simp only [Kr.PT]); first | done | rfl)))
      refine Kr.seqDoneW ?_
      go_upto_region 4 with fail
      refine Kr.seqStartW ?_
      (refine Kr.seqQ (v := ?_) (a' := ?_) (by rfl) ?_ ?_ ?_; rotate_left 2; (focus (go_simp; first | done | rfl)); (focus ((try simp only [Kr.PT]); first | done | rfl)))
      have hk := H.c
      simp only [Kr.Cells] at hk
      (refine Kr.seqQ (v := ?_) (a' := ?_) (by rfl) ?_ ?_ ?_; rotate_left 2; (focus (go_simp; first | done | rfl)); (focus ((try simp only [Kr.PT]); first | done | rfl)))
      refine Kr.seqR (by rfl) (fun K hK => ?_)
      go_simp
      clear hk
      obtain ⟨y2, hy⟩ : ∃ y, wr.alloc (.cells #[.slice none 0 0, .slice none 0 0, .slice none 0 0] 46) = y := ⟨_, rfl⟩
      obtain ⟨bp, hb⟩ : ∃ b, wr.heap.size = b := ⟨_, rfl⟩
      rw [hy, hb]
      replace H := Sta_alloc3 H hy hb rfl rfl rfl
      clear hy hb
      (refine Kr.outS hK (a' := ?_) ?_ ?_; rotate_left; (focus ((try simp only [Kr.PT]); first | done | rfl))); clear hK K
      have hk := H.c
      simp only [Kr.Cells] at hk
      refine Kr.seqR (by rfl) (fun K hK => ?_)
      go_simp
      clear hk
      obtain ⟨y3, hy⟩ : ∃ y, y2.setCell ⟨bp, 0, none⟩ (.slice qn mn dn) = y := ⟨_, rfl⟩
      rw [hy]
      replace H := H.store 0 hy rfl rfl
      dsimp only [List.set] at H
      clear hy
      obtain ⟨y4, hy⟩ : ∃ y, y3.setCell ⟨bp, 1, none⟩ (.slice qr mr dr) = y := ⟨_, rfl⟩
      rw [hy]
      replace H := H.store 1 hy rfl rfl
      dsimp only [List.set] at H
      clear hy
      obtain ⟨y5, hy⟩ : ∃ y, y4.setCell ⟨bp, 2, none⟩ (.slice qp mp dp) = y := ⟨_, rfl⟩
      rw [hy]
      replace H := H.store 2 hy rfl rfl
      dsimp only [List.set] at H
      clear hy
      (refine Kr.outS hK (a' := ?_) ?_ ?_; rotate_left; (focus ((try simp only [Kr.PT]); first | done | rfl))); clear hK K
      refine Kr.seqDoneW ?_
      clear hk_r0 hk_r1 hk_r2 hj1 hj2
      by_cases hzm : m < z
      · have HG : Hid (decide ((m : Int) < (z : Int)) = true) := Lib.hid (decide_eq_true (by omega))
        have HZE : Hid (z = min (sz c) (m + 1)) := Lib.hid (by have h1 := HZ.out; have h2 := HALLZ.out; rw [sz_eq]; omega)
        clear hzm
        go_upto_region 5 with fail
        refine Kr.seqStartW ?_
        iterate 2 (refine Kr.seqQ (v := ?_) (a' := ?_) (by rfl) ?_ ?_ ?_; rotate_left 2; (focus (go_simp; first | done | rfl)); (focus ((try simp only [Kr.PT]); first | done | rfl)))
        (refine Kr.seqQ (v := .bool true) (a' := ?_) (by rfl) ?_ ?_ ?_; rotate_left 1; (focus (exact Kr.valOf rfl (gtrI HG.out))); (focus ((try simp only [Kr.PT]); first | done | rfl)))
        refine Kr.seqDoneW ?_
        go_upto_region 8 with fail
        refine Kr.seqStartW ?_
        iterate 2 (refine Kr.seqQ (v := ?_) (a' := ?_) (by rfl) ?_ ?_ ?_; rotate_left 2; (focus (go_simp; first | done | rfl)); (focus ((try simp only [Kr.PT]); first | done | rfl)))
        refine Kr.seqDoneW ?_
        have hk := H.c
        simp only [Kr.Cells] at hk
        go_wp2
        refine bodyPost_ret (v := .int .i64 (z : Int)) (by simp [results, Tryd.results48, go_sem, hk]) rfl ⟨by rw [← HZE.out], H.g⟩
      · have HG : Hid (decide ((m : Int) < (z : Int)) = false) := Lib.hid (decide_eq_false (by omega))
        have HZM : Hid (z ≤ m) := Lib.hid (by omega)
        clear hzm
        obtain ⟨t, ht⟩ : ∃ t, m - z = t := ⟨_, rfl⟩
        have HSUB : Hid (IntKind.i64.wrap ((m : Int) - (z : Int)) = (t : Int)) := Lib.hid (wrap_nat (by have := HZM.out; omega) (by have := HM.out; omega)); have HT := Lib.hid ht; clear ht
        obtain ⟨a, ha⟩ : ∃ a, min (sz d) (t + 1) = a := ⟨_, rfl⟩
        have HA := Lib.hid ha; clear ha
        obtain ⟨y0, hy0⟩ : ∃ y0, z + a = y0 := ⟨_, rfl⟩
        have HADD : Hid (IntKind.i64.wrap ((z : Int) + (a : Int)) = (y0 : Int)) := Lib.hid (wrap_nat (by omega) (by have h1 := HZM.out; have h2 := HM.out; have h3 := HA.out; have h4 := HT.out; omega)); have HY := Lib.hid hy0; clear hy0
        go_upto_region 5 with fail
        refine Kr.seqStartW ?_
        iterate 2 (refine Kr.seqQ (v := ?_) (a' := ?_) (by rfl) ?_ ?_ ?_; rotate_left 2; (focus (go_simp; first | done | rfl)); (focus ((try simp only [Kr.PT]); first | done | rfl)))
        (refine Kr.seqQ (v := .bool false) (a' := ?_) (by rfl) ?_ ?_ ?_; rotate_left 1; (focus (exact Kr.valOf rfl (gtrI HG.out))); (focus ((try simp only [Kr.PT]); first | done | rfl)))
        refine Kr.seqDoneW ?_
        go_upto_region 6 with fail
        refine Kr.seqStartW ?_
        (refine Kr.seqQ (v := ?_) (a' := ?_) (by rfl) ?_ ?_ ?_; rotate_left 2; (focus (go_simp; first | done | rfl)); (focus ((try simp only [Kr.PT]); first | done | rfl)))
        have hk := H.c
        simp only [Kr.Cells] at hk
        iterate 3 (refine Kr.seqQ (v := ?_) (a' := ?_) (by rfl) ?_ ?_ ?_; rotate_left 2; (focus (go_simp; first | done | rfl)); (focus ((try simp only [Kr.PT]); first | done | rfl)))
        (refine Kr.seqQ (v := .int .i64 (t : Int)) (a' := ?_) (by rfl) ?_ ?_ ?_; rotate_left 1; (focus (exact Kr.valOf rfl (subI HSUB.out))); (focus ((try simp only [Kr.PT]); first | done | rfl)))
        refine Kr.seqR (by rfl) (fun K hK => ?_)
        go_simp
        go_at_call 48
        have hP := HIH.out y5 _ d t (HCD.out.grow H.g) (by have h1 := HT.out; have h2 := HM.out; omega)
        rw [HA.out] at hP
        refine (hP).mono ?_
        rintro e y6 ⟨rfl, hg⟩
        clear hk
        replace H := H.grow hg
        clear hg
        clear hP
        (refine Kr.outS hK (a' := ?_) ?_ ?_; rotate_left; (focus ((try simp only [Kr.PT]); first | done | rfl))); clear hK K
        (refine Kr.seqQ (v := .int .i64 (y0 : Int)) (a' := ?_) (by rfl) ?_ ?_ ?_; rotate_left 1; (focus (exact Kr.valOf rfl (addI HADD.out))); (focus ((try simp only [Kr.PT]); first | done | rfl)))
        (refine Kr.seqQ (v := ?_) (a' := ?_) (by rfl) ?_ ?_ ?_; rotate_left 2; (focus (go_simp; first | done | rfl)); (focus ((try simp only [Kr.PT]); first | done | rfl)))
        refine Kr.seqDoneW ?_
        have HADJ : Hid (IntKind.i64.wrap ((j : Int) + 1) = ((j + 1 : Nat) : Int)) := Lib.hid (wrap_nat (by omega) (by have h1 := HJ.out; have h2 := HNB.out; omega))
        go_upto_region 7 with fail
        refine Kr.seqStartW ?_
        (refine Kr.seqQ (v := .int .i64 ((j + 1 : Nat) : Int)) (a' := ?_) (by rfl) ?_ ?_ ?_; rotate_left 1; (focus (exact Kr.valOf rfl (addI HADJ.out))); (focus ((try simp only [Kr.PT]); first | done | rfl)))
        (refine Kr.seqQ (v := ?_) (a' := ?_) (by rfl) ?_ ?_ ?_; rotate_left 2; (focus (go_simp; first | done | rfl)); (focus ((try simp only [Kr.PT]); first | done | rfl)))
        refine Kr.seqDoneW ?_
        go_wp2
        go_roundw
        case rel => exact ⟨j + 1, y0, HJ.out, rfl, rfl, Lib.hid (by have h1 := HZ.out; have h2 := HA.out; have h3 := HT.out; have h4 := HZM.out; have h5 := HTK.out; have h6 := HY.out; omega), Lib.hid (H.drop 3)⟩
        case measure => simp [intOf]; have := HJ.out; omega
theorem count_v : ∀ {k : Nat} {v : Value} {c : Ct} {m : Nat} {w : World}, CertV w k v c → m ≤ 1000000 →
    Calls Tryd.prog 48 #[v, .int .i64 (m : Int)] w fun e w' => e = .returned (.int .i64 ((min (sz c) (m + 1) : Nat) : Int)) ∧ Gr w w'
  | 0, _, _, _, _, h, _ => h.elim
  | k + 1, _, _, _, _, h, hm => count_step (fun _ _ _ _ h2 hm2 => count_v (k := k) h2 hm2) h hm
end Go.Proofs.YtfompolklkehpaaDoor.Pr


/- Size, inRange, isOne. -/
namespace Go.Proofs.YtfompolklkehpaaDoor.Pr
open Go.RowKit Go.Shelf Go.Proofs.YtfompolklkehpaaDoor.Nm Go.Proofs.YtfompolklkehpaaDoor.Ne Go.Proofs.YtfompolklkehpaaDoor.Nf Go.Proofs.YtfompolklkehpaaDoor.Nk Go.Proofs.YtfompolklkehpaaDoor.Nv Go.Proofs.YtfompolklkehpaaDoor.Nr2 Go.Proofs.YtfompolklkehpaaDoor.Mo Go.Proofs.YtfompolklkehpaaDoor.Mr Go.Proofs.YtfompolklkehpaaDoor.Kr

/-- The bits of a number of words: none, if they are not valid. -/
def nbw (l : List Nat) : Nat := if decide (valid l) = true then nbits l else 0
theorem Bits_w {p : Option Addr} {n c : Nat} {l : List Nat} {w : World} (h : Nw w p n c l) :
    Calls Tryd.prog 43 #[.agg #[.slice p n c]] w fun e w' => e = .returned (.int .i64 ((nbw l : Nat) : Int)) ∧ Gr w w' := by
  unfold nbw
  by_cases hv : decide (valid l) = true
  · rw [if_pos hv]; exact Bits_n p n c l w h hv
  · rw [if_neg hv]; exact Bits_bad_n p n c l w h (by simpa using hv)
theorem nbw_valid {l : List Nat} (h : 0 < nbw l) : decide (valid l) = true := by
  unfold nbw at h
  by_cases hv : decide (valid l) = true
  · exact hv
  · rw [if_neg hv] at h; omega
/-- The numbers of a certificate are in their bounds. -/
def inR (ln lr : List Nat) : Bool := decide (2 ≤ nbw ln) && decide (nbw ln ≤ 1024) && decide (0 < nbw lr) && decide (val lr < val ln)
theorem ord_neg {x y : Nat} : decide (ord x y < 0) = decide (x < y) := by
  unfold ord
  by_cases h1 : x < y
  · simp [h1]
  · by_cases h2 : y < x <;> simp [h1, h2]
theorem ord_zero {x y : Nat} : decide (ord x y = 0) = decide (x = y) := by
  unfold ord
  by_cases h1 : x < y
  · simp [h1]; omega
  · by_cases h2 : y < x
    · simp [h1, h2]; omega
    · simp [h1, h2]; omega
/-- What Size says. -/
def szq (c : Ct) : Nat := if sz c ≤ 1000 then sz c else 0
theorem CertV.shape {W : World} {k : Nat} {v : Value} {c : Ct} (h : CertV W k v c) : ∃ (pn : Option Addr) (nn cn : Nat) (pr : Option Addr) (nr cr : Nat) (pp : Option Addr) (np cp : Nat), v = .agg #[.slice pn nn cn, .slice pr nr cr, .slice pp np cp] := by
  cases k with
  | zero => exact h.elim
  | succ k =>
    obtain ⟨pn, nn, cn, pr, nr, cr, pp, cp, e, _⟩ := h
    exact ⟨pn, nn, cn, pr, nr, cr, pp, _, cp, e⟩
set_option linter.unusedSimpArgs false in
set_option maxRecDepth 100000 in
set_option maxHeartbeats 16000000 in
theorem Size_v {k : Nat} {v : Value} {c : Ct} {w : World} (hc : CertV w k v c) :
    Calls Tryd.prog 29 #[v] w fun e w' => e = .returned (.int .i64 ((szq c : Nat) : Int)) ∧ Gr w w' := by
  have HC := Lib.hid hc; clear hc
  obtain ⟨pn, nn, cn, pr, nr, cr, pp, np, cp, rfl⟩ : ∃ pn nn cn pr nr cr pp np cp, v = .agg #[.slice pn nn cn, .slice pr nr cr, .slice pp np cp] := HC.out.shape
  obtain ⟨z, hz⟩ : ∃ z, min (sz c) (1000 + 1) = z := ⟨_, rfl⟩
  have HZ := Lib.hid hz; clear hz
  have H := Sta.start w
  go_enter Tryd.func29, Tryd.ntmps29
  go_upto_region 0 with fail
  refine Kr.seqStartW ?_
  refine Kr.seqR (by rfl) (fun K hK => ?_)
  go_simp
  obtain ⟨y1, hy⟩ : ∃ y, w.alloc (.cells #[.slice pn nn cn, .slice pr nr cr, .slice pp np cp] 46) = y := ⟨_, rfl⟩
  obtain ⟨bc, hb⟩ : ∃ b, w.heap.size = b := ⟨_, rfl⟩
  rw [hy, hb]
  replace H := Sta_alloc3 H hy hb rfl rfl rfl
  clear hy hb
  (refine Kr.outS hK (a' := ?_) ?_ ?_; rotate_left; (focus ((try simp only [Kr.PT]); first | done | rfl))); clear hK K
  (refine Kr.seqQ (v := ?_) (a' := ?_) (by rfl) ?_ ?_ ?_; rotate_left 2; (focus (go_simp; first | done | rfl)); (focus ((try simp only [Kr.PT]); first | done | rfl)))
  refine Kr.seqDoneW ?_
  go_upto_region 1 with fail
  refine Kr.seqStartW ?_
  have hk := H.c
  simp only [Kr.Cells] at hk
  (refine Kr.seqQ (v := ?_) (a' := ?_) (by rfl) ?_ ?_ ?_; rotate_left 2; (focus (go_simp; first | done | rfl)); (focus ((try simp only [Kr.PT]); first | done | rfl)))
  refine Kr.seqR (by rfl) (fun K hK => ?_)
  go_simp
  go_at_call 48
  have hP := count_v (m := 1000) (HC.out.grow H.g) (by decide)
  rw [HZ.out] at hP
  refine (hP).mono ?_
  rintro e y2 ⟨rfl, hg⟩
  clear hk
  replace H := H.grow hg
  clear hg
  clear hP
  (refine Kr.outS hK (a' := ?_) ?_ ?_; rotate_left; (focus ((try simp only [Kr.PT]); first | done | rfl))); clear hK K
  (refine Kr.seqQ (v := ?_) (a' := ?_) (by rfl) ?_ ?_ ?_; rotate_left 2; (focus (go_simp; first | done | rfl)); (focus ((try simp only [Kr.PT]); first | done | rfl)))
  refine Kr.seqDoneW ?_
  by_cases hz : 1000 < z
  · have HG : Hid (decide ((1000 : Int) < (z : Int)) = true) := Lib.hid (decide_eq_true (by omega))
    have HS : Hid (szq c = 0) := Lib.hid (if_neg (by have := HZ.out; omega))
    clear hz
    go_upto_region 2 with fail
    refine Kr.seqStartW ?_
    (refine Kr.seqQ (v := ?_) (a' := ?_) (by rfl) ?_ ?_ ?_; rotate_left 2; (focus (go_simp; first | done | rfl)); (focus ((try simp only [Kr.PT]); first | done | rfl)))
    (refine Kr.seqQ (v := .bool true) (a' := ?_) (by rfl) ?_ ?_ ?_; rotate_left 1; (focus (exact Kr.valOf rfl (gtrI HG.out))); (focus ((try simp only [Kr.PT]); first | done | rfl)))
    refine Kr.seqDoneW ?_
    go_upto_region 3 with fail
    refine Kr.seqStartW ?_
    (refine Kr.seqQ (v := ?_) (a' := ?_) (by rfl) ?_ ?_ ?_; rotate_left 2; (focus (go_simp; first | done | rfl)); (focus ((try simp only [Kr.PT]); first | done | rfl)))
    refine Kr.seqDoneW ?_
    have hk := H.c
    simp only [Kr.Cells] at hk
    go_wp2
    refine bodyPost_ret (v := .int .i64 0) (by simp [results, Tryd.results29, go_sem, hk]) rfl ⟨by rw [HS.out]; rfl, H.g⟩
  · have HG : Hid (decide ((1000 : Int) < (z : Int)) = false) := Lib.hid (decide_eq_false (by omega))
    have HS : Hid (szq c = z) := Lib.hid (by unfold szq; rw [if_pos (by have := HZ.out; omega)]; have := HZ.out; omega)
    clear hz
    go_upto_region 2 with fail
    refine Kr.seqStartW ?_
    (refine Kr.seqQ (v := ?_) (a' := ?_) (by rfl) ?_ ?_ ?_; rotate_left 2; (focus (go_simp; first | done | rfl)); (focus ((try simp only [Kr.PT]); first | done | rfl)))
    (refine Kr.seqQ (v := .bool false) (a' := ?_) (by rfl) ?_ ?_ ?_; rotate_left 1; (focus (exact Kr.valOf rfl (gtrI HG.out))); (focus ((try simp only [Kr.PT]); first | done | rfl)))
    refine Kr.seqDoneW ?_
    go_upto_region 4 with fail
    refine Kr.seqStartW ?_
    iterate 2 (refine Kr.seqQ (v := ?_) (a' := ?_) (by rfl) ?_ ?_ ?_; rotate_left 2; (focus (go_simp; first | done | rfl)); (focus ((try simp only [Kr.PT]); first | done | rfl)))
    refine Kr.seqDoneW ?_
    have hk := H.c
    simp only [Kr.Cells] at hk
    go_wp2
    refine bodyPost_ret (v := .int .i64 (z : Int)) (by simp [results, Tryd.results29, go_sem, hk]) rfl ⟨by rw [HS.out], H.g⟩
set_option linter.unusedSimpArgs false in
set_option maxRecDepth 100000 in
set_option maxHeartbeats 16000000 in
theorem inRange_v {pn : Option Addr} {nn cn : Nat} {pr : Option Addr} {nr cr : Nat} {pp : Option Addr} {np cp : Nat} {ln lr : List Nat} {w : World} (hn : Nw w pn nn cn ln) (hr : Nw w pr nr cr lr) :
    Calls Tryd.prog 62 #[.agg #[.slice pn nn cn, .slice pr nr cr, .slice pp np cp]] w fun e w' => e = .returned (.bool (inR ln lr)) ∧ Gr w w' := by
  obtain ⟨x, hx⟩ : ∃ x, nbw ln = x := ⟨_, rfl⟩
  obtain ⟨y0, hy⟩ : ∃ y, nbw lr = y := ⟨_, rfl⟩
  have HX := Lib.hid hx; have HY := Lib.hid hy; clear hx hy
  obtain ⟨B, hB⟩ : ∃ B, inR ln lr = B := ⟨_, rfl⟩
  rw [hB]
  have HB : Hid (B = (decide (2 ≤ x) && decide (x ≤ 1024) && decide (0 < y0) && decide (val lr < val ln))) := Lib.hid (by rw [← hB]; unfold inR; rw [HX.out, HY.out]); clear hB
  have H := Sta.start w
  replace H := H.add (keepWs _ _ _ _) hn
  replace H := H.add (keepWs _ _ _ _) hr
  clear hn hr
  go_enter Tryd.func62, Tryd.ntmps62
  go_upto_region 0 with fail
  refine Kr.seqStartW ?_
  refine Kr.seqR (by rfl) (fun K hK => ?_)
  go_simp
  obtain ⟨y1, hy⟩ : ∃ y, w.alloc (.cells #[.slice pn nn cn, .slice pr nr cr, .slice pp np cp] 46) = y := ⟨_, rfl⟩
  obtain ⟨bc, hb⟩ : ∃ b, w.heap.size = b := ⟨_, rfl⟩
  rw [hy, hb]
  replace H := Sta_alloc3 H hy hb rfl rfl rfl
  clear hy hb
  (refine Kr.outS hK (a' := ?_) ?_ ?_; rotate_left; (focus ((try simp only [Kr.PT]); first | done | rfl))); clear hK K
  (refine Kr.seqQ (v := ?_) (a' := ?_) (by rfl) ?_ ?_ ?_; rotate_left 2; (focus (go_simp; first | done | rfl)); (focus ((try simp only [Kr.PT]); first | done | rfl)))
  refine Kr.seqDoneW ?_
  go_upto_region 1 with fail
  refine Kr.startL (fun W' => Kr.Cells W' [(bc, 0, .slice pn nn cn), (bc, 1, .slice pr nr cr)]) [] (by kernel_rfl) ?_
  have gd : Gr y1 y1.drew := (Gr.refl _).drew
  generalize y1.drew = d2 at gd ⊢
  replace H := H.grow gd
  clear gd
  refine have nd1_2 : ∀ (Wd2 : World), Sta w Wd2 [(bc, 0, .slice pn nn cn), (bc, 1, .slice pr nr cr), (bc, 2, .slice pp np cp)] [Ws pr nr cr lr, Ws pn nn cn ln] → (?Q1_2 : World → Prop) Wd2 := ?pf1_2; ?mn1_2
  case' mn1_2 => refine have nd1_1 : ∀ (Wd1 : World), Sta w Wd1 [(bc, 0, .slice pn nn cn), (bc, 1, .slice pr nr cr), (bc, 2, .slice pp np cp)] [Ws pr nr cr lr, Ws pn nn cn ln] → (?Q1_1 : World → Prop) Wd1 := ?pf1_1; ?mn1_1
  case mn1_1 =>
    (refine Kr.tPQ 0 (v := ?_) (a' := ?_) rfl (by kernel_rfl) (fun _ _ _ h => h) (by rfl) (fun _ => (H.sub [0, 1] rfl)) (fun wx => ?_) ?_ ?_; rotate_left 2; (focus (go_simp; first | done | rfl)); (focus ((try simp only [Kr.PT]); first | done | rfl)))
    (refine Kr.tSQ 1 [] (v := ?_) (a' := ?_) rfl (by kernel_rfl) (fun _ _ _ h => h) (by rfl) (H.sub [0, 1] rfl) (fun wx hSx => ?_) ?_ ?_; rotate_left 2; (focus (simp only [Kr.Cells] at hSx; go_simp; first | done | rfl)); (focus ((try simp only [Kr.PT]); first | done | rfl)))
    (refine Kr.tPQ 3 (v := ?_) (a' := ?_) rfl (by kernel_rfl) (fun _ _ _ h => h) (by rfl) (fun _ => (H.sub [0, 1] rfl)) (fun wx => ?_) ?_ ?_; rotate_left 2; (focus (go_simp; first | done | rfl)); (focus ((try simp only [Kr.PT]); first | done | rfl)))
    (refine Kr.tSQ 4 [] (v := ?_) (a' := ?_) rfl (by kernel_rfl) (fun _ _ _ h => h) (by rfl) (H.sub [0, 1] rfl) (fun wx hSx => ?_) ?_ ?_; rotate_left 2; (focus (simp only [Kr.Cells] at hSx; go_simp; first | done | rfl)); (focus ((try simp only [Kr.PT]); first | done | rfl)))
    refine Kr.readyL (rs := [2]) (by kernel_rfl) (by simp) ?_
    refine Kr.AllL.cons rfl (fun K hK => ?_) Kr.AllL.nil
    go_simp
    go_at_call 43
    have hP := Bits_w (H.ws 1 rfl)
    rw [HX.out] at hP
    refine (hP).mono ?_
    rintro e y3 ⟨rfl, hg⟩
    replace H := H.grow hg
    clear hg
    clear hP
    (refine Kr.outL hK (a' := ?_) ?_ (fun _ => (H.sub [0, 1] rfl)) ?_; rotate_left; (focus ((try simp only [Kr.PT]); first | done | rfl))); clear hK K
    refine Kr.relistL (l2 := #[true, true, true, true, true, false, false, false]) (by kernel_rfl) ?_
    exact nd1_1 y3 H
  case pf1_1 =>
    intro Wd1 H
    refine Kr.readyL (rs := [5]) (by kernel_rfl) (by simp) ?_
    refine Kr.AllL.cons rfl (fun K hK => ?_) Kr.AllL.nil
    go_simp
    go_at_call 43
    have hP := Bits_w (H.ws 0 rfl)
    rw [HY.out] at hP
    refine (hP).mono ?_
    rintro e y4 ⟨rfl, hg⟩
    replace H := H.grow hg
    clear hg
    clear hP
    (refine Kr.outL hK (a' := ?_) ?_ (fun _ => (H.sub [0, 1] rfl)) ?_; rotate_left; (focus ((try simp only [Kr.PT]); first | done | rfl))); clear hK K
    (refine Kr.tPQ 6 (v := ?_) (a' := ?_) rfl (by kernel_rfl) (fun _ _ _ h => h) (by rfl) (fun _ => (H.sub [0, 1] rfl)) (fun wx => ?_) ?_ ?_; rotate_left 2; (focus (go_simp; first | done | rfl)); (focus ((try simp only [Kr.PT]); first | done | rfl)))
    (refine Kr.tPQ 7 (v := ?_) (a' := ?_) rfl (by kernel_rfl) (fun _ _ _ h => h) (by rfl) (fun _ => (H.sub [0, 1] rfl)) (fun wx => ?_) ?_ ?_; rotate_left 2; (focus (go_simp; first | done | rfl)); (focus ((try simp only [Kr.PT]); first | done | rfl)))
    refine Kr.relistL (l2 := #[true, true, true, true, true, true, true, true]) (by kernel_rfl) ?_
    exact nd1_2 y4 H
  case pf1_2 =>
    intro Wd2 H
    refine Kr.doneL (by kernel_rfl) ?_ _
    by_cases h1 : 2 ≤ x
    · have H1 : Hid (decide ((2 : Int) ≤ (x : Int)) = true) := Lib.hid (decide_eq_true (by omega))
      by_cases h2 : x ≤ 1024
      · have H2 : Hid (decide ((x : Int) ≤ 1024) = true) := Lib.hid (decide_eq_true (by omega))
        by_cases h3 : 0 < y0
        · have H3 : Hid (decide ((0 : Int) < (y0 : Int)) = true) := Lib.hid (decide_eq_true (by omega))
          have VN := Lib.hid (nbw_valid (show 0 < nbw ln by rw [HX.out]; omega)); have VR := Lib.hid (nbw_valid (show 0 < nbw lr by rw [HY.out]; omega))
          have H4 : Hid (decide (ord (val lr) (val ln) < 0) = B) := Lib.hid (by rw [HB.out, decide_eq_true h1, decide_eq_true h2, decide_eq_true h3, ord_neg]; rfl)
          clear h1 h2 h3 HB
          go_upto_region 2 with fail
          refine Kr.seqStartW ?_
          (refine Kr.seqQ (v := ?_) (a' := ?_) (by rfl) ?_ ?_ ?_; rotate_left 2; (focus (go_simp; first | done | rfl)); (focus ((try simp only [Kr.PT]); first | done | rfl)))
          (refine Kr.seqQ (v := .bool true) (a' := ?_) (by rfl) ?_ ?_ ?_; rotate_left 1; (focus (exact Kr.valOf rfl (geqI H1.out))); (focus ((try simp only [Kr.PT]); first | done | rfl)))
          iterate 2 (refine Kr.seqQ (v := ?_) (a' := ?_) (by rfl) ?_ ?_ ?_; rotate_left 2; (focus (go_simp; first | done | rfl)); (focus ((try simp only [Kr.PT]); first | done | rfl)))
          (refine Kr.seqQ (v := .bool true) (a' := ?_) (by rfl) ?_ ?_ ?_; rotate_left 1; (focus (exact Kr.valOf rfl (leqI H2.out))); (focus ((try simp only [Kr.PT]); first | done | rfl)))
          iterate 3 (refine Kr.seqQ (v := ?_) (a' := ?_) (by rfl) ?_ ?_ ?_; rotate_left 2; (focus (go_simp; first | done | rfl)); (focus ((try simp only [Kr.PT]); first | done | rfl)))
          (refine Kr.seqQ (v := .bool true) (a' := ?_) (by rfl) ?_ ?_ ?_; rotate_left 1; (focus (exact Kr.valOf rfl (gtrI H3.out))); (focus ((try simp only [Kr.PT]); first | done | rfl)))
          iterate 3 (refine Kr.seqQ (v := ?_) (a' := ?_) (by rfl) ?_ ?_ ?_; rotate_left 2; (focus (go_simp; first | done | rfl)); (focus ((try simp only [Kr.PT]); first | done | rfl)))
          have hk := H.c
          simp only [Kr.Cells] at hk
          iterate 3 (refine Kr.seqQ (v := ?_) (a' := ?_) (by rfl) ?_ ?_ ?_; rotate_left 2; (focus (go_simp; first | done | rfl)); (focus ((try simp only [Kr.PT]); first | done | rfl)))
          refine Kr.seqR (by rfl) (fun K hK => ?_)
          go_simp
          go_at_call 79
          refine (Compare_ok _ _ _ _ _ _ _ _ _ (H.ws 0 rfl) (H.ws 1 rfl) VR.out VN.out).mono ?_
          rintro e y5 ⟨rfl, hg⟩
          clear hk
          replace H := H.grow hg
          clear hg
          (refine Kr.outS hK (a' := ?_) ?_ ?_; rotate_left; (focus ((try simp only [Kr.PT]); first | done | rfl))); clear hK K
          (refine Kr.seqQ (v := .bool B) (a' := ?_) (by rfl) ?_ ?_ ?_; rotate_left 1; (focus (exact Kr.valOf rfl (lssT H4.out))); (focus ((try simp only [Kr.PT]); first | done | rfl)))
          iterate 2 (refine Kr.seqQ (v := ?_) (a' := ?_) (by rfl) ?_ ?_ ?_; rotate_left 2; (focus (go_simp; first | done | rfl)); (focus ((try simp only [Kr.PT]); first | done | rfl)))
          refine Kr.seqDoneW ?_
          have hk := H.c
          simp only [Kr.Cells] at hk
          go_wp2
          refine bodyPost_ret (v := .bool B) (by simp [results, Tryd.results62, go_sem, hk]) rfl ⟨rfl, H.g⟩
        · have H3 : Hid (decide ((0 : Int) < (y0 : Int)) = false) := Lib.hid (decide_eq_false (by omega))
          obtain rfl : B = false := by rw [HB.out, decide_eq_false h3]; simp
          clear h1 h2 h3 HB
          go_upto_region 2 with fail
          refine Kr.seqStartW ?_
          (refine Kr.seqQ (v := ?_) (a' := ?_) (by rfl) ?_ ?_ ?_; rotate_left 2; (focus (go_simp; first | done | rfl)); (focus ((try simp only [Kr.PT]); first | done | rfl)))
          (refine Kr.seqQ (v := .bool true) (a' := ?_) (by rfl) ?_ ?_ ?_; rotate_left 1; (focus (exact Kr.valOf rfl (geqI H1.out))); (focus ((try simp only [Kr.PT]); first | done | rfl)))
          iterate 2 (refine Kr.seqQ (v := ?_) (a' := ?_) (by rfl) ?_ ?_ ?_; rotate_left 2; (focus (go_simp; first | done | rfl)); (focus ((try simp only [Kr.PT]); first | done | rfl)))
          (refine Kr.seqQ (v := .bool true) (a' := ?_) (by rfl) ?_ ?_ ?_; rotate_left 1; (focus (exact Kr.valOf rfl (leqI H2.out))); (focus ((try simp only [Kr.PT]); first | done | rfl)))
          iterate 3 (refine Kr.seqQ (v := ?_) (a' := ?_) (by rfl) ?_ ?_ ?_; rotate_left 2; (focus (go_simp; first | done | rfl)); (focus ((try simp only [Kr.PT]); first | done | rfl)))
          (refine Kr.seqQ (v := .bool false) (a' := ?_) (by rfl) ?_ ?_ ?_; rotate_left 1; (focus (exact Kr.valOf rfl (gtrI H3.out))); (focus ((try simp only [Kr.PT]); first | done | rfl)))
          iterate 2 (refine Kr.seqQ (v := ?_) (a' := ?_) (by rfl) ?_ ?_ ?_; rotate_left 2; (focus (go_simp; first | done | rfl)); (focus ((try simp only [Kr.PT]); first | done | rfl)))
          (refine Kr.seqSkipQ (a' := ?_) (by rfl) ?_ ?_; rotate_left; (focus ((try simp only [Kr.PT]); first | done | rfl)))
          (refine Kr.seqSkipQ (a' := ?_) (by rfl) ?_ ?_; rotate_left; (focus ((try simp only [Kr.PT]); first | done | rfl)))
          (refine Kr.seqSkipQ (a' := ?_) (by rfl) ?_ ?_; rotate_left; (focus ((try simp only [Kr.PT]); first | done | rfl)))
          (refine Kr.seqSkipQ (a' := ?_) (by rfl) ?_ ?_; rotate_left; (focus ((try simp only [Kr.PT]); first | done | rfl)))
          (refine Kr.seqSkipQ (a' := ?_) (by rfl) ?_ ?_; rotate_left; (focus ((try simp only [Kr.PT]); first | done | rfl)))
          (refine Kr.seqSkipQ (a' := ?_) (by rfl) ?_ ?_; rotate_left; (focus ((try simp only [Kr.PT]); first | done | rfl)))
          iterate 2 (refine Kr.seqQ (v := ?_) (a' := ?_) (by rfl) ?_ ?_ ?_; rotate_left 2; (focus (go_simp; first | done | rfl)); (focus ((try simp only [Kr.PT]); first | done | rfl)))
          refine Kr.seqDoneW ?_
          have hk := H.c
          simp only [Kr.Cells] at hk
          go_wp2
          refine bodyPost_ret (v := .bool false) (by simp [results, Tryd.results62, go_sem, hk]) rfl ⟨rfl, H.g⟩
      · have H2 : Hid (decide ((x : Int) ≤ 1024) = false) := Lib.hid (decide_eq_false (by omega))
        obtain rfl : B = false := by rw [HB.out, decide_eq_false h2]; simp
        clear h1 h2 HB
        go_upto_region 2 with fail
        refine Kr.seqStartW ?_
        (refine Kr.seqQ (v := ?_) (a' := ?_) (by rfl) ?_ ?_ ?_; rotate_left 2; (focus (go_simp; first | done | rfl)); (focus ((try simp only [Kr.PT]); first | done | rfl)))
        (refine Kr.seqQ (v := .bool true) (a' := ?_) (by rfl) ?_ ?_ ?_; rotate_left 1; (focus (exact Kr.valOf rfl (geqI H1.out))); (focus ((try simp only [Kr.PT]); first | done | rfl)))
        iterate 2 (refine Kr.seqQ (v := ?_) (a' := ?_) (by rfl) ?_ ?_ ?_; rotate_left 2; (focus (go_simp; first | done | rfl)); (focus ((try simp only [Kr.PT]); first | done | rfl)))
        (refine Kr.seqQ (v := .bool false) (a' := ?_) (by rfl) ?_ ?_ ?_; rotate_left 1; (focus (exact Kr.valOf rfl (leqI H2.out))); (focus ((try simp only [Kr.PT]); first | done | rfl)))
        iterate 2 (refine Kr.seqQ (v := ?_) (a' := ?_) (by rfl) ?_ ?_ ?_; rotate_left 2; (focus (go_simp; first | done | rfl)); (focus ((try simp only [Kr.PT]); first | done | rfl)))
        (refine Kr.seqSkipQ (a' := ?_) (by rfl) ?_ ?_; rotate_left; (focus ((try simp only [Kr.PT]); first | done | rfl)))
        (refine Kr.seqSkipQ (a' := ?_) (by rfl) ?_ ?_; rotate_left; (focus ((try simp only [Kr.PT]); first | done | rfl)))
        iterate 2 (refine Kr.seqQ (v := ?_) (a' := ?_) (by rfl) ?_ ?_ ?_; rotate_left 2; (focus (go_simp; first | done | rfl)); (focus ((try simp only [Kr.PT]); first | done | rfl)))
        (refine Kr.seqSkipQ (a' := ?_) (by rfl) ?_ ?_; rotate_left; (focus ((try simp only [Kr.PT]); first | done | rfl)))
        (refine Kr.seqSkipQ (a' := ?_) (by rfl) ?_ ?_; rotate_left; (focus ((try simp only [Kr.PT]); first | done | rfl)))
        (refine Kr.seqSkipQ (a' := ?_) (by rfl) ?_ ?_; rotate_left; (focus ((try simp only [Kr.PT]); first | done | rfl)))
        (refine Kr.seqSkipQ (a' := ?_) (by rfl) ?_ ?_; rotate_left; (focus ((try simp only [Kr.PT]); first | done | rfl)))
        (refine Kr.seqSkipQ (a' := ?_) (by rfl) ?_ ?_; rotate_left; (focus ((try simp only [Kr.PT]); first | done | rfl)))
        (refine Kr.seqSkipQ (a' := ?_) (by rfl) ?_ ?_; rotate_left; (focus ((try simp only [Kr.PT]); first | done | rfl)))
        iterate 2 (refine Kr.seqQ (v := ?_) (a' := ?_) (by rfl) ?_ ?_ ?_; rotate_left 2; (focus (go_simp; first | done | rfl)); (focus ((try simp only [Kr.PT]); first | done | rfl)))
        refine Kr.seqDoneW ?_
        have hk := H.c
        simp only [Kr.Cells] at hk
        go_wp2
        refine bodyPost_ret (v := .bool false) (by simp [results, Tryd.results62, go_sem, hk]) rfl ⟨rfl, H.g⟩
    · have H1 : Hid (decide ((2 : Int) ≤ (x : Int)) = false) := Lib.hid (decide_eq_false (by omega))
      obtain rfl : B = false := by rw [HB.out, decide_eq_false h1]; simp
      clear h1 HB
      go_upto_region 2 with fail
      refine Kr.seqStartW ?_
      (refine Kr.seqQ (v := ?_) (a' := ?_) (by rfl) ?_ ?_ ?_; rotate_left 2; (focus (go_simp; first | done | rfl)); (focus ((try simp only [Kr.PT]); first | done | rfl)))
      (refine Kr.seqQ (v := .bool false) (a' := ?_) (by rfl) ?_ ?_ ?_; rotate_left 1; (focus (exact Kr.valOf rfl (geqI H1.out))); (focus ((try simp only [Kr.PT]); first | done | rfl)))
      (refine Kr.seqQ (v := ?_) (a' := ?_) (by rfl) ?_ ?_ ?_; rotate_left 2; (focus (go_simp; first | done | rfl)); (focus ((try simp only [Kr.PT]); first | done | rfl)))
      (refine Kr.seqSkipQ (a' := ?_) (by rfl) ?_ ?_; rotate_left; (focus ((try simp only [Kr.PT]); first | done | rfl)))
      (refine Kr.seqSkipQ (a' := ?_) (by rfl) ?_ ?_; rotate_left; (focus ((try simp only [Kr.PT]); first | done | rfl)))
      iterate 2 (refine Kr.seqQ (v := ?_) (a' := ?_) (by rfl) ?_ ?_ ?_; rotate_left 2; (focus (go_simp; first | done | rfl)); (focus ((try simp only [Kr.PT]); first | done | rfl)))
      (refine Kr.seqSkipQ (a' := ?_) (by rfl) ?_ ?_; rotate_left; (focus ((try simp only [Kr.PT]); first | done | rfl)))
      (refine Kr.seqSkipQ (a' := ?_) (by rfl) ?_ ?_; rotate_left; (focus ((try simp only [Kr.PT]); first | done | rfl)))
      iterate 2 (refine Kr.seqQ (v := ?_) (a' := ?_) (by rfl) ?_ ?_ ?_; rotate_left 2; (focus (go_simp; first | done | rfl)); (focus ((try simp only [Kr.PT]); first | done | rfl)))
      (refine Kr.seqSkipQ (a' := ?_) (by rfl) ?_ ?_; rotate_left; (focus ((try simp only [Kr.PT]); first | done | rfl)))
      (refine Kr.seqSkipQ (a' := ?_) (by rfl) ?_ ?_; rotate_left; (focus ((try simp only [Kr.PT]); first | done | rfl)))
      (refine Kr.seqSkipQ (a' := ?_) (by rfl) ?_ ?_; rotate_left; (focus ((try simp only [Kr.PT]); first | done | rfl)))
      (refine Kr.seqSkipQ (a' := ?_) (by rfl) ?_ ?_; rotate_left; (focus ((try simp only [Kr.PT]); first | done | rfl)))
      (refine Kr.seqSkipQ (a' := ?_) (by rfl) ?_ ?_; rotate_left; (focus ((try simp only [Kr.PT]); first | done | rfl)))
      (refine Kr.seqSkipQ (a' := ?_) (by rfl) ?_ ?_; rotate_left; (focus ((try simp only [Kr.PT]); first | done | rfl)))
      iterate 2 (refine Kr.seqQ (v := ?_) (a' := ?_) (by rfl) ?_ ?_ ?_; rotate_left 2; (focus (go_simp; first | done | rfl)); (focus ((try simp only [Kr.PT]); first | done | rfl)))
      refine Kr.seqDoneW ?_
      have hk := H.c
      simp only [Kr.Cells] at hk
      go_wp2
      refine bodyPost_ret (v := .bool false) (by simp [results, Tryd.results62, go_sem, hk]) rfl ⟨rfl, H.g⟩
set_option linter.unusedSimpArgs false in
set_option maxRecDepth 100000 in
set_option maxHeartbeats 16000000 in
theorem isOne_v {pa : Option Addr} {na ca : Nat} {pe : Option Addr} {ne ce : Nat} {pm : Option Addr} {nm cm : Nat} {x e m : Nat} {w : World} (ha : Nw w pa na ca (digs x)) (he : Nw w pe ne ce (digs e)) (hm : Nw w pm nm cm (digs m)) (hx : x < m) (ve : e < pw 64) (vm : m < pw 32) :
    Calls Tryd.prog 84 #[.agg #[.slice pa na ca], .agg #[.slice pe ne ce], .agg #[.slice pm nm cm]] w fun r w' => r = .returned (.bool (decide (x ^ e % m = 1))) ∧ Gr w w' := by
  have HX := Lib.hid hx; have VE := Lib.hid ve; have VM := Lib.hid vm; clear hx ve vm
  obtain ⟨z, hz⟩ : ∃ z, x ^ e % m = z := ⟨_, rfl⟩
  obtain ⟨B, hB⟩ : ∃ B, decide (x ^ e % m = 1) = B := ⟨_, rfl⟩
  rw [hB]
  have HZ := Lib.hid hz; have HZM : Hid (z < pw 64) := Lib.hid (Nat.lt_trans (hz ▸ Nat.mod_lt _ (Nat.lt_of_le_of_lt (Nat.zero_le _) HX.out)) (lt64 VM.out)); have HB : Hid (decide (ord z 1 = 0) = B) := Lib.hid (by rw [ord_zero, ← hz]; exact hB); clear hz hB
  have H := Sta.start w
  replace H := H.num ha
  replace H := H.num he
  replace H := H.num hm
  go_enter Tryd.func84, Tryd.ntmps84
  go_upto_region 0 with fail
  refine Kr.seqStartW ?_
  refine Kr.seqR (by rfl) (fun K hK => ?_)
  go_simp
  obtain ⟨y1, hy⟩ : ∃ y, w.alloc (.cells #[.slice pa na ca] 43) = y := ⟨_, rfl⟩
  obtain ⟨ba, hb⟩ : ∃ b, w.heap.size = b := ⟨_, rfl⟩
  rw [hy, hb]
  replace H := H.alloc hy hb rfl
  clear hy hb
  (refine Kr.outS hK (a' := ?_) ?_ ?_; rotate_left; (focus ((try simp only [Kr.PT]); first | done | rfl))); clear hK K
  refine Kr.seqR (by rfl) (fun K hK => ?_)
  go_simp
  obtain ⟨y2, hy⟩ : ∃ y, y1.alloc (.cells #[.slice pe ne ce] 43) = y := ⟨_, rfl⟩
  obtain ⟨be, hb⟩ : ∃ b, y1.heap.size = b := ⟨_, rfl⟩
  rw [hy, hb]
  replace H := H.alloc hy hb rfl
  clear hy hb
  (refine Kr.outS hK (a' := ?_) ?_ ?_; rotate_left; (focus ((try simp only [Kr.PT]); first | done | rfl))); clear hK K
  refine Kr.seqR (by rfl) (fun K hK => ?_)
  go_simp
  obtain ⟨y3, hy⟩ : ∃ y, y2.alloc (.cells #[.slice pm nm cm] 43) = y := ⟨_, rfl⟩
  obtain ⟨bm, hb⟩ : ∃ b, y2.heap.size = b := ⟨_, rfl⟩
  rw [hy, hb]
  replace H := H.alloc hy hb rfl
  clear hy hb
  (refine Kr.outS hK (a' := ?_) ?_ ?_; rotate_left; (focus ((try simp only [Kr.PT]); first | done | rfl))); clear hK K
  (refine Kr.seqQ (v := ?_) (a' := ?_) (by rfl) ?_ ?_ ?_; rotate_left 2; (focus (go_simp; first | done | rfl)); (focus ((try simp only [Kr.PT]); first | done | rfl)))
  refine Kr.seqDoneW ?_
  go_upto_region 1 with fail
  refine Kr.seqStartW ?_
  have hk := H.c
  simp only [Kr.Cells] at hk
  iterate 3 (refine Kr.seqQ (v := ?_) (a' := ?_) (by rfl) ?_ ?_ ?_; rotate_left 2; (focus (go_simp; first | done | rfl)); (focus ((try simp only [Kr.PT]); first | done | rfl)))
  refine Kr.seqR (by rfl) (fun K hK => ?_)
  go_simp
  go_at_call 71
  have hP := mPow_ok (H.nw 2 rfl) (H.nw 1 rfl) (H.nw 0 rfl) HX.out VE.out VM.out
  rw [HZ.out] at hP
  refine (hP).mono ?_
  rintro e y4 ⟨p4, n4, c4, rfl, hr, hg⟩
  clear hk
  replace H := H.grow hg
  replace H := H.num hr
  clear hr hg
  clear hP
  (refine Kr.outS hK (a' := ?_) ?_ ?_; rotate_left; (focus ((try simp only [Kr.PT]); first | done | rfl))); clear hK K
  iterate 3 (refine Kr.seqQ (v := ?_) (a' := ?_) (by rfl) ?_ ?_ ?_; rotate_left 2; (focus (go_simp; first | done | rfl)); (focus ((try simp only [Kr.PT]); first | done | rfl)))
  refine Kr.seqR (by rfl) (fun K hK => ?_)
  go_simp
  obtain ⟨y5, hy⟩ : ∃ y, y4.alloc (.cells #[.slice none 0 0] 43) = y := ⟨_, rfl⟩
  obtain ⟨bx, hb⟩ : ∃ b, y4.heap.size = b := ⟨_, rfl⟩
  rw [hy, hb]
  replace H := H.alloc hy hb rfl
  clear hy hb
  (refine Kr.outS hK (a' := ?_) ?_ ?_; rotate_left; (focus ((try simp only [Kr.PT]); first | done | rfl))); clear hK K
  have hk := H.c
  simp only [Kr.Cells] at hk
  refine Kr.seqR (by rfl) (fun K hK => ?_)
  go_simp
  clear hk
  obtain ⟨y6, hy⟩ : ∃ y, y5.setCell ⟨bx, 0, none⟩ (.slice p4 n4 c4) = y := ⟨_, rfl⟩
  rw [hy]
  replace H := H.store 0 hy rfl rfl
  dsimp only [List.set] at H
  clear hy
  (refine Kr.outS hK (a' := ?_) ?_ ?_; rotate_left; (focus ((try simp only [Kr.PT]); first | done | rfl))); clear hK K
  (refine Kr.seqQ (v := ?_) (a' := ?_) (by rfl) ?_ ?_ ?_; rotate_left 2; (focus (go_simp; first | done | rfl)); (focus ((try simp only [Kr.PT]); first | done | rfl)))
  refine Kr.seqDoneW ?_
  go_upto_region 2 with fail
  refine Kr.startL (fun W' => Kr.Cells W' [(bx, 0, .slice p4 n4 c4)]) [] (by kernel_rfl) ?_
  have gd : Gr y6 y6.drew := (Gr.refl _).drew
  generalize y6.drew = d7 at gd ⊢
  replace H := H.grow gd
  clear gd
  refine have nd2_2 : ∀ (Wd2 : World) (p8 : Option Addr) (n8 : Nat) (c8 : Nat), Sta w Wd2 [(bx, 0, .slice p4 n4 c4), (bm, 0, .slice pm nm cm), (be, 0, .slice pe ne ce), (ba, 0, .slice pa na ca)] [N p8 n8 c8 (1), N p4 n4 c4 (z), N pm nm cm (m), N pe ne ce (e), N pa na ca (x)] → (?Q2_2 : World → Option Addr → Nat → Nat → Prop) Wd2 p8 n8 c8 := ?pf2_2; ?mn2_2
  case' mn2_2 => refine have nd2_1 : ∀ (Wd1 : World) (p8 : Option Addr) (n8 : Nat) (c8 : Nat), Sta w Wd1 [(bx, 0, .slice p4 n4 c4), (bm, 0, .slice pm nm cm), (be, 0, .slice pe ne ce), (ba, 0, .slice pa na ca)] [N p8 n8 c8 (1), N p4 n4 c4 (z), N pm nm cm (m), N pe ne ce (e), N pa na ca (x)] → (?Q2_1 : World → Option Addr → Nat → Nat → Prop) Wd1 p8 n8 c8 := ?pf2_1; ?mn2_1
  case mn2_1 =>
    (refine Kr.tSQ 0 [] (v := ?_) (a' := ?_) rfl (by kernel_rfl) (fun _ _ _ h => h) (by rfl) (H.sub [0] rfl) (fun wx hSx => ?_) ?_ ?_; rotate_left 2; (focus (simp only [Kr.Cells] at hSx; go_simp; first | done | rfl)); (focus ((try simp only [Kr.PT]); first | done | rfl)))
    refine Kr.readyL (rs := [1]) (by kernel_rfl) (by simp) ?_
    refine Kr.AllL.cons rfl (fun K hK => ?_) Kr.AllL.nil
    go_simp
    go_at_call 47
    refine (of_v (x := 1) (by decide)).mono ?_
    rintro e y8 ⟨p8, n8, c8, rfl, hr, hg⟩
    replace H := H.grow hg
    replace H := H.num hr
    clear hr hg
    (refine Kr.outL hK (a' := ?_) ?_ (fun _ => (H.sub [0] rfl)) ?_; rotate_left; (focus ((try simp only [Kr.PT]); first | done | rfl))); clear hK K
    refine Kr.relistL (l2 := #[true, true, false, false, false]) (by kernel_rfl) ?_
    exact nd2_1 y8 p8 n8 c8 H
  case pf2_1 =>
    intro Wd1 p8 n8 c8 H
    refine Kr.readyL (rs := [2]) (by kernel_rfl) (by simp) ?_
    refine Kr.AllL.cons rfl (fun K hK => ?_) Kr.AllL.nil
    go_simp
    go_at_call 79
    refine (Compare_v (H.nw 1 rfl) (H.nw 0 rfl) HZM.out (dv_small (by decide))).mono ?_
    rintro e y9 ⟨rfl, hg⟩
    replace H := H.grow hg
    clear hg
    (refine Kr.outL hK (a' := ?_) ?_ (fun _ => (H.sub [0] rfl)) ?_; rotate_left; (focus ((try simp only [Kr.PT]); first | done | rfl))); clear hK K
    (refine Kr.tPQ 3 (v := .bool B) (a' := ?_) rfl (by kernel_rfl) (fun _ _ _ h => h) (by rfl) (fun _ => (H.sub [0] rfl)) (fun wx => ?_) ?_ ?_; rotate_left 1; (focus (exact Kr.valOf rfl (eqlI HB.out))); (focus ((try simp only [Kr.PT]); first | done | rfl)))
    (refine Kr.tPQ 4 (v := ?_) (a' := ?_) rfl (by kernel_rfl) (fun _ _ _ h => h) (by rfl) (fun _ => (H.sub [0] rfl)) (fun wx => ?_) ?_ ?_; rotate_left 2; (focus (go_simp; first | done | rfl)); (focus ((try simp only [Kr.PT]); first | done | rfl)))
    refine Kr.relistL (l2 := #[true, true, true, true, true]) (by kernel_rfl) ?_
    exact nd2_2 y9 p8 n8 c8 H
  case pf2_2 =>
    intro Wd2 p8 n8 c8 H
    refine Kr.doneL (by kernel_rfl) ?_ _
    have hk := H.c
    simp only [Kr.Cells] at hk
    go_wp2
    refine bodyPost_ret (v := .bool B) (by simp [results, Tryd.results84, go_sem, hk]) rfl ⟨rfl, H.g⟩
end Go.Proofs.YtfompolklkehpaaDoor.Pr


/- What isProduct says; parts in memory. -/
namespace Go.Proofs.YtfompolklkehpaaDoor.Pr
open Go.RowKit Go.Shelf Go.Proofs.YtfompolklkehpaaDoor.Nm Go.Proofs.YtfompolklkehpaaDoor.Ne Go.Proofs.YtfompolklkehpaaDoor.Nf Go.Proofs.YtfompolklkehpaaDoor.Nk Go.Proofs.YtfompolklkehpaaDoor.Nv Go.Proofs.YtfompolklkehpaaDoor.Nr2 Go.Proofs.YtfompolklkehpaaDoor.Mo Go.Proofs.YtfompolklkehpaaDoor.Mr Go.Proofs.YtfompolklkehpaaDoor.Kr

/-- A list that does not descend. -/
def asc : List Nat → Bool
  | [] => true
  | [_] => true
  | x :: y :: r => decide (x ≤ y) && asc (y :: r)
theorem asc_iff : ∀ {l : List Nat}, asc l = true ↔ ∀ i x y, l[i]? = some x → l[i + 1]? = some y → x ≤ y
  | [] => ⟨fun _ i x y h => by simp at h, fun _ => rfl⟩
  | [a] => ⟨fun _ i x y h h2 => by simp at h2, fun _ => rfl⟩
  | a :: b :: r => by
    have ih := asc_iff (l := b :: r)
    constructor
    · intro h i x y hx hy
      simp only [asc, Bool.and_eq_true, decide_eq_true_eq] at h
      match i, hx, hy with
      | 0, hx, hy =>
        have e1 : a = x := by simpa using hx
        have e2 : b = y := by simpa using hy
        rw [← e1, ← e2]; exact h.1
      | i + 1, hx, hy => exact ih.1 h.2 i x y (by simpa using hx) (by simpa using hy)
    · intro h
      simp only [asc, Bool.and_eq_true, decide_eq_true_eq]
      exact ⟨h 0 a b rfl rfl, ih.2 fun i x y hx hy => h (i + 1) x y (by simpa using hx) (by simpa using hy)⟩
theorem asc_no {l : List Nat} {i x y : Nat} (hx : l[i]? = some x) (hy : l[i + 1]? = some y) (h : y < x) : asc l = false := by
  cases e : asc l with
  | false => rfl
  | true =>
    have := asc_iff.1 e i x y hx hy
    omega
theorem lp_take {l : List Nat} {j x : Nat} (h : l[j]? = some x) : lp (l.take (j + 1)) = lp (l.take j) * x := by
  rw [List.take_add_one, h]
  show lp (l.take j ++ [x]) = _
  rw [lp_append]
  show _ * (x * 1) = _
  rw [Nat.mul_one]
theorem lp_great {l : List Nat} {j n : Nat} (hn : 0 < n) (hs : n < pw 64) (h : pw 64 ≤ lp (l.take j)) : lp l ≠ n := by
  intro e
  have h1 : lp l = lp (l.take j) * lp (l.drop j) := by rw [← lp_append, List.take_append_drop]
  rw [e] at h1
  have h2 : 0 < lp (l.drop j) := Nat.pos_of_ne_zero (fun h0 => by rw [h0, Nat.mul_zero] at h1; omega)
  have h3 : lp (l.take j) * 1 ≤ lp (l.take j) * lp (l.drop j) := Nat.mul_le_mul_left _ h2
  omega
/-- The numbers of the parts. -/
def nums (c : Ct) : List Nat := c.ps.map fun d => val d.n
/-- What isProduct says. -/
def prodB (c : Ct) (n : Nat) : Bool := asc (nums c) && decide (lp (nums c) = n)
/-- All numbers of the parts are valid. -/
def PV (c : Ct) : Prop := ∀ d ∈ c.ps, decide (valid d.n) = true
theorem ord_pos {x y : Nat} : decide (0 < ord x y) = decide (y < x) := by
  unfold ord
  by_cases h1 : x < y
  · simp [h1]; omega
  · by_cases h2 : y < x <;> simp [h1, h2]
theorem nw_val {W : World} {p : Option Addr} {n c : Nat} {l : List Nat} (h : Nw W p n c l) (hv : decide (valid l) = true) : Nw W p n c (digs (val l)) ∧ val l < pw 64 := by
  obtain ⟨x, hx, rfl⟩ := nw_value h hv
  rw [val_digs]
  exact ⟨h, hx⟩
/-- A part, with all that is read of it. -/
structure PartAt (w : World) (k : Nat) (pp : Option Addr) (j : Nat) (d : Ct) : Prop where
  at_ : ∃ (b off : Nat) (pn : Option Addr) (nn cn : Nat) (pr : Option Addr) (nr cr : Nat) (qp : Option Addr) (mp dp : Nat), pp = some ⟨b, off, none⟩ ∧
    (∀ W, Gr w W → W.cell? ⟨b, off + j * 3, none⟩ = some (.slice pn nn cn)) ∧ (∀ W, Gr w W → W.cell? ⟨b, off + j * 3 + 1, none⟩ = some (.slice pr nr cr)) ∧ (∀ W, Gr w W → W.cell? ⟨b, off + j * 3 + 2, none⟩ = some (.slice qp mp dp)) ∧
    (∀ W, Gr w W → Nw W pn nn cn d.n) ∧ (∀ W, Gr w W → CertV W k (.agg #[.slice pn nn cn, .slice pr nr cr, .slice qp mp dp]) d)
/-- The slice reads as these certificates. -/
def PartsV (w : World) (k : Nat) (pp : Option Addr) (ps : List Ct) : Prop := ∀ j d, ps[j]? = some d → PartAt w k pp j d
theorem CertV.nw {W : World} {k : Nat} {v0 v1 v2 : Value} {c : Ct} (h : CertV W k (.agg #[v0, v1, v2]) c) : ∃ (pn : Option Addr) (nn cn : Nat) (pr : Option Addr) (nr cr : Nat) (pp : Option Addr) (cp : Nat), v0 = .slice pn nn cn ∧ v1 = .slice pr nr cr ∧ v2 = .slice pp c.ps.length cp ∧ Nw W pn nn cn c.n ∧ Nw W pr nr cr c.r := by
  cases k with
  | zero => exact h.elim
  | succ k =>
    obtain ⟨pn, nn, cn, pr, nr, cr, pp, cp, e, h1, h2, _⟩ := h
    simp only [Value.agg.injEq, Array.mk.injEq, List.cons.injEq] at e
    exact ⟨pn, nn, cn, pr, nr, cr, pp, cp, by simpa using e.1, by simpa using e.2.1, by simpa using e.2.2, h1, h2⟩
theorem parts_of {w : World} {k : Nat} {pp : Option Addr} {ps : List Ct} (h : ∀ (j : Nat) (d : Ct), ps[j]? = some d → ∃ (b off : Nat) (v0 v1 v2 : Value), pp = some ⟨b, off, none⟩ ∧ w.cell? ⟨b, off + j * 3, none⟩ = some v0 ∧ w.cell? ⟨b, off + j * 3 + 1, none⟩ = some v1 ∧ w.cell? ⟨b, off + j * 3 + 2, none⟩ = some v2 ∧ CertV w k (.agg #[v0, v1, v2]) d) : PartsV w k pp ps := by
  intro j d hd
  obtain ⟨b, off, v0, v1, v2, e, c0, c1, c2, hc⟩ := h j d hd
  obtain ⟨pn, nn, cn, pr, nr, cr, qp, dp, rfl, rfl, rfl, h1, h2⟩ := hc.nw
  exact ⟨b, off, pn, nn, cn, pr, nr, cr, qp, _, dp, e, fun W g => g.cell c0, fun W g => g.cell c1, fun W g => g.cell c2, fun W g => h1.grow g, fun W g => hc.grow g⟩
end Go.Proofs.YtfompolklkehpaaDoor.Pr


/- isProduct. -/
namespace Go.Proofs.YtfompolklkehpaaDoor.Pr
open Go.RowKit Go.Shelf Go.Proofs.YtfompolklkehpaaDoor.Nm Go.Proofs.YtfompolklkehpaaDoor.Ne Go.Proofs.YtfompolklkehpaaDoor.Nf Go.Proofs.YtfompolklkehpaaDoor.Nk Go.Proofs.YtfompolklkehpaaDoor.Nv Go.Proofs.YtfompolklkehpaaDoor.Nr2 Go.Proofs.YtfompolklkehpaaDoor.Mo Go.Proofs.YtfompolklkehpaaDoor.Mr Go.Proofs.YtfompolklkehpaaDoor.Kr

theorem fits_small {x : Nat} (h : x < pw 64) : Fits x x 0 := .inl ⟨h, rfl, rfl⟩
theorem fits_big {x : Nat} (h : pw 64 ≤ x) : Fits x 0 9 := .inr ⟨h, rfl, rfl⟩
set_option linter.unusedSimpArgs false in
set_option maxRecDepth 100000 in
set_option maxHeartbeats 16000000 in
theorem isProduct_v {k : Nat} {c : Ct} {pp : Option Addr} {cp : Nat} {pn : Option Addr} {nn cn x : Nat} {w : World} (hrow : PartsV w k pp c.ps) (hlen : c.ps.length < 9223372036854775808) (hv : PV c) (hn : Nw w pn nn cn (digs x)) (hx0 : 0 < x) (hxm : x < pw 64) :
    Calls Tryd.prog 64 #[.slice pp c.ps.length cp, .agg #[.slice pn nn cn]] w fun e w' => e = .returned (.bool (prodB c x)) ∧ Gr w w' := by
  have HROW := Lib.hid hrow; have HV := Lib.hid hv; have HX0 := Lib.hid hx0; have HXM := Lib.hid hxm; clear hrow hv hx0 hxm
  obtain ⟨m, hml⟩ : ∃ m, c.ps.length = m := ⟨_, rfl⟩
  rw [hml]
  have HML := Lib.hid hml; have HMB : Hid (m < 9223372036854775808) := Lib.hid (hml ▸ hlen); clear hml hlen
  obtain ⟨B, hB⟩ : ∃ B, prodB c x = B := ⟨_, rfl⟩
  rw [hB]
  have HB : Hid (B = (asc (nums c) && decide (lp (nums c) = x))) := Lib.hid hB.symm; clear hB
  have H := Sta.start w
  replace H := H.num hn
  go_enter Tryd.func64, Tryd.ntmps64
  go_upto_region 0 with fail
  refine Kr.seqStartW ?_
  refine Kr.seqR (by rfl) (fun K hK => ?_)
  go_simp
  obtain ⟨y1, hy⟩ : ∃ y, w.alloc (.cells #[.slice pn nn cn] 43) = y := ⟨_, rfl⟩
  obtain ⟨bn, hb⟩ : ∃ b, w.heap.size = b := ⟨_, rfl⟩
  rw [hy, hb]
  replace H := H.alloc hy hb rfl
  clear hy hb
  (refine Kr.outS hK (a' := ?_) ?_ ?_; rotate_left; (focus ((try simp only [Kr.PT]); first | done | rfl))); clear hK K
  (refine Kr.seqQ (v := ?_) (a' := ?_) (by rfl) ?_ ?_ ?_; rotate_left 2; (focus (go_simp; first | done | rfl)); (focus ((try simp only [Kr.PT]); first | done | rfl)))
  refine Kr.seqDoneW ?_
  go_upto_region 1 with fail
  refine Kr.seqStartW ?_
  refine Kr.seqR (by rfl) (fun K hK => ?_)
  go_simp
  go_at_call 47
  refine (of_v (x := 1) (by decide)).mono ?_
  rintro e y2 ⟨p2, n2, c2, rfl, hr, hg⟩
  replace H := H.grow hg
  replace H := H.num hr
  clear hr hg
  (refine Kr.outS hK (a' := ?_) ?_ ?_; rotate_left; (focus ((try simp only [Kr.PT]); first | done | rfl))); clear hK K
  refine Kr.seqR (by rfl) (fun K hK => ?_)
  go_simp
  obtain ⟨y3, hy⟩ : ∃ y, y2.alloc (.cells #[.slice none 0 0] 43) = y := ⟨_, rfl⟩
  obtain ⟨bz, hb⟩ : ∃ b, y2.heap.size = b := ⟨_, rfl⟩
  rw [hy, hb]
  replace H := H.alloc hy hb rfl
  clear hy hb
  (refine Kr.outS hK (a' := ?_) ?_ ?_; rotate_left; (focus ((try simp only [Kr.PT]); first | done | rfl))); clear hK K
  have hk := H.c
  simp only [Kr.Cells] at hk
  refine Kr.seqR (by rfl) (fun K hK => ?_)
  go_simp
  clear hk
  obtain ⟨y4, hy⟩ : ∃ y, y3.setCell ⟨bz, 0, none⟩ (.slice p2 n2 c2) = y := ⟨_, rfl⟩
  rw [hy]
  replace H := H.store 0 hy rfl rfl
  dsimp only [List.set] at H
  clear hy
  (refine Kr.outS hK (a' := ?_) ?_ ?_; rotate_left; (focus ((try simp only [Kr.PT]); first | done | rfl))); clear hK K
  refine Kr.seqDoneW ?_
  go_upto_region 2 with fail
  refine Kr.seqStartW ?_
  iterate 3 (refine Kr.seqQ (v := ?_) (a' := ?_) (by rfl) ?_ ?_ ?_; rotate_left 2; (focus (go_simp; first | done | rfl)); (focus ((try simp only [Kr.PT]); first | done | rfl)))
  refine Kr.seqDoneW ?_
  replace H := H.pick [0, 1] rfl
  have H2 := Lib.hid H
  clear H
  go_wp2_with fail
  go_loopw [12] (fun i wr => ∃ (j z : Nat) (pz : Option Addr) (nz cz : Nat), j ≤ m ∧ i = .int .i64 (j : Int) ∧ Hid (z = lp ((nums c).take j)) ∧ Hid (z < pw 64) ∧ Hid (∀ i a b, i + 1 < j → (nums c)[i]? = some a → (nums c)[i + 1]? = some b → a ≤ b) ∧ Hid (Sta w wr [(bz, 0, .slice pz nz cz), (bn, 0, .slice pn nn cn)] [N pz nz cz (z), N pn nn cn (x)])) (fun i _ => m - (intOf i).toNat)
  case atStart => exact ⟨0, 1, _, _, _, Nat.zero_le _, rfl, Lib.hid (by simp [lp]), Lib.hid (dv_small (by decide)), Lib.hid (fun i a b h => absurd h (by omega)), H2⟩
  case round =>
    clear H2
    obtain ⟨j, z, pz, nz, cz, hj, rfl, HZ, HZM, HAS, HH⟩ := hrel
    have H := HH.out; clear HH
    by_cases hjn : j = m
    · have HC : Hid (decide ((j : Int) < (m : Int)) = false) := Lib.hid (decide_eq_false (by omega))
      have HNN : Hid ((nums c).length = m) := Lib.hid (by unfold nums; rw [List.length_map]; exact HML.out)
      have HASC : Hid (asc (nums c) = true) := Lib.hid (asc_iff.2 fun i a b h1 h2 => HAS.out i a b (by have := (List.getElem?_eq_some_iff.1 h2).1; have := HNN.out; omega) h1 h2)
      have HBB : Hid (decide (ord z x = 0) = B) := Lib.hid (by rw [HB.out, HASC.out, ord_zero, HZ.out, hjn, ← HNN.out, List.take_length]; rfl)
      clear hjn HB
      go_upto_region 3 with fail
      refine Kr.seqStartW ?_
      (refine Kr.seqQ (v := .bool false) (a' := ?_) (by rfl) ?_ ?_ ?_; rotate_left 1; (focus (exact Kr.valOf rfl (lssT HC.out))); (focus ((try simp only [Kr.PT]); first | done | rfl)))
      refine Kr.seqDoneW ?_
      go_upto_region 12 with fail
      refine Kr.seqStartW ?_
      have hk := H.c
      simp only [Kr.Cells] at hk
      iterate 2 (refine Kr.seqQ (v := ?_) (a' := ?_) (by rfl) ?_ ?_ ?_; rotate_left 2; (focus (go_simp; first | done | rfl)); (focus ((try simp only [Kr.PT]); first | done | rfl)))
      refine Kr.seqR (by rfl) (fun K hK => ?_)
      go_simp
      go_at_call 79
      refine (Compare_v (H.nw 0 rfl) (H.nw 1 rfl) HZM.out HXM.out).mono ?_
      rintro e y5 ⟨rfl, hg⟩
      clear hk
      replace H := H.grow hg
      clear hg
      (refine Kr.outS hK (a' := ?_) ?_ ?_; rotate_left; (focus ((try simp only [Kr.PT]); first | done | rfl))); clear hK K
      (refine Kr.seqQ (v := .bool B) (a' := ?_) (by rfl) ?_ ?_ ?_; rotate_left 1; (focus (exact Kr.valOf rfl (eqlI HBB.out))); (focus ((try simp only [Kr.PT]); first | done | rfl)))
      (refine Kr.seqQ (v := ?_) (a' := ?_) (by rfl) ?_ ?_ ?_; rotate_left 2; (focus (go_simp; first | done | rfl)); (focus ((try simp only [Kr.PT]); first | done | rfl)))
      refine Kr.seqDoneW ?_
      have hk := H.c
      simp only [Kr.Cells] at hk
      go_wp2
      refine bodyPost_ret (v := .bool B) (by simp [results, Tryd.results64, go_sem, hk]) rfl ⟨rfl, H.g⟩
    · have HJ : Hid (j < m) := Lib.hid (by omega)
      have HC : Hid (decide ((j : Int) < (m : Int)) = true) := Lib.hid (decide_eq_true (by omega))
      clear hjn
      have hjl : j < c.ps.length := by rw [HML.out]; exact HJ.out
      obtain ⟨d, hd⟩ : ∃ d, c.ps[j]? = some d := ⟨_, List.getElem?_eq_getElem hjl⟩
      obtain ⟨⟨b, off, qn, mn, dn, qr, mr, dr, qp, mp, dp, hpp, h0, h1, h2, hnd, hcd⟩⟩ := HROW.out j d hd
      subst hpp
      have HVD := Lib.hid (HV.out d (List.mem_of_getElem? hd)); have HND := Lib.hid hnd
      have HNJ : Hid ((nums c)[j]? = some (val d.n)) := Lib.hid (by unfold nums; rw [List.getElem?_map, hd]; rfl)
      have h0 := h0 _ H.g; have h1 := h1 _ H.g; have h2 := h2 _ H.g
      obtain ⟨y0, hy0⟩ : ∃ y0, val d.n = y0 := ⟨_, rfl⟩
      have hq := nw_val (hnd _ H.g) HVD.out
      rw [hy0] at hq HNJ
      replace H := H.num hq.1
      have HYM := Lib.hid hq.2; clear hq hy0 hnd hcd hjl hd
      have hj1 : j < m := HJ.out; have hj2 : (j : Int) < (m : Int) := by omega
      go_upto_region 3 with fail
      refine Kr.seqStartW ?_
      (refine Kr.seqQ (v := .bool true) (a' := ?_) (by rfl) ?_ ?_ ?_; rotate_left 1; (focus (exact Kr.valOf rfl (lssT HC.out))); (focus ((try simp only [Kr.PT]); first | done | rfl)))
      refine Kr.seqDoneW ?_
      go_upto_region 4 with fail
      refine Kr.seqStartW ?_
      iterate 2 (refine Kr.seqQ (v := ?_) (a' := ?_) (by rfl) ?_ ?_ ?_; rotate_left 2; (focus (go_simp; first | done | rfl)); (focus ((try simp only [Kr.PT]); first | done | rfl)))
      have hk := H.c
      simp only [Kr.Cells] at hk
      (refine Kr.seqQ (v := ?_) (a' := ?_) (by rfl) ?_ ?_ ?_; rotate_left 2; (focus (go_simp; first | done | rfl)); (focus ((try simp only [Kr.PT]); first | done | rfl)))
      refine Kr.seqR (by rfl) (fun K hK => ?_)
      go_simp
      clear hk
      obtain ⟨y6, hy⟩ : ∃ y, wr.alloc (.cells #[.slice none 0 0, .slice none 0 0, .slice none 0 0] 46) = y := ⟨_, rfl⟩
      obtain ⟨bp, hb⟩ : ∃ b, wr.heap.size = b := ⟨_, rfl⟩
      rw [hy, hb]
      replace H := Sta_alloc3 H hy hb rfl rfl rfl
      clear hy hb
      (refine Kr.outS hK (a' := ?_) ?_ ?_; rotate_left; (focus ((try simp only [Kr.PT]); first | done | rfl))); clear hK K
      (refine Kr.seqQ (v := ?_) (a' := ?_) (by rfl) ?_ ?_ ?_; rotate_left 2; (focus (go_simp; first | done | rfl)); (focus ((try simp only [Kr.PT]); first | done | rfl)))
      have hk := H.c
      simp only [Kr.Cells] at hk
      refine Kr.seqR (by rfl) (fun K hK => ?_)
      go_simp
      clear hk
      obtain ⟨y7, hy⟩ : ∃ y, y6.setCell ⟨bp, 0, none⟩ (.slice qn mn dn) = y := ⟨_, rfl⟩
      rw [hy]
      replace H := H.store 0 hy rfl rfl
      dsimp only [List.set] at H
      clear hy
      obtain ⟨y8, hy⟩ : ∃ y, y7.setCell ⟨bp, 1, none⟩ (.slice qr mr dr) = y := ⟨_, rfl⟩
      rw [hy]
      replace H := H.store 1 hy rfl rfl
      dsimp only [List.set] at H
      clear hy
      obtain ⟨y9, hy⟩ : ∃ y, y8.setCell ⟨bp, 2, none⟩ (.slice qp mp dp) = y := ⟨_, rfl⟩
      rw [hy]
      replace H := H.store 2 hy rfl rfl
      dsimp only [List.set] at H
      clear hy
      (refine Kr.outS hK (a' := ?_) ?_ ?_; rotate_left; (focus ((try simp only [Kr.PT]); first | done | rfl))); clear hK K
      refine Kr.seqDoneW ?_
      clear h0 h1 h2 hj1 hj2
      have HLT : Hid (lp ((nums c).take (j + 1)) = z * y0) := Lib.hid (by rw [lp_take HNJ.out, HZ.out])
      by_cases hj0 : j = 0
      · have HC0 : Hid (decide ((0 : Int) < (j : Int)) = false) := Lib.hid (decide_eq_false (by omega))
        have HOKJ : Hid (∀ i a b, i + 1 < j + 1 → (nums c)[i]? = some a → (nums c)[i + 1]? = some b → a ≤ b) := Lib.hid (fun i a b h => absurd h (by omega))
        clear hj0
        go_upto_region 5 with fail
        refine Kr.startL (fun W' => Kr.Cells W' []) [] (by kernel_rfl) ?_
        have gd : Gr y9 y9.drew := (Gr.refl _).drew
        generalize y9.drew = d11 at gd ⊢
        replace H := H.grow gd
        clear gd
        (refine Kr.tPQ 0 (v := ?_) (a' := ?_) rfl (by kernel_rfl) (fun _ _ _ h => h) (by rfl) (fun _ => (H.sub [] rfl)) (fun wx => ?_) ?_ ?_; rotate_left 2; (focus (go_simp; first | done | rfl)); (focus ((try simp only [Kr.PT]); first | done | rfl)))
        (refine Kr.tPQ 1 (v := .bool false) (a' := ?_) rfl (by kernel_rfl) (fun _ _ _ h => h) (by rfl) (fun _ => (H.sub [] rfl)) (fun wx => ?_) ?_ ?_; rotate_left 1; (focus (exact Kr.valOf rfl (gtrI HC0.out))); (focus ((try simp only [Kr.PT]); first | done | rfl)))
        (refine Kr.tPQ 2 (v := ?_) (a' := ?_) rfl (by kernel_rfl) (fun _ _ _ h => h) (by rfl) (fun _ => (H.sub [] rfl)) (fun wx => ?_) ?_ ?_; rotate_left 2; (focus (go_simp; first | done | rfl)); (focus ((try simp only [Kr.PT]); first | done | rfl)))
        (refine Kr.tOQ 3 (a' := ?_) rfl (by kernel_rfl) (fun _ _ _ h => h) (by rfl) (fun _ => (H.sub [] rfl)) ?_ ?_; rotate_left; (focus ((try simp only [Kr.PT]); first | done | rfl)))
        (refine Kr.tOQ 4 (a' := ?_) rfl (by kernel_rfl) (fun _ _ _ h => h) (by rfl) (fun _ => (H.sub [] rfl)) ?_ ?_; rotate_left; (focus ((try simp only [Kr.PT]); first | done | rfl)))
        (refine Kr.tOQ 5 (a' := ?_) rfl (by kernel_rfl) (fun _ _ _ h => h) (by rfl) (fun _ => (H.sub [] rfl)) ?_ ?_; rotate_left; (focus ((try simp only [Kr.PT]); first | done | rfl)))
        (refine Kr.tOQ 6 (a' := ?_) rfl (by kernel_rfl) (fun _ _ _ h => h) (by rfl) (fun _ => (H.sub [] rfl)) ?_ ?_; rotate_left; (focus ((try simp only [Kr.PT]); first | done | rfl)))
        (refine Kr.tOQ 7 (a' := ?_) rfl (by kernel_rfl) (fun _ _ _ h => h) (by rfl) (fun _ => (H.sub [] rfl)) ?_ ?_; rotate_left; (focus ((try simp only [Kr.PT]); first | done | rfl)))
        (refine Kr.tOQ 8 (a' := ?_) rfl (by kernel_rfl) (fun _ _ _ h => h) (by rfl) (fun _ => (H.sub [] rfl)) ?_ ?_; rotate_left; (focus ((try simp only [Kr.PT]); first | done | rfl)))
        (refine Kr.tOQ 9 (a' := ?_) rfl (by kernel_rfl) (fun _ _ _ h => h) (by rfl) (fun _ => (H.sub [] rfl)) ?_ ?_; rotate_left; (focus ((try simp only [Kr.PT]); first | done | rfl)))
        (refine Kr.tOQ 10 (a' := ?_) rfl (by kernel_rfl) (fun _ _ _ h => h) (by rfl) (fun _ => (H.sub [] rfl)) ?_ ?_; rotate_left; (focus ((try simp only [Kr.PT]); first | done | rfl)))
        (refine Kr.tOQ 11 (a' := ?_) rfl (by kernel_rfl) (fun _ _ _ h => h) (by rfl) (fun _ => (H.sub [] rfl)) ?_ ?_; rotate_left; (focus ((try simp only [Kr.PT]); first | done | rfl)))
        (refine Kr.tOQ 12 (a' := ?_) rfl (by kernel_rfl) (fun _ _ _ h => h) (by rfl) (fun _ => (H.sub [] rfl)) ?_ ?_; rotate_left; (focus ((try simp only [Kr.PT]); first | done | rfl)))
        (refine Kr.tPQ 13 (v := ?_) (a' := ?_) rfl (by kernel_rfl) (fun _ _ _ h => h) (by rfl) (fun _ => (H.sub [] rfl)) (fun wx => ?_) ?_ ?_; rotate_left 2; (focus (go_simp; first | done | rfl)); (focus ((try simp only [Kr.PT]); first | done | rfl)))
        refine Kr.doneL (by kernel_rfl) ?_ _
        go_upto_region 7 with fail
        refine Kr.seqStartW ?_
        (refine Kr.seqQ (v := ?_) (a' := ?_) (by rfl) ?_ ?_ ?_; rotate_left 2; (focus (go_simp; first | done | rfl)); (focus ((try simp only [Kr.PT]); first | done | rfl)))
        refine Kr.seqDoneW ?_
        by_cases hov : z * y0 < pw 64
        · have HOV := Lib.hid hov; clear hov
          obtain ⟨z2, hz2⟩ : ∃ z2, z * y0 = z2 := ⟨_, rfl⟩
          have HZ2 := Lib.hid hz2; have HFT : Hid (Fits (z * y0) z2 0) := Lib.hid (by rw [hz2]; exact fits_small (hz2 ▸ HOV.out)); have HZ2M : Hid (z2 < pw 64) := Lib.hid (hz2 ▸ HOV.out); clear hz2
          go_upto_region 8 with fail
          refine Kr.seqStartW ?_
          have hk := H.c
          simp only [Kr.Cells] at hk
          iterate 3 (refine Kr.seqQ (v := ?_) (a' := ?_) (by rfl) ?_ ?_ ?_; rotate_left 2; (focus (go_simp; first | done | rfl)); (focus ((try simp only [Kr.PT]); first | done | rfl)))
          refine Kr.seqR (by rfl) (fun K hK => ?_)
          go_simp
          go_at_call 83
          refine (Mul_v z2 0 HFT.out (H.nw 1 rfl) (H.nw 0 rfl) HZM.out HYM.out).mono ?_
          rintro e y12 ⟨p12, n12, c12, rfl, hr, hg⟩
          clear hk
          replace H := H.grow hg
          replace H := H.num hr.toNw
          clear hr hg
          (refine Kr.outS hK (a' := ?_) ?_ ?_; rotate_left; (focus ((try simp only [Kr.PT]); first | done | rfl))); clear hK K
          iterate 3 (refine Kr.seqQ (v := ?_) (a' := ?_) (by rfl) ?_ ?_ ?_; rotate_left 2; (focus (go_simp; first | done | rfl)); (focus ((try simp only [Kr.PT]); first | done | rfl)))
          have hk := H.c
          simp only [Kr.Cells] at hk
          refine Kr.seqR (by rfl) (fun K hK => ?_)
          go_simp
          clear hk
          obtain ⟨y13, hy⟩ : ∃ y, y12.setCell ⟨bz, 0, none⟩ (.slice p12 n12 c12) = y := ⟨_, rfl⟩
          rw [hy]
          replace H := H.store 3 hy rfl rfl
          dsimp only [List.set] at H
          clear hy
          (refine Kr.outS hK (a' := ?_) ?_ ?_; rotate_left; (focus ((try simp only [Kr.PT]); first | done | rfl))); clear hK K
          (refine Kr.seqQ (v := ?_) (a' := ?_) (by rfl) ?_ ?_ ?_; rotate_left 2; (focus (go_simp; first | done | rfl)); (focus ((try simp only [Kr.PT]); first | done | rfl)))
          refine Kr.seqDoneW ?_
          go_upto_region 9 with fail
          refine Kr.seqStartW ?_
          iterate 2 (refine Kr.seqQ (v := ?_) (a' := ?_) (by rfl) ?_ ?_ ?_; rotate_left 2; (focus (go_simp; first | done | rfl)); (focus ((try simp only [Kr.PT]); first | done | rfl)))
          refine Kr.seqDoneW ?_
          have HADJ : Hid (IntKind.i64.wrap ((j : Int) + 1) = ((j + 1 : Nat) : Int)) := Lib.hid (wrap_nat (by omega) (by have h1 := HJ.out; have h2 := HMB.out; omega))
          go_upto_region 11 with fail
          refine Kr.seqStartW ?_
          (refine Kr.seqQ (v := .int .i64 ((j + 1 : Nat) : Int)) (a' := ?_) (by rfl) ?_ ?_ ?_; rotate_left 1; (focus (exact Kr.valOf rfl (addI HADJ.out))); (focus ((try simp only [Kr.PT]); first | done | rfl)))
          (refine Kr.seqQ (v := ?_) (a' := ?_) (by rfl) ?_ ?_ ?_; rotate_left 2; (focus (go_simp; first | done | rfl)); (focus ((try simp only [Kr.PT]); first | done | rfl)))
          refine Kr.seqDoneW ?_
          go_wp2
          go_roundw
          case rel => exact ⟨j + 1, z2, _, _, _, HJ.out, rfl, Lib.hid (by rw [HLT.out, HZ2.out]), HZ2M, HOKJ, Lib.hid ((H.drop 3).pick [0, 3] rfl)⟩
          case measure => simp [intOf]; have := HJ.out; omega
        · have HFT : Hid (Fits (z * y0) 0 9) := Lib.hid (fits_big (Nat.le_of_not_lt hov))
          obtain rfl : B = false := by rw [HB.out, decide_eq_false (lp_great (j := j + 1) HX0.out HXM.out (by rw [HLT.out]; exact Nat.le_of_not_lt hov)), Bool.and_false]
          clear hov HB
          go_upto_region 8 with fail
          refine Kr.seqStartW ?_
          have hk := H.c
          simp only [Kr.Cells] at hk
          iterate 3 (refine Kr.seqQ (v := ?_) (a' := ?_) (by rfl) ?_ ?_ ?_; rotate_left 2; (focus (go_simp; first | done | rfl)); (focus ((try simp only [Kr.PT]); first | done | rfl)))
          refine Kr.seqR (by rfl) (fun K hK => ?_)
          go_simp
          go_at_call 83
          refine (Mul_v 0 9 HFT.out (H.nw 1 rfl) (H.nw 0 rfl) HZM.out HYM.out).mono ?_
          rintro e y14 ⟨p14, n14, c14, rfl, hr, hg⟩
          clear hk
          replace H := H.grow hg
          replace H := H.num hr.toNw
          clear hr hg
          (refine Kr.outS hK (a' := ?_) ?_ ?_; rotate_left; (focus ((try simp only [Kr.PT]); first | done | rfl))); clear hK K
          iterate 3 (refine Kr.seqQ (v := ?_) (a' := ?_) (by rfl) ?_ ?_ ?_; rotate_left 2; (focus (go_simp; first | done | rfl)); (focus ((try simp only [Kr.PT]); first | done | rfl)))
          have hk := H.c
          simp only [Kr.Cells] at hk
          refine Kr.seqR (by rfl) (fun K hK => ?_)
          go_simp
          clear hk
          obtain ⟨y15, hy⟩ : ∃ y, y14.setCell ⟨bz, 0, none⟩ (.slice p14 n14 c14) = y := ⟨_, rfl⟩
          rw [hy]
          replace H := H.store 3 hy rfl rfl
          dsimp only [List.set] at H
          clear hy
          (refine Kr.outS hK (a' := ?_) ?_ ?_; rotate_left; (focus ((try simp only [Kr.PT]); first | done | rfl))); clear hK K
          (refine Kr.seqQ (v := ?_) (a' := ?_) (by rfl) ?_ ?_ ?_; rotate_left 2; (focus (go_simp; first | done | rfl)); (focus ((try simp only [Kr.PT]); first | done | rfl)))
          refine Kr.seqDoneW ?_
          go_upto_region 9 with fail
          refine Kr.seqStartW ?_
          iterate 2 (refine Kr.seqQ (v := ?_) (a' := ?_) (by rfl) ?_ ?_ ?_; rotate_left 2; (focus (go_simp; first | done | rfl)); (focus ((try simp only [Kr.PT]); first | done | rfl)))
          refine Kr.seqDoneW ?_
          go_upto_region 10 with fail
          refine Kr.seqStartW ?_
          (refine Kr.seqQ (v := ?_) (a' := ?_) (by rfl) ?_ ?_ ?_; rotate_left 2; (focus (go_simp; first | done | rfl)); (focus ((try simp only [Kr.PT]); first | done | rfl)))
          refine Kr.seqDoneW ?_
          have hk := H.c
          simp only [Kr.Cells] at hk
          go_wp2
          refine bodyPost_ret (v := .bool false) (by simp [results, Tryd.results64, go_sem, hk]) rfl ⟨rfl, H.g⟩
      · obtain ⟨j0, hj0e⟩ : ∃ j0, j0 + 1 = j := ⟨j - 1, by omega⟩
        have HJ0 := Lib.hid hj0e; clear hj0 hj0e
        have HC0 : Hid (decide ((0 : Int) < (j : Int)) = true) := Lib.hid (decide_eq_true (by have := HJ0.out; omega)); have HS0 : Hid (IntKind.i64.wrap ((j : Int) - 1) = (j0 : Int)) := Lib.hid (wrap_nat (by have := HJ0.out; omega) (by have := HJ.out; have := HMB.out; have := HJ0.out; omega))
        have hjl : j0 < c.ps.length := by rw [HML.out]; have := HJ.out; have := HJ0.out; omega
        obtain ⟨d0, hd⟩ : ∃ d0, c.ps[j0]? = some d0 := ⟨_, List.getElem?_eq_getElem hjl⟩
        obtain ⟨⟨b2, off2, on, kn, en, or, kr, er, op_, kp, ep, e2, c0, _, _, hnd, _⟩⟩ := HROW.out j0 d0 hd
        simp only [Option.some.injEq, Addr.mk.injEq, and_true] at e2
        obtain ⟨rfl, rfl⟩ := e2
        have HRC := Lib.hid c0
        have HVD0 := Lib.hid (HV.out d0 (List.mem_of_getElem? hd))
        have HNJ0 : Hid ((nums c)[j0]? = some (val d0.n)) := Lib.hid (by unfold nums; rw [List.getElem?_map, hd]; rfl)
        obtain ⟨x0, hx0⟩ : ∃ x0, val d0.n = x0 := ⟨_, rfl⟩
        have hq := nw_val (hnd _ H.g) HVD0.out
        rw [hx0] at hq HNJ0
        replace H := H.num hq.1
        have HX0M := Lib.hid hq.2; clear hq hx0 hnd hjl hd c0
        have hj1 : j0 < m := by have := HJ.out; have := HJ0.out; omega
        have hj2 : (j0 : Int) < (m : Int) := by omega
        by_cases hxy : y0 < x0
        · have HG : Hid (decide (0 < ord x0 y0) = true) := Lib.hid (by rw [ord_pos]; exact decide_eq_true hxy)
          obtain rfl : B = false := by rw [HB.out, asc_no HNJ0.out (by rw [HJ0.out]; exact HNJ.out) hxy, Bool.false_and]
          clear hxy HB
          go_upto_region 5 with fail
          refine Kr.startL (fun W' => W'.cell? ⟨b, off + j0 * 3, none⟩ = some (.slice on kn en) ∧ Kr.Cells W' [(bp, 0, .slice qn mn dn)]) [] (by kernel_rfl) ?_
          have gd : Gr y9 y9.drew := (Gr.refl _).drew
          generalize y9.drew = d17 at gd ⊢
          replace H := H.grow gd
          clear gd
          refine have nd5x16_1 : ∀ (Wd1 : World), Sta w Wd1 [(bp, 0, .slice qn mn dn), (bp, 1, .slice qr mr dr), (bp, 2, .slice qp mp dp), (bz, 0, .slice pz nz cz), (bn, 0, .slice pn nn cn)] [N on kn en (x0), N qn mn dn (y0), N pz nz cz (z), N pn nn cn (x)] → (?Q5x16_1 : World → Prop) Wd1 := ?pf5x16_1; ?mn5x16_1
          case mn5x16_1 =>
            (refine Kr.tPQ 0 (v := ?_) (a' := ?_) rfl (by kernel_rfl) (fun _ _ _ h => h) (by rfl) (fun _ => ⟨HRC.out _ H.g, (H.sub [0] rfl)⟩) (fun wx => ?_) ?_ ?_; rotate_left 2; (focus (go_simp; first | done | rfl)); (focus ((try simp only [Kr.PT]); first | done | rfl)))
            (refine Kr.tPQ 1 (v := .bool true) (a' := ?_) rfl (by kernel_rfl) (fun _ _ _ h => h) (by rfl) (fun _ => ⟨HRC.out _ H.g, (H.sub [0] rfl)⟩) (fun wx => ?_) ?_ ?_; rotate_left 1; (focus (exact Kr.valOf rfl (gtrI HC0.out))); (focus ((try simp only [Kr.PT]); first | done | rfl)))
            (refine Kr.tPQ 2 (v := ?_) (a' := ?_) rfl (by kernel_rfl) (fun _ _ _ h => h) (by rfl) (fun _ => ⟨HRC.out _ H.g, (H.sub [0] rfl)⟩) (fun wx => ?_) ?_ ?_; rotate_left 2; (focus (go_simp; first | done | rfl)); (focus ((try simp only [Kr.PT]); first | done | rfl)))
            (refine Kr.tPQ 3 (v := ?_) (a' := ?_) rfl (by kernel_rfl) (fun _ _ _ h => h) (by rfl) (fun _ => ⟨HRC.out _ H.g, (H.sub [0] rfl)⟩) (fun wx => ?_) ?_ ?_; rotate_left 2; (focus (go_simp; first | done | rfl)); (focus ((try simp only [Kr.PT]); first | done | rfl)))
            (refine Kr.tPQ 4 (v := ?_) (a' := ?_) rfl (by kernel_rfl) (fun _ _ _ h => h) (by rfl) (fun _ => ⟨HRC.out _ H.g, (H.sub [0] rfl)⟩) (fun wx => ?_) ?_ ?_; rotate_left 2; (focus (go_simp; first | done | rfl)); (focus ((try simp only [Kr.PT]); first | done | rfl)))
            (refine Kr.tPQ 5 (v := .int .i64 (j0 : Int)) (a' := ?_) rfl (by kernel_rfl) (fun _ _ _ h => h) (by rfl) (fun _ => ⟨HRC.out _ H.g, (H.sub [0] rfl)⟩) (fun wx => ?_) ?_ ?_; rotate_left 1; (focus (exact Kr.valOf rfl (subI HS0.out))); (focus ((try simp only [Kr.PT]); first | done | rfl)))
            (refine Kr.tPQ 6 (v := ?_) (a' := ?_) rfl (by kernel_rfl) (fun _ _ _ h => h) (by rfl) (fun _ => ⟨HRC.out _ H.g, (H.sub [0] rfl)⟩) (fun wx => ?_) ?_ ?_; rotate_left 2; (focus (go_simp; first | done | rfl)); (focus ((try simp only [Kr.PT]); first | done | rfl)))
            (refine Kr.tPQ 7 (v := ?_) (a' := ?_) rfl (by kernel_rfl) (fun _ _ _ h => h) (by rfl) (fun _ => ⟨HRC.out _ H.g, (H.sub [0] rfl)⟩) (fun wx => ?_) ?_ ?_; rotate_left 2; (focus (go_simp; first | done | rfl)); (focus ((try simp only [Kr.PT]); first | done | rfl)))
            (refine Kr.tSQ 8 [] (v := ?_) (a' := ?_) rfl (by kernel_rfl) (fun _ _ _ h => h) (by rfl) ⟨HRC.out _ H.g, (H.sub [0] rfl)⟩ (fun wx hSx => ?_) ?_ ?_; rotate_left 2; (focus (simp only [Kr.Cells] at hSx; go_simp; first | done | rfl)); (focus ((try simp only [Kr.PT]); first | done | rfl)))
            (refine Kr.tPQ 9 (v := ?_) (a' := ?_) rfl (by kernel_rfl) (fun _ _ _ h => h) (by rfl) (fun _ => ⟨HRC.out _ H.g, (H.sub [0] rfl)⟩) (fun wx => ?_) ?_ ?_; rotate_left 2; (focus (go_simp; first | done | rfl)); (focus ((try simp only [Kr.PT]); first | done | rfl)))
            (refine Kr.tSQ 10 [] (v := ?_) (a' := ?_) rfl (by kernel_rfl) (fun _ _ _ h => h) (by rfl) ⟨HRC.out _ H.g, (H.sub [0] rfl)⟩ (fun wx hSx => ?_) ?_ ?_; rotate_left 2; (focus (simp only [Kr.Cells] at hSx; go_simp; first | done | rfl)); (focus ((try simp only [Kr.PT]); first | done | rfl)))
            refine Kr.readyL (rs := [11]) (by kernel_rfl) (by simp) ?_
            refine Kr.AllL.cons rfl (fun K hK => ?_) Kr.AllL.nil
            go_simp
            go_at_call 79
            refine (Compare_v (H.nw 0 rfl) (H.nw 1 rfl) HX0M.out HYM.out).mono ?_
            rintro e y18 ⟨rfl, hg⟩
            replace H := H.grow hg
            clear hg
            (refine Kr.outL hK (a' := ?_) ?_ (fun _ => ⟨HRC.out _ H.g, (H.sub [0] rfl)⟩) ?_; rotate_left; (focus ((try simp only [Kr.PT]); first | done | rfl))); clear hK K
            (refine Kr.tPQ 12 (v := .bool true) (a' := ?_) rfl (by kernel_rfl) (fun _ _ _ h => h) (by rfl) (fun _ => ⟨HRC.out _ H.g, (H.sub [0] rfl)⟩) (fun wx => ?_) ?_ ?_; rotate_left 1; (focus (exact Kr.valOf rfl (gtrI HG.out))); (focus ((try simp only [Kr.PT]); first | done | rfl)))
            (refine Kr.tPQ 13 (v := ?_) (a' := ?_) rfl (by kernel_rfl) (fun _ _ _ h => h) (by rfl) (fun _ => ⟨HRC.out _ H.g, (H.sub [0] rfl)⟩) (fun wx => ?_) ?_ ?_; rotate_left 2; (focus (go_simp; first | done | rfl)); (focus ((try simp only [Kr.PT]); first | done | rfl)))
            refine Kr.relistL (l2 := #[true, true, true, true, true, true, true, true, true, true, true, true, true, true]) (by kernel_rfl) ?_
            exact nd5x16_1 y18 H
          case pf5x16_1 =>
            intro Wd1 H
            refine Kr.doneL (by kernel_rfl) ?_ _
            clear hj1 hj2
            go_upto_region 6 with fail
            refine Kr.seqStartW ?_
            (refine Kr.seqQ (v := ?_) (a' := ?_) (by rfl) ?_ ?_ ?_; rotate_left 2; (focus (go_simp; first | done | rfl)); (focus ((try simp only [Kr.PT]); first | done | rfl)))
            refine Kr.seqDoneW ?_
            have hk := H.c
            simp only [Kr.Cells] at hk
            go_wp2
            refine bodyPost_ret (v := .bool false) (by simp [results, Tryd.results64, go_sem, hk]) rfl ⟨rfl, H.g⟩
        · have HG : Hid (decide (0 < ord x0 y0) = false) := Lib.hid (by rw [ord_pos]; exact decide_eq_false hxy)
          have HOKJ : Hid (∀ i a b, i + 1 < j + 1 → (nums c)[i]? = some a → (nums c)[i + 1]? = some b → a ≤ b) := Lib.hid (fun i a b h h1 h2 => by rcases Nat.lt_succ_iff_lt_or_eq.1 h with h | h; exact HAS.out i a b h h1 h2; obtain rfl : i = j0 := (by have := HJ0.out; omega); rw [HNJ0.out] at h1; rw [HJ0.out, HNJ.out] at h2; have := Option.some.inj h1; have := Option.some.inj h2; omega)
          clear hxy
          go_upto_region 5 with fail
          refine Kr.startL (fun W' => W'.cell? ⟨b, off + j0 * 3, none⟩ = some (.slice on kn en) ∧ Kr.Cells W' [(bp, 0, .slice qn mn dn)]) [] (by kernel_rfl) ?_
          have gd : Gr y9 y9.drew := (Gr.refl _).drew
          generalize y9.drew = d20 at gd ⊢
          replace H := H.grow gd
          clear gd
          refine have nd5x19_1 : ∀ (Wd1 : World), Sta w Wd1 [(bp, 0, .slice qn mn dn), (bp, 1, .slice qr mr dr), (bp, 2, .slice qp mp dp), (bz, 0, .slice pz nz cz), (bn, 0, .slice pn nn cn)] [N on kn en (x0), N qn mn dn (y0), N pz nz cz (z), N pn nn cn (x)] → (?Q5x19_1 : World → Prop) Wd1 := ?pf5x19_1; ?mn5x19_1
          case mn5x19_1 =>
            (refine Kr.tPQ 0 (v := ?_) (a' := ?_) rfl (by kernel_rfl) (fun _ _ _ h => h) (by rfl) (fun _ => ⟨HRC.out _ H.g, (H.sub [0] rfl)⟩) (fun wx => ?_) ?_ ?_; rotate_left 2; (focus (go_simp; first | done | rfl)); (focus ((try simp only [Kr.PT]); first | done | rfl)))
            (refine Kr.tPQ 1 (v := .bool true) (a' := ?_) rfl (by kernel_rfl) (fun _ _ _ h => h) (by rfl) (fun _ => ⟨HRC.out _ H.g, (H.sub [0] rfl)⟩) (fun wx => ?_) ?_ ?_; rotate_left 1; (focus (exact Kr.valOf rfl (gtrI HC0.out))); (focus ((try simp only [Kr.PT]); first | done | rfl)))
            (refine Kr.tPQ 2 (v := ?_) (a' := ?_) rfl (by kernel_rfl) (fun _ _ _ h => h) (by rfl) (fun _ => ⟨HRC.out _ H.g, (H.sub [0] rfl)⟩) (fun wx => ?_) ?_ ?_; rotate_left 2; (focus (go_simp; first | done | rfl)); (focus ((try simp only [Kr.PT]); first | done | rfl)))
            (refine Kr.tPQ 3 (v := ?_) (a' := ?_) rfl (by kernel_rfl) (fun _ _ _ h => h) (by rfl) (fun _ => ⟨HRC.out _ H.g, (H.sub [0] rfl)⟩) (fun wx => ?_) ?_ ?_; rotate_left 2; (focus (go_simp; first | done | rfl)); (focus ((try simp only [Kr.PT]); first | done | rfl)))
            (refine Kr.tPQ 4 (v := ?_) (a' := ?_) rfl (by kernel_rfl) (fun _ _ _ h => h) (by rfl) (fun _ => ⟨HRC.out _ H.g, (H.sub [0] rfl)⟩) (fun wx => ?_) ?_ ?_; rotate_left 2; (focus (go_simp; first | done | rfl)); (focus ((try simp only [Kr.PT]); first | done | rfl)))
            (refine Kr.tPQ 5 (v := .int .i64 (j0 : Int)) (a' := ?_) rfl (by kernel_rfl) (fun _ _ _ h => h) (by rfl) (fun _ => ⟨HRC.out _ H.g, (H.sub [0] rfl)⟩) (fun wx => ?_) ?_ ?_; rotate_left 1; (focus (exact Kr.valOf rfl (subI HS0.out))); (focus ((try simp only [Kr.PT]); first | done | rfl)))
            (refine Kr.tPQ 6 (v := ?_) (a' := ?_) rfl (by kernel_rfl) (fun _ _ _ h => h) (by rfl) (fun _ => ⟨HRC.out _ H.g, (H.sub [0] rfl)⟩) (fun wx => ?_) ?_ ?_; rotate_left 2; (focus (go_simp; first | done | rfl)); (focus ((try simp only [Kr.PT]); first | done | rfl)))
            (refine Kr.tPQ 7 (v := ?_) (a' := ?_) rfl (by kernel_rfl) (fun _ _ _ h => h) (by rfl) (fun _ => ⟨HRC.out _ H.g, (H.sub [0] rfl)⟩) (fun wx => ?_) ?_ ?_; rotate_left 2; (focus (go_simp; first | done | rfl)); (focus ((try simp only [Kr.PT]); first | done | rfl)))
            (refine Kr.tSQ 8 [] (v := ?_) (a' := ?_) rfl (by kernel_rfl) (fun _ _ _ h => h) (by rfl) ⟨HRC.out _ H.g, (H.sub [0] rfl)⟩ (fun wx hSx => ?_) ?_ ?_; rotate_left 2; (focus (simp only [Kr.Cells] at hSx; go_simp; first | done | rfl)); (focus ((try simp only [Kr.PT]); first | done | rfl)))
            (refine Kr.tPQ 9 (v := ?_) (a' := ?_) rfl (by kernel_rfl) (fun _ _ _ h => h) (by rfl) (fun _ => ⟨HRC.out _ H.g, (H.sub [0] rfl)⟩) (fun wx => ?_) ?_ ?_; rotate_left 2; (focus (go_simp; first | done | rfl)); (focus ((try simp only [Kr.PT]); first | done | rfl)))
            (refine Kr.tSQ 10 [] (v := ?_) (a' := ?_) rfl (by kernel_rfl) (fun _ _ _ h => h) (by rfl) ⟨HRC.out _ H.g, (H.sub [0] rfl)⟩ (fun wx hSx => ?_) ?_ ?_; rotate_left 2; (focus (simp only [Kr.Cells] at hSx; go_simp; first | done | rfl)); (focus ((try simp only [Kr.PT]); first | done | rfl)))
            refine Kr.readyL (rs := [11]) (by kernel_rfl) (by simp) ?_
            refine Kr.AllL.cons rfl (fun K hK => ?_) Kr.AllL.nil
            go_simp
            go_at_call 79
            refine (Compare_v (H.nw 0 rfl) (H.nw 1 rfl) HX0M.out HYM.out).mono ?_
            rintro e y21 ⟨rfl, hg⟩
            replace H := H.grow hg
            clear hg
            (refine Kr.outL hK (a' := ?_) ?_ (fun _ => ⟨HRC.out _ H.g, (H.sub [0] rfl)⟩) ?_; rotate_left; (focus ((try simp only [Kr.PT]); first | done | rfl))); clear hK K
            (refine Kr.tPQ 12 (v := .bool false) (a' := ?_) rfl (by kernel_rfl) (fun _ _ _ h => h) (by rfl) (fun _ => ⟨HRC.out _ H.g, (H.sub [0] rfl)⟩) (fun wx => ?_) ?_ ?_; rotate_left 1; (focus (exact Kr.valOf rfl (gtrI HG.out))); (focus ((try simp only [Kr.PT]); first | done | rfl)))
            (refine Kr.tPQ 13 (v := ?_) (a' := ?_) rfl (by kernel_rfl) (fun _ _ _ h => h) (by rfl) (fun _ => ⟨HRC.out _ H.g, (H.sub [0] rfl)⟩) (fun wx => ?_) ?_ ?_; rotate_left 2; (focus (go_simp; first | done | rfl)); (focus ((try simp only [Kr.PT]); first | done | rfl)))
            refine Kr.relistL (l2 := #[true, true, true, true, true, true, true, true, true, true, true, true, true, true]) (by kernel_rfl) ?_
            exact nd5x19_1 y21 H
          case pf5x19_1 =>
            intro Wd1 H
            refine Kr.doneL (by kernel_rfl) ?_ _
            clear hj1 hj2
            go_upto_region 7 with fail
            refine Kr.seqStartW ?_
            (refine Kr.seqQ (v := ?_) (a' := ?_) (by rfl) ?_ ?_ ?_; rotate_left 2; (focus (go_simp; first | done | rfl)); (focus ((try simp only [Kr.PT]); first | done | rfl)))
            refine Kr.seqDoneW ?_
            by_cases hov : z * y0 < pw 64
            · have HOV := Lib.hid hov; clear hov
              obtain ⟨z2, hz2⟩ : ∃ z2, z * y0 = z2 := ⟨_, rfl⟩
              have HZ2 := Lib.hid hz2; have HFT : Hid (Fits (z * y0) z2 0) := Lib.hid (by rw [hz2]; exact fits_small (hz2 ▸ HOV.out)); have HZ2M : Hid (z2 < pw 64) := Lib.hid (hz2 ▸ HOV.out); clear hz2
              go_upto_region 8 with fail
              refine Kr.seqStartW ?_
              have hk := H.c
              simp only [Kr.Cells] at hk
              iterate 3 (refine Kr.seqQ (v := ?_) (a' := ?_) (by rfl) ?_ ?_ ?_; rotate_left 2; (focus (go_simp; first | done | rfl)); (focus ((try simp only [Kr.PT]); first | done | rfl)))
              refine Kr.seqR (by rfl) (fun K hK => ?_)
              go_simp
              go_at_call 83
              refine (Mul_v z2 0 HFT.out (H.nw 2 rfl) (H.nw 1 rfl) HZM.out HYM.out).mono ?_
              rintro e y22 ⟨p22, n22, c22, rfl, hr, hg⟩
              clear hk
              replace H := H.grow hg
              replace H := H.num hr.toNw
              clear hr hg
              (refine Kr.outS hK (a' := ?_) ?_ ?_; rotate_left; (focus ((try simp only [Kr.PT]); first | done | rfl))); clear hK K
              iterate 3 (refine Kr.seqQ (v := ?_) (a' := ?_) (by rfl) ?_ ?_ ?_; rotate_left 2; (focus (go_simp; first | done | rfl)); (focus ((try simp only [Kr.PT]); first | done | rfl)))
              have hk := H.c
              simp only [Kr.Cells] at hk
              refine Kr.seqR (by rfl) (fun K hK => ?_)
              go_simp
              clear hk
              obtain ⟨y23, hy⟩ : ∃ y, y22.setCell ⟨bz, 0, none⟩ (.slice p22 n22 c22) = y := ⟨_, rfl⟩
              rw [hy]
              replace H := H.store 3 hy rfl rfl
              dsimp only [List.set] at H
              clear hy
              (refine Kr.outS hK (a' := ?_) ?_ ?_; rotate_left; (focus ((try simp only [Kr.PT]); first | done | rfl))); clear hK K
              (refine Kr.seqQ (v := ?_) (a' := ?_) (by rfl) ?_ ?_ ?_; rotate_left 2; (focus (go_simp; first | done | rfl)); (focus ((try simp only [Kr.PT]); first | done | rfl)))
              refine Kr.seqDoneW ?_
              go_upto_region 9 with fail
              refine Kr.seqStartW ?_
              iterate 2 (refine Kr.seqQ (v := ?_) (a' := ?_) (by rfl) ?_ ?_ ?_; rotate_left 2; (focus (go_simp; first | done | rfl)); (focus ((try simp only [Kr.PT]); first | done | rfl)))
              refine Kr.seqDoneW ?_
              have HADJ : Hid (IntKind.i64.wrap ((j : Int) + 1) = ((j + 1 : Nat) : Int)) := Lib.hid (wrap_nat (by omega) (by have h1 := HJ.out; have h2 := HMB.out; omega))
              go_upto_region 11 with fail
              refine Kr.seqStartW ?_
              (refine Kr.seqQ (v := .int .i64 ((j + 1 : Nat) : Int)) (a' := ?_) (by rfl) ?_ ?_ ?_; rotate_left 1; (focus (exact Kr.valOf rfl (addI HADJ.out))); (focus ((try simp only [Kr.PT]); first | done | rfl)))
              (refine Kr.seqQ (v := ?_) (a' := ?_) (by rfl) ?_ ?_ ?_; rotate_left 2; (focus (go_simp; first | done | rfl)); (focus ((try simp only [Kr.PT]); first | done | rfl)))
              refine Kr.seqDoneW ?_
              go_wp2
              go_roundw
              case rel => exact ⟨j + 1, z2, _, _, _, HJ.out, rfl, Lib.hid (by rw [HLT.out, HZ2.out]), HZ2M, HOKJ, Lib.hid ((H.drop 3).pick [0, 4] rfl)⟩
              case measure => simp [intOf]; have := HJ.out; omega
            · have HFT : Hid (Fits (z * y0) 0 9) := Lib.hid (fits_big (Nat.le_of_not_lt hov))
              obtain rfl : B = false := by rw [HB.out, decide_eq_false (lp_great (j := j + 1) HX0.out HXM.out (by rw [HLT.out]; exact Nat.le_of_not_lt hov)), Bool.and_false]
              clear hov HB
              go_upto_region 8 with fail
              refine Kr.seqStartW ?_
              have hk := H.c
              simp only [Kr.Cells] at hk
              iterate 3 (refine Kr.seqQ (v := ?_) (a' := ?_) (by rfl) ?_ ?_ ?_; rotate_left 2; (focus (go_simp; first | done | rfl)); (focus ((try simp only [Kr.PT]); first | done | rfl)))
              refine Kr.seqR (by rfl) (fun K hK => ?_)
              go_simp
              go_at_call 83
              refine (Mul_v 0 9 HFT.out (H.nw 2 rfl) (H.nw 1 rfl) HZM.out HYM.out).mono ?_
              rintro e y24 ⟨p24, n24, c24, rfl, hr, hg⟩
              clear hk
              replace H := H.grow hg
              replace H := H.num hr.toNw
              clear hr hg
              (refine Kr.outS hK (a' := ?_) ?_ ?_; rotate_left; (focus ((try simp only [Kr.PT]); first | done | rfl))); clear hK K
              iterate 3 (refine Kr.seqQ (v := ?_) (a' := ?_) (by rfl) ?_ ?_ ?_; rotate_left 2; (focus (go_simp; first | done | rfl)); (focus ((try simp only [Kr.PT]); first | done | rfl)))
              have hk := H.c
              simp only [Kr.Cells] at hk
              refine Kr.seqR (by rfl) (fun K hK => ?_)
              go_simp
              clear hk
              obtain ⟨y25, hy⟩ : ∃ y, y24.setCell ⟨bz, 0, none⟩ (.slice p24 n24 c24) = y := ⟨_, rfl⟩
              rw [hy]
              replace H := H.store 3 hy rfl rfl
              dsimp only [List.set] at H
              clear hy
              (refine Kr.outS hK (a' := ?_) ?_ ?_; rotate_left; (focus ((try simp only [Kr.PT]); first | done | rfl))); clear hK K
              (refine Kr.seqQ (v := ?_) (a' := ?_) (by rfl) ?_ ?_ ?_; rotate_left 2; (focus (go_simp; first | done | rfl)); (focus ((try simp only [Kr.PT]); first | done | rfl)))
              refine Kr.seqDoneW ?_
              go_upto_region 9 with fail
              refine Kr.seqStartW ?_
              iterate 2 (refine Kr.seqQ (v := ?_) (a' := ?_) (by rfl) ?_ ?_ ?_; rotate_left 2; (focus (go_simp; first | done | rfl)); (focus ((try simp only [Kr.PT]); first | done | rfl)))
              refine Kr.seqDoneW ?_
              go_upto_region 10 with fail
              refine Kr.seqStartW ?_
              (refine Kr.seqQ (v := ?_) (a' := ?_) (by rfl) ?_ ?_ ?_; rotate_left 2; (focus (go_simp; first | done | rfl)); (focus ((try simp only [Kr.PT]); first | done | rfl)))
              refine Kr.seqDoneW ?_
              have hk := H.c
              simp only [Kr.Cells] at hk
              go_wp2
              refine bodyPost_ret (v := .bool false) (by simp [results, Tryd.results64, go_sem, hk]) rfl ⟨rfl, H.g⟩
end Go.Proofs.YtfompolklkehpaaDoor.Pr


/- ContainsFunc over certificates; the closure that compares numbers. -/
namespace Go.Proofs.YtfompolklkehpaaDoor.Pr
open Go.RowKit Go.Shelf Go.Proofs.YtfompolklkehpaaDoor.Nm Go.Proofs.YtfompolklkehpaaDoor.Ne Go.Proofs.YtfompolklkehpaaDoor.Nf Go.Proofs.YtfompolklkehpaaDoor.Nk Go.Proofs.YtfompolklkehpaaDoor.Nv Go.Proofs.YtfompolklkehpaaDoor.Nr2 Go.Proofs.YtfompolklkehpaaDoor.Mo Go.Proofs.YtfompolklkehpaaDoor.Mr Go.Proofs.YtfompolklkehpaaDoor.Kr

set_option maxHeartbeats 4000000 in
theorem ixc_wrong (P : Ct → Bool) (k n cp : Nat) (pp : Option Addr) (ps : List Ct) (hn : ps.length = n) (hs : n < 9223372036854775808) (w : World) (h : PartsV w k pp ps)
    (H : ∀ d, d ∈ ps → ∀ W v, Gr w W → CertV W k v d → Calls Tryd.prog 65 #[v] W fun e w' => e = .returned (.bool (P d)) ∧ Gr W w') :
    Calls Tryd.prog 61 #[.slice pp n cp, .func (.func 65) #[] #[]] w fun e w' => (∃ i : Int, e = .returned (.int .i64 i) ∧ (0 ≤ i ↔ ps.any P = true)) ∧ Gr w w' := by
  have HN := Lib.hid h
  have HP := Lib.hid H
  have HS2 := Lib.hid hs
  have EX := Lib.hid hn
  clear h H hs hn
  go_enter Tryd.func61, Tryd.ntmps61
  go_wp2
  go_loopw [8] (fun i wr => ∃ j : Nat, j ≤ n ∧ i = .int .i64 j ∧ Hid ((ps.take j).any P = false) ∧ Hid (Gr w wr)) (fun i _ => n - (intOf i).toNat)
  case atStart => exact ⟨0, Nat.zero_le _, rfl, Lib.hid (by simp), Gr.refl w⟩
  case round =>
    obtain ⟨j, hj, rfl, HS, HG⟩ := hrel
    by_cases hlt : j < n
    · have hkl : j < ps.length := by rw [EX.out]; exact hlt
      obtain ⟨d, hd⟩ : ∃ d, ps[j]? = some d := ⟨_, List.getElem?_eq_getElem hkl⟩
      obtain ⟨⟨b, off, qn, mn, dn, qr, mr, dr, qp, mp, dp, hpp, h0, h1, h2, hnd, hcd⟩⟩ := HN.out j d hd
      subst hpp
      have hc0 := h0 _ HG.out
      have hc1 := h1 _ HG.out
      have hc2 := h2 _ HG.out
      have HC := Lib.hid (fun W g => HP.out d (List.mem_of_getElem? hd) W _ g (hcd W g))
      have HTK : Hid ((ps.take (j + 1)).any P = ((ps.take j).any P || P d)) := Lib.hid (by rw [List.take_add_one, hd]; simp)
      have HX := Lib.hid (List.mem_of_getElem? hd)
      clear hd hkl h0 h1 h2 hnd hcd
      have hk0 : (0 : Int) ≤ (j : Int) := by omega
      have hk1 : (j : Int) < (n : Int) := by omega
      obtain ⟨v, hv⟩ : ∃ v, P d = v := ⟨_, rfl⟩
      rw [hv] at HC HTK
      have HV := Lib.hid hv
      clear hv
      cases v with
      | true =>
        go_wp2_with fail
        refine (HC.out _ HG.out).mono ?_
        rintro e w1 ⟨rfl, hg⟩
        have HG1 := Lib.hid (HG.out.trans hg)
        clear hg hc0 hc1 hc2
        go_wp2
        go_ret
        exact ⟨⟨_, rfl, ⟨fun _ => List.any_eq_true.2 ⟨d, HX.out, HV.out⟩, fun _ => by omega⟩⟩, HG1.out⟩
      | false =>
        go_wp2_with fail
        refine (HC.out _ HG.out).mono ?_
        rintro e w1 ⟨rfl, hg⟩
        have HG1 := Lib.hid (HG.out.trans hg)
        have hw : IntKind.i64.wrap ((j : Int) + 1) = ((j + 1 : Nat) : Int) := wrap_nat (by omega) (by have := HS2.out; omega)
        clear hg hc0 hc1 hc2
        go_wp2
        go_roundw
        case rel => exact ⟨j + 1, by omega, by first | go_num | (simp; omega), Lib.hid (by rw [HTK.out, HS.out]; rfl), HG1⟩
        case measure => simp [intOf]; omega
    · obtain rfl : j = n := by omega
      have HALL : Hid (ps.any P = false) := Lib.hid (by rw [← HS.out, ← EX.out, List.take_length])
      go_wp2
      go_ret
      exact ⟨⟨_, rfl, ⟨fun h => by omega, fun h => by rw [HALL.out] at h; cases h⟩⟩, HG.out⟩
set_option maxHeartbeats 2000000 in
theorem cfc_wrong (P : Ct → Bool) (k n cp : Nat) (pp : Option Addr) (ps : List Ct) (hn : ps.length = n) (hs : n < 9223372036854775808) (w : World) (h : PartsV w k pp ps)
    (H : ∀ d, d ∈ ps → ∀ W v, Gr w W → CertV W k v d → Calls Tryd.prog 65 #[v] W fun e w' => e = .returned (.bool (P d)) ∧ Gr W w') :
    Calls Tryd.prog 39 #[.slice pp n cp, .func (.func 65) #[] #[]] w fun e w' => e = .returned (.bool (ps.any P)) ∧ Gr w w' := by
  have HI := Lib.hid (ixc_wrong P k n cp pp ps hn hs w h H)
  obtain ⟨b, hb⟩ : ∃ b, ps.any P = b := ⟨_, rfl⟩
  rw [hb] at HI ⊢
  clear h H hb hs hn
  go_enter Tryd.func39, Tryd.ntmps39
  go_wp2_with fail
  refine HI.out.mono ?_
  rintro e w1 ⟨⟨i, rfl, hi⟩, hg⟩
  have HD : Hid (b = decide (0 ≤ i)) := Lib.hid (by rw [Bool.eq_iff_iff, decide_eq_true_iff, hi])
  have HG := Lib.hid hg
  clear hi hg
  go_wp2
  go_ret
  exact ⟨by rw [HD.out]; rfl, HG.out⟩
set_option maxHeartbeats 4000000 in
theorem ixc_root2 (A B : Addr) (P : Ct → Bool) (k n cp : Nat) (pp : Option Addr) (ps : List Ct) (hn : ps.length = n) (hs : n < 9223372036854775808) (w : World) (h : PartsV w k pp ps)
    (H : ∀ d, d ∈ ps → ∀ W v, Gr w W → CertV W k v d → Calls Tryd.prog 88 #[v, .pointer (some A), .pointer (some B)] W fun e w' => e = .returned (.bool (P d)) ∧ Gr W w') :
    Calls Tryd.prog 61 #[.slice pp n cp, .func (.func 88) #[] #[.pointer (some A), .pointer (some B)]] w fun e w' => (∃ i : Int, e = .returned (.int .i64 i) ∧ (0 ≤ i ↔ ps.any P = true)) ∧ Gr w w' := by
  have HN := Lib.hid h
  have HP := Lib.hid H
  have HS2 := Lib.hid hs
  have EX := Lib.hid hn
  clear h H hs hn
  go_enter Tryd.func61, Tryd.ntmps61
  go_wp2
  go_loopw [8] (fun i wr => ∃ j : Nat, j ≤ n ∧ i = .int .i64 j ∧ Hid ((ps.take j).any P = false) ∧ Hid (Gr w wr)) (fun i _ => n - (intOf i).toNat)
  case atStart => exact ⟨0, Nat.zero_le _, rfl, Lib.hid (by simp), Gr.refl w⟩
  case round =>
    obtain ⟨j, hj, rfl, HS, HG⟩ := hrel
    by_cases hlt : j < n
    · have hkl : j < ps.length := by rw [EX.out]; exact hlt
      obtain ⟨d, hd⟩ : ∃ d, ps[j]? = some d := ⟨_, List.getElem?_eq_getElem hkl⟩
      obtain ⟨⟨b, off, qn, mn, dn, qr, mr, dr, qp, mp, dp, hpp, h0, h1, h2, hnd, hcd⟩⟩ := HN.out j d hd
      subst hpp
      have hc0 := h0 _ HG.out
      have hc1 := h1 _ HG.out
      have hc2 := h2 _ HG.out
      have HC := Lib.hid (fun W g => HP.out d (List.mem_of_getElem? hd) W _ g (hcd W g))
      have HTK : Hid ((ps.take (j + 1)).any P = ((ps.take j).any P || P d)) := Lib.hid (by rw [List.take_add_one, hd]; simp)
      have HX := Lib.hid (List.mem_of_getElem? hd)
      clear hd hkl h0 h1 h2 hnd hcd
      have hk0 : (0 : Int) ≤ (j : Int) := by omega
      have hk1 : (j : Int) < (n : Int) := by omega
      obtain ⟨v, hv⟩ : ∃ v, P d = v := ⟨_, rfl⟩
      rw [hv] at HC HTK
      have HV := Lib.hid hv
      clear hv
      cases v with
      | true =>
        go_wp2_with fail
        refine (HC.out _ HG.out).mono ?_
        rintro e w1 ⟨rfl, hg⟩
        have HG1 := Lib.hid (HG.out.trans hg)
        clear hg hc0 hc1 hc2
        go_wp2
        go_ret
        exact ⟨⟨_, rfl, ⟨fun _ => List.any_eq_true.2 ⟨d, HX.out, HV.out⟩, fun _ => by omega⟩⟩, HG1.out⟩
      | false =>
        go_wp2_with fail
        refine (HC.out _ HG.out).mono ?_
        rintro e w1 ⟨rfl, hg⟩
        have HG1 := Lib.hid (HG.out.trans hg)
        have hw : IntKind.i64.wrap ((j : Int) + 1) = ((j + 1 : Nat) : Int) := wrap_nat (by omega) (by have := HS2.out; omega)
        clear hg hc0 hc1 hc2
        go_wp2
        go_roundw
        case rel => exact ⟨j + 1, by omega, by first | go_num | (simp; omega), Lib.hid (by rw [HTK.out, HS.out]; rfl), HG1⟩
        case measure => simp [intOf]; omega
    · obtain rfl : j = n := by omega
      have HALL : Hid (ps.any P = false) := Lib.hid (by rw [← HS.out, ← EX.out, List.take_length])
      go_wp2
      go_ret
      exact ⟨⟨_, rfl, ⟨fun h => by omega, fun h => by rw [HALL.out] at h; cases h⟩⟩, HG.out⟩
set_option maxHeartbeats 2000000 in
theorem cfc_root2 (A B : Addr) (P : Ct → Bool) (k n cp : Nat) (pp : Option Addr) (ps : List Ct) (hn : ps.length = n) (hs : n < 9223372036854775808) (w : World) (h : PartsV w k pp ps)
    (H : ∀ d, d ∈ ps → ∀ W v, Gr w W → CertV W k v d → Calls Tryd.prog 88 #[v, .pointer (some A), .pointer (some B)] W fun e w' => e = .returned (.bool (P d)) ∧ Gr W w') :
    Calls Tryd.prog 39 #[.slice pp n cp, .func (.func 88) #[] #[.pointer (some A), .pointer (some B)]] w fun e w' => e = .returned (.bool (ps.any P)) ∧ Gr w w' := by
  have HI := Lib.hid (ixc_root2 A B P k n cp pp ps hn hs w h H)
  obtain ⟨b, hb⟩ : ∃ b, ps.any P = b := ⟨_, rfl⟩
  rw [hb] at HI ⊢
  clear h H hb hs hn
  go_enter Tryd.func39, Tryd.ntmps39
  go_wp2_with fail
  refine HI.out.mono ?_
  rintro e w1 ⟨⟨i, rfl, hi⟩, hg⟩
  have HD : Hid (b = decide (0 ≤ i)) := Lib.hid (by rw [Bool.eq_iff_iff, decide_eq_true_iff, hi])
  have HG := Lib.hid hg
  clear hi hg
  go_wp2
  go_ret
  exact ⟨by rw [HD.out]; rfl, HG.out⟩
set_option linter.unusedSimpArgs false in
set_option maxRecDepth 100000 in
set_option maxHeartbeats 16000000 in
theorem root1_v {pa pb ra qa rb qb : Option Addr} {na ca nb cb ma da ka ea mb db kb eb x y0 : Nat} {w : World} (ha : Nw w pa na ca (digs x)) (hb : Nw w pb nb cb (digs y0)) (hx : x < pw 64) (hy : y0 < pw 64) :
    Calls Tryd.prog 87 #[.agg #[.slice pa na ca, .slice ra ma da, .slice qa ka ea], .agg #[.slice pb nb cb, .slice rb mb db, .slice qb kb eb]] w fun e w' => e = .returned (.bool (decide (x = y0))) ∧ Gr w w' := by
  have HX := Lib.hid hx; have HY := Lib.hid hy; clear hx hy
  obtain ⟨t, ht⟩ : ∃ t, decide (x = y0) = t := ⟨_, rfl⟩
  rw [ht]
  have HT : Hid (decide (ord x y0 = 0) = t) := Lib.hid (by rw [ord_zero]; exact ht); clear ht
  have H := Sta.start w
  replace H := H.num ha
  replace H := H.num hb
  go_enter Tryd.func87, Tryd.ntmps87
  go_upto_region 0 with fail
  refine Kr.seqStartW ?_
  refine Kr.seqR (by rfl) (fun K hK => ?_)
  go_simp
  obtain ⟨y1, hy⟩ : ∃ y, w.alloc (.cells #[.slice pa na ca, .slice ra ma da, .slice qa ka ea] 46) = y := ⟨_, rfl⟩
  obtain ⟨ba, hb⟩ : ∃ b, w.heap.size = b := ⟨_, rfl⟩
  rw [hy, hb]
  replace H := Sta_alloc3 H hy hb rfl rfl rfl
  clear hy hb
  (refine Kr.outS hK (a' := ?_) ?_ ?_; rotate_left; (focus ((try simp only [Kr.PT]); first | done | rfl))); clear hK K
  refine Kr.seqR (by rfl) (fun K hK => ?_)
  go_simp
  obtain ⟨y2, hy⟩ : ∃ y, y1.alloc (.cells #[.slice pb nb cb, .slice rb mb db, .slice qb kb eb] 46) = y := ⟨_, rfl⟩
  obtain ⟨bb, hb⟩ : ∃ b, y1.heap.size = b := ⟨_, rfl⟩
  rw [hy, hb]
  replace H := Sta_alloc3 H hy hb rfl rfl rfl
  clear hy hb
  (refine Kr.outS hK (a' := ?_) ?_ ?_; rotate_left; (focus ((try simp only [Kr.PT]); first | done | rfl))); clear hK K
  (refine Kr.seqQ (v := ?_) (a' := ?_) (by rfl) ?_ ?_ ?_; rotate_left 2; (focus (go_simp; first | done | rfl)); (focus ((try simp only [Kr.PT]); first | done | rfl)))
  refine Kr.seqDoneW ?_
  go_upto_region 1 with fail
  refine Kr.seqStartW ?_
  (refine Kr.seqQ (v := ?_) (a' := ?_) (by rfl) ?_ ?_ ?_; rotate_left 2; (focus (go_simp; first | done | rfl)); (focus ((try simp only [Kr.PT]); first | done | rfl)))
  have hk := H.c
  simp only [Kr.Cells] at hk
  iterate 3 (refine Kr.seqQ (v := ?_) (a' := ?_) (by rfl) ?_ ?_ ?_; rotate_left 2; (focus (go_simp; first | done | rfl)); (focus ((try simp only [Kr.PT]); first | done | rfl)))
  refine Kr.seqR (by rfl) (fun K hK => ?_)
  go_simp
  go_at_call 79
  refine (Compare_v (H.nw 1 rfl) (H.nw 0 rfl) HX.out HY.out).mono ?_
  rintro e y3 ⟨rfl, hg⟩
  clear hk
  replace H := H.grow hg
  clear hg
  (refine Kr.outS hK (a' := ?_) ?_ ?_; rotate_left; (focus ((try simp only [Kr.PT]); first | done | rfl))); clear hK K
  (refine Kr.seqQ (v := .bool t) (a' := ?_) (by rfl) ?_ ?_ ?_; rotate_left 1; (focus (exact Kr.valOf rfl (eqlI HT.out))); (focus ((try simp only [Kr.PT]); first | done | rfl)))
  (refine Kr.seqQ (v := ?_) (a' := ?_) (by rfl) ?_ ?_ ?_; rotate_left 2; (focus (go_simp; first | done | rfl)); (focus ((try simp only [Kr.PT]); first | done | rfl)))
  refine Kr.seqDoneW ?_
  have hk := H.c
  simp only [Kr.Cells] at hk
  go_wp2
  refine bodyPost_ret (v := .bool t) (by simp [results, Tryd.results87, go_sem, hk]) rfl ⟨rfl, H.g⟩
end Go.Proofs.YtfompolklkehpaaDoor.Pr
