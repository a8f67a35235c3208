/- A part of the proofs, joined of smaller texts: Qc, Qd, Wref, Qe, Qf, Nrsum, Nrdif, Mq, Mr3, Mra2, Mrb2, Qg, Qh. -/
import Derived.Test.YtfompolklkehpaaDoorPp2
import Derived.Deep.Cut
import Derived.Laws.Rows
import Derived.Deep.RegionHeld3

/- The strong test: prime's passes. -/
namespace Go.Proofs.YtfompolklkehpaaDoor.Pr
open Go.RowKit Go.Shelf Go.Proofs.YtfompolklkehpaaDoor.Nm Go.Proofs.YtfompolklkehpaaDoor.Ne Go.Proofs.YtfompolklkehpaaDoor.Nf Go.Proofs.YtfompolklkehpaaDoor.Nk Go.Proofs.YtfompolklkehpaaDoor.Nv Go.Proofs.YtfompolklkehpaaDoor.Nr2 Go.Proofs.YtfompolklkehpaaDoor.Mo Go.Proofs.YtfompolklkehpaaDoor.Mr Go.Proofs.YtfompolklkehpaaDoor.Kr

/-- The last part of the strong test: squares from x on. -/
def pasFrom (n : Nat) : Nat → Nat → Bool
  | _, 0 => false
  | x, k + 1 => decide (x = n - 1) || pasFrom n (x * x % n) k
/-- The powers of 2 in a number. -/
def tz (a : Nat) : Nat := Lib.ctz 64 a
/-- The strong test. -/
def pas (n b : Nat) : Bool := decide (b ^ ((n - 1) / 2 ^ tz (n - 1)) % n = 1) || pasFrom n (b ^ ((n - 1) / 2 ^ tz (n - 1)) % n) (tz (n - 1))
/-- An odd part and its power of 2 are the only ones. -/
theorem odd_unique : ∀ {s t d b : Nat}, d % 2 = 1 → b % 2 = 1 → 2 ^ s * d = 2 ^ t * b → s = t ∧ d = b
  | 0, 0, d, b, _, _, h => ⟨rfl, by simpa using h⟩
  | 0, t + 1, d, b, hd, _, h => by
    rw [Nat.pow_zero, Nat.one_mul, Nat.pow_succ, Nat.mul_comm (2 ^ t) 2, Nat.mul_assoc] at h
    omega
  | s + 1, 0, d, b, _, hb, h => by
    rw [Nat.pow_zero, Nat.one_mul, Nat.pow_succ, Nat.mul_comm (2 ^ s) 2, Nat.mul_assoc] at h
    omega
  | s + 1, t + 1, d, b, hd, hb, h => by
    rw [Nat.pow_succ, Nat.pow_succ, Nat.mul_comm (2 ^ s) 2, Nat.mul_comm (2 ^ t) 2, Nat.mul_assoc, Nat.mul_assoc] at h
    have h1 := odd_unique (s := s) (t := t) hd hb (by omega)
    exact ⟨by omega, h1.2⟩
theorem tz_math {a : Nat} (h0 : a ≠ 0) (h : a < 18446744073709551616) : ∃ t d : Nat, tz a = t ∧ t < 64 ∧ a / 2 ^ t = d ∧ d % 2 = 1 ∧ 2 ^ t * d = a ∧ d ≤ a ∧ 0 < d := Ww.twos_math a h0 h
theorem tz_of {a s d : Nat} (hd : d % 2 = 1) (h : 2 ^ s * d = a) (ha : a < 18446744073709551616) : tz a = s ∧ a / 2 ^ tz a = d := by
  have h0 : a ≠ 0 := by
    rintro rfl
    rcases Nat.mul_eq_zero.1 h with h | h
    · exact absurd h (Nat.pos_iff_ne_zero.1 (Nat.pow_pos (by decide)))
    · omega
  obtain ⟨t, b, e1, _, e2, hb, e3, _, _⟩ := tz_math h0 ha
  obtain ⟨rfl, rfl⟩ := odd_unique hd hb (h.trans e3.symm)
  exact ⟨e1, by rw [e1]; exact e2⟩
theorem pas_eq {n b s d : Nat} (hd : d % 2 = 1) (h : 2 ^ s * d = n - 1) (hn : n < 18446744073709551616) : pas n b = (decide (b ^ d % n = 1) || pasFrom n (b ^ d % n) s) := by
  obtain ⟨e1, e2⟩ := tz_of hd h (by omega)
  unfold pas
  rw [e2, e1]
theorem sq_eq (x : Nat) : x ^ 2 = x * x := Nat.pow_two x
theorem wrap_nat {z : Int} {k : Nat} (h : z = (k : Int)) (hk : k < 9223372036854775808) : IntKind.i64.wrap z = (k : Int) := by
  rw [h]; exact IntWalk.i64_in _ (by omega)
theorem Tab_grow {w W : World} (h : Wb.Tab w) (g : Gr w W) : Wb.Tab W := fun j hj => g.cell (h j hj)
set_option linter.unusedSimpArgs false in
set_option maxRecDepth 100000 in
set_option maxHeartbeats 16000000 in
theorem passes_v {n b : Nat} {w : World} (hT : ∀ W, Gr w W → Wb.Tab W) (hb : b < n) (h2 : 2 ≤ n) (hn : n < 9223372036854775808) :
    Calls Tryd.prog 30 #[.int .i64 (n : Int), .int .i64 (b : Int)] w fun r w' => r = .returned (.bool (pas n b)) ∧ Gr w w' := by
  have HT := Lib.hid hT; have HB := Lib.hid hb; have HN := Lib.hid hn; have HN2 := Lib.hid h2; clear hT hb hn h2
  obtain ⟨a, ha⟩ : ∃ a, n - 1 = a := ⟨_, rfl⟩
  have HA := Lib.hid ha; have HA0 : Hid (a ≠ 0) := Lib.hid (by have := HN2.out; omega); have HA63 : Hid (a < 9223372036854775808) := Lib.hid (by have := HN.out; omega)
  obtain ⟨t, d, et, ht, ed, hd, hpd, hda, hd0⟩ := tz_math HA0.out (Nat.lt_trans HA63.out (by decide))
  have HTZ : Hid (Lib.ctz 64 a = t) := Lib.hid et; have HT64 := Lib.hid ht; have HD := Lib.hid ed; have HD63 : Hid (d < 9223372036854775808) := Lib.hid (Nat.lt_of_le_of_lt hda HA63.out)
  obtain ⟨x0, hx0⟩ : ∃ x0, b ^ d % n = x0 := ⟨_, rfl⟩
  have HX0 := Lib.hid hx0; have HX0L : Hid (x0 < n) := Lib.hid (hx0 ▸ Nat.mod_lt _ (Nat.lt_of_le_of_lt (Nat.zero_le _) HB.out))
  obtain ⟨Q, hQ⟩ : ∃ Q, pas n b = Q := ⟨_, rfl⟩
  rw [hQ]
  have HQ : Hid (Q = (decide (x0 = 1) || pasFrom n x0 t)) := Lib.hid (by rw [← hQ, pas_eq hd (by rw [ha]; exact hpd) (Nat.lt_trans HN.out (by decide)), hx0])
  have HSUB : Hid (IntKind.i64.wrap ((n : Int) - 1) = (a : Int)) := Lib.hid (wrap_nat (by have h1 := HN2.out; have h2 := HA.out; omega) HA63.out)
  clear ha et ht ed hd hpd hda hd0 hx0 hQ
  have H := Sta.start w
  go_enter Tryd.func30, Tryd.ntmps30
  go_upto_region 0 with fail
  refine Kr.seqStartW ?_
  (refine Kr.seqQ (v := ?_) (a' := ?_) (by rfl) ?_ ?_ ?_; rotate_left 2; (focus (go_simp; first | done | rfl)); (focus ((try simp only [Kr.PT]); first | done | rfl)))
  refine Kr.seqDoneW ?_
  go_upto_region 1 with fail
  refine Kr.seqStartW ?_
  (refine Kr.seqQ (v := ?_) (a' := ?_) (by rfl) ?_ ?_ ?_; rotate_left 2; (focus (go_simp; first | done | rfl)); (focus ((try simp only [Kr.PT]); first | done | rfl)))
  (refine Kr.seqQ (v := .int .i64 (a : Int)) (a' := ?_) (by rfl) ?_ ?_ ?_; rotate_left 1; (focus (exact Kr.valOf rfl (subI HSUB.out))); (focus ((try simp only [Kr.PT]); first | done | rfl)))
  (refine Kr.seqQ (v := .int .u64 (a : Int)) (a' := ?_) (by rfl) ?_ ?_ ?_; rotate_left 1; (focus (exact Kr.valOf rfl (Kr.convIU HA63.out))); (focus ((try simp only [Kr.PT]); first | done | rfl)))
  refine Kr.seqR (by rfl) (fun K hK => ?_)
  go_simp
  go_at_call 49
  have hz := Wb.trailing64 a (Nat.lt_trans HA63.out (by decide)) HA0.out _ (HT.out _ H.g)
  rw [HTZ.out] at hz
  refine (hz).mono ?_
  rintro e w9 ⟨rfl, hw⟩
  rw [hw]
  clear hw w9
  clear hz
  (refine Kr.outS hK (a' := ?_) ?_ ?_; rotate_left; (focus ((try simp only [Kr.PT]); first | done | rfl))); clear hK K
  (refine Kr.seqQ (v := ?_) (a' := ?_) (by rfl) ?_ ?_ ?_; rotate_left 2; (focus (go_simp; first | done | rfl)); (focus ((try simp only [Kr.PT]); first | done | rfl)))
  refine Kr.seqDoneW ?_
  go_upto_region 2 with fail
  refine Kr.seqStartW ?_
  iterate 2 (refine Kr.seqQ (v := ?_) (a' := ?_) (by rfl) ?_ ?_ ?_; rotate_left 2; (focus (go_simp; first | done | rfl)); (focus ((try simp only [Kr.PT]); first | done | rfl)))
  (refine Kr.seqQ (v := .int .i64 (a : Int)) (a' := ?_) (by rfl) ?_ ?_ ?_; rotate_left 1; (focus (exact Kr.valOf rfl (subI HSUB.out))); (focus ((try simp only [Kr.PT]); first | done | rfl)))
  (refine Kr.seqQ (v := ?_) (a' := ?_) (by rfl) ?_ ?_ ?_; rotate_left 2; (focus (go_simp; first | done | rfl)); (focus ((try simp only [Kr.PT]); first | done | rfl)))
  (refine Kr.seqQ (v := .int .i64 (d : Int)) (a' := ?_) (by rfl) ?_ ?_ ?_; rotate_left 1; (focus (exact Kr.valOf rfl (shrI HT64.out HD.out))); (focus ((try simp only [Kr.PT]); first | done | rfl)))
  (refine Kr.seqQ (v := ?_) (a' := ?_) (by rfl) ?_ ?_ ?_; rotate_left 2; (focus (go_simp; first | done | rfl)); (focus ((try simp only [Kr.PT]); first | done | rfl)))
  refine Kr.seqR (by rfl) (fun K hK => ?_)
  go_simp
  go_at_call 50
  have hP := pow_v (w := w) HB.out HN.out HD63.out
  rw [HX0.out] at hP
  refine (hP).mono ?_
  rintro e y1 ⟨rfl, hg⟩
  replace H := H.grow hg
  clear hg
  clear hP
  (refine Kr.outS hK (a' := ?_) ?_ ?_; rotate_left; (focus ((try simp only [Kr.PT]); first | done | rfl))); clear hK K
  (refine Kr.seqQ (v := ?_) (a' := ?_) (by rfl) ?_ ?_ ?_; rotate_left 2; (focus (go_simp; first | done | rfl)); (focus ((try simp only [Kr.PT]); first | done | rfl)))
  refine Kr.seqDoneW ?_
  by_cases h1 : x0 = 1
  · have HE : Hid (decide ((x0 : Int) = 1) = true) := Lib.hid (decide_eq_true (by omega))
    obtain rfl : Q = true := by rw [HQ.out, decide_eq_true h1]; rfl
    clear h1
    go_upto_region 3 with fail
    refine Kr.seqStartW ?_
    (refine Kr.seqQ (v := ?_) (a' := ?_) (by rfl) ?_ ?_ ?_; rotate_left 2; (focus (go_simp; first | done | rfl)); (focus ((try simp only [Kr.PT]); first | done | rfl)))
    (refine Kr.seqQ (v := .bool true) (a' := ?_) (by rfl) ?_ ?_ ?_; rotate_left 1; (focus (exact Kr.valOf rfl (eqlI HE.out))); (focus ((try simp only [Kr.PT]); first | done | rfl)))
    refine Kr.seqDoneW ?_
    go_upto_region 4 with fail
    refine Kr.seqStartW ?_
    (refine Kr.seqQ (v := ?_) (a' := ?_) (by rfl) ?_ ?_ ?_; rotate_left 2; (focus (go_simp; first | done | rfl)); (focus ((try simp only [Kr.PT]); first | done | rfl)))
    refine Kr.seqDoneW ?_
    have hk : True := trivial
    go_wp2
    refine bodyPost_ret (v := .bool true) (by simp [results, Tryd.results30, go_sem, hk]) rfl ⟨rfl, H.g⟩
  · have HE : Hid (decide ((x0 : Int) = 1) = false) := Lib.hid (decide_eq_false (by omega))
    have HQ2 : Hid (pasFrom n x0 (t - 0) = Q) := Lib.hid (by rw [HQ.out, decide_eq_false h1]; rfl)
    clear h1
    go_upto_region 3 with fail
    refine Kr.seqStartW ?_
    (refine Kr.seqQ (v := ?_) (a' := ?_) (by rfl) ?_ ?_ ?_; rotate_left 2; (focus (go_simp; first | done | rfl)); (focus ((try simp only [Kr.PT]); first | done | rfl)))
    (refine Kr.seqQ (v := .bool false) (a' := ?_) (by rfl) ?_ ?_ ?_; rotate_left 1; (focus (exact Kr.valOf rfl (eqlI HE.out))); (focus ((try simp only [Kr.PT]); first | done | rfl)))
    refine Kr.seqDoneW ?_
    go_upto_region 5 with fail
    refine Kr.seqStartW ?_
    iterate 2 (refine Kr.seqQ (v := ?_) (a' := ?_) (by rfl) ?_ ?_ ?_; rotate_left 2; (focus (go_simp; first | done | rfl)); (focus ((try simp only [Kr.PT]); first | done | rfl)))
    refine Kr.seqDoneW ?_
    have H2 := Lib.hid H
    clear H
    go_wp2_with fail
    go_loopw [6, 21] (fun xv i wr => ∃ j x : Nat, j ≤ t ∧ xv = .int .i64 (x : Int) ∧ i = .int .i64 (j : Int) ∧ x < n ∧ Hid (pasFrom n x (t - j) = Q) ∧ Hid (Sta w wr [] [])) (fun _ i _ => t - (intOf i).toNat)
    case atStart => exact ⟨0, x0, Nat.zero_le _, rfl, rfl, HX0L.out, HQ2, H2⟩
    case round =>
      clear H2 HQ2 HE HQ
      obtain ⟨j, x, hj, rfl, rfl, hx, HP, HH⟩ := hrel
      have H := HH.out; have HX := Lib.hid hx; clear HH hx
      by_cases hjt : j = t
      · subst hjt
        have HL : Hid (decide ((j : Int) < (j : Int)) = false) := Lib.hid (decide_eq_false (by omega))
        obtain rfl : false = Q := by rw [← HP.out, Nat.sub_self]; rfl
        go_upto_region 6 with fail
        refine Kr.seqStartW ?_
        (refine Kr.seqQ (v := .bool false) (a' := ?_) (by rfl) ?_ ?_ ?_; rotate_left 1; (focus (exact Kr.valOf rfl (lssT HL.out))); (focus ((try simp only [Kr.PT]); first | done | rfl)))
        refine Kr.seqDoneW ?_
        go_upto_region 11 with fail
        refine Kr.seqStartW ?_
        (refine Kr.seqQ (v := ?_) (a' := ?_) (by rfl) ?_ ?_ ?_; rotate_left 2; (focus (go_simp; first | done | rfl)); (focus ((try simp only [Kr.PT]); first | done | rfl)))
        refine Kr.seqDoneW ?_
        have hk : True := trivial
        go_wp2
        refine bodyPost_ret (v := .bool false) (by simp [results, Tryd.results30, go_sem, hk]) rfl ⟨rfl, H.g⟩
      · have HJ : Hid (j < t) := Lib.hid (by omega)
        have HL : Hid (decide ((j : Int) < (t : Int)) = true) := Lib.hid (decide_eq_true (by omega))
        clear hjt
        have HP2 : Hid ((decide (x = a) || pasFrom n (x * x % n) (t - (j + 1))) = Q) := Lib.hid (by have h := HP.out; rw [show t - j = (t - (j + 1)) + 1 by have := HJ.out; omega] at h; rw [← HA.out]; exact h)
        go_upto_region 6 with fail
        refine Kr.seqStartW ?_
        (refine Kr.seqQ (v := .bool true) (a' := ?_) (by rfl) ?_ ?_ ?_; rotate_left 1; (focus (exact Kr.valOf rfl (lssT HL.out))); (focus ((try simp only [Kr.PT]); first | done | rfl)))
        refine Kr.seqDoneW ?_
        by_cases hxa : x = a
        · have HE2 : Hid (decide ((x : Int) = (a : Int)) = true) := Lib.hid (decide_eq_true (by omega))
          obtain rfl : true = Q := by rw [← HP2.out, decide_eq_true hxa]; rfl
          clear hxa
          go_upto_region 7 with fail
          refine Kr.seqStartW ?_
          iterate 2 (refine Kr.seqQ (v := ?_) (a' := ?_) (by rfl) ?_ ?_ ?_; rotate_left 2; (focus (go_simp; first | done | rfl)); (focus ((try simp only [Kr.PT]); first | done | rfl)))
          (refine Kr.seqQ (v := .int .i64 (a : Int)) (a' := ?_) (by rfl) ?_ ?_ ?_; rotate_left 1; (focus (exact Kr.valOf rfl (subI HSUB.out))); (focus ((try simp only [Kr.PT]); first | done | rfl)))
          (refine Kr.seqQ (v := .bool true) (a' := ?_) (by rfl) ?_ ?_ ?_; rotate_left 1; (focus (exact Kr.valOf rfl (eqlI HE2.out))); (focus ((try simp only [Kr.PT]); first | done | rfl)))
          refine Kr.seqDoneW ?_
          go_upto_region 8 with fail
          refine Kr.seqStartW ?_
          (refine Kr.seqQ (v := ?_) (a' := ?_) (by rfl) ?_ ?_ ?_; rotate_left 2; (focus (go_simp; first | done | rfl)); (focus ((try simp only [Kr.PT]); first | done | rfl)))
          refine Kr.seqDoneW ?_
          have hk : True := trivial
          go_wp2
          refine bodyPost_ret (v := .bool true) (by simp [results, Tryd.results30, go_sem, hk]) rfl ⟨rfl, H.g⟩
        · have HE2 : Hid (decide ((x : Int) = (a : Int)) = false) := Lib.hid (decide_eq_false (by omega))
          have HP3 : Hid (pasFrom n (x * x % n) (t - (j + 1)) = Q) := Lib.hid (by rw [← HP2.out, decide_eq_false hxa]; rfl)
          clear hxa HP2 HP
          obtain ⟨z, hz⟩ : ∃ z, x * x % n = z := ⟨_, rfl⟩
          rw [hz] at HP3
          have HZL : z < n := hz ▸ Nat.mod_lt _ (Nat.lt_of_le_of_lt (Nat.zero_le _) HB.out)
          have HZ : Hid (x ^ 2 % n = z) := Lib.hid (by rw [sq_eq]; exact hz)
          clear hz
          have HZL2 := Lib.hid HZL; clear HZL
          go_upto_region 7 with fail
          refine Kr.seqStartW ?_
          iterate 2 (refine Kr.seqQ (v := ?_) (a' := ?_) (by rfl) ?_ ?_ ?_; rotate_left 2; (focus (go_simp; first | done | rfl)); (focus ((try simp only [Kr.PT]); first | done | rfl)))
          (refine Kr.seqQ (v := .int .i64 (a : Int)) (a' := ?_) (by rfl) ?_ ?_ ?_; rotate_left 1; (focus (exact Kr.valOf rfl (subI HSUB.out))); (focus ((try simp only [Kr.PT]); first | done | rfl)))
          (refine Kr.seqQ (v := .bool false) (a' := ?_) (by rfl) ?_ ?_ ?_; rotate_left 1; (focus (exact Kr.valOf rfl (eqlI HE2.out))); (focus ((try simp only [Kr.PT]); first | done | rfl)))
          refine Kr.seqDoneW ?_
          go_upto_region 9 with fail
          refine Kr.seqStartW ?_
          iterate 2 (refine Kr.seqQ (v := ?_) (a' := ?_) (by rfl) ?_ ?_ ?_; rotate_left 2; (focus (go_simp; first | done | rfl)); (focus ((try simp only [Kr.PT]); first | done | rfl)))
          refine Kr.seqR (by rfl) (fun K hK => ?_)
          go_simp
          go_at_call 50
          have hP := pow_v (w := wr) (e := 2) HX.out HN.out (by decide)
          rw [HZ.out] at hP
          refine (hP).mono ?_
          rintro e y2 ⟨rfl, hg⟩
          replace H := H.grow hg
          clear hg
          clear hP
          (refine Kr.outS hK (a' := ?_) ?_ ?_; rotate_left; (focus ((try simp only [Kr.PT]); first | done | rfl))); clear hK K
          (refine Kr.seqQ (v := ?_) (a' := ?_) (by rfl) ?_ ?_ ?_; rotate_left 2; (focus (go_simp; first | done | rfl)); (focus ((try simp only [Kr.PT]); first | done | rfl)))
          refine Kr.seqDoneW ?_
          have HADD : Hid (IntKind.i64.wrap ((j : Int) + 1) = ((j + 1 : Nat) : Int)) := Lib.hid (wrap_nat (by omega) (by have h1 := HJ.out; have h2 := HT64.out; omega))
          go_upto_region 10 with fail
          refine Kr.seqStartW ?_
          (refine Kr.seqQ (v := .int .i64 ((j + 1 : Nat) : Int)) (a' := ?_) (by rfl) ?_ ?_ ?_; rotate_left 1; (focus (exact Kr.valOf rfl (addI HADD.out))); (focus ((try simp only [Kr.PT]); first | done | rfl)))
          (refine Kr.seqQ (v := ?_) (a' := ?_) (by rfl) ?_ ?_ ?_; rotate_left 2; (focus (go_simp; first | done | rfl)); (focus ((try simp only [Kr.PT]); first | done | rfl)))
          refine Kr.seqDoneW ?_
          go_wp2
          go_roundw
          case rel => exact ⟨j + 1, z, HJ.out, rfl, rfl, HZL2.out, HP3, Lib.hid H⟩
          case measure => simp [intOf]; have := HJ.out; omega
end Go.Proofs.YtfompolklkehpaaDoor.Pr


/- prime's Is. -/
namespace Go.Proofs.YtfompolklkehpaaDoor.Pr
open Go.RowKit Go.Shelf Go.Proofs.YtfompolklkehpaaDoor.Nm Go.Proofs.YtfompolklkehpaaDoor.Ne Go.Proofs.YtfompolklkehpaaDoor.Nf Go.Proofs.YtfompolklkehpaaDoor.Nk Go.Proofs.YtfompolklkehpaaDoor.Nv Go.Proofs.YtfompolklkehpaaDoor.Nr2 Go.Proofs.YtfompolklkehpaaDoor.Mo Go.Proofs.YtfompolklkehpaaDoor.Mr Go.Proofs.YtfompolklkehpaaDoor.Kr

/-- The twelve bases. -/
def bases : List Nat := [2, 3, 5, 7, 11, 13, 17, 19, 23, 29, 31, 37]
abbrev basesV : Array Value := #[.int .i64 2, .int .i64 3, .int .i64 5, .int .i64 7, .int .i64 11, .int .i64 13, .int .i64 17, .int .i64 19, .int .i64 23, .int .i64 29, .int .i64 31, .int .i64 37]
/-- What is left of the test: these bases are to be tried as divisors. -/
def tryL (n : Nat) : List Nat → Bool
  | [] => bases.all (pas n)
  | b :: r => if n % b = 0 then decide (n = b) else tryL n r
/-- The test of primality that document and program share. -/
def isP (n : Nat) : Bool := if n < 2 then false else tryL n bases
/-- The bases lie in their variable. -/
def Bas (w : World) : Prop := ∃ t fr, w.heap[0]? = some (.cells basesV t fr)
theorem Bas_grow {w W : World} (h : Bas w) (g : Gr w W) : Bas W := by
  obtain ⟨t, fr, h⟩ := h
  have hk : 0 < w.heap.size := (Array.getElem?_eq_some_iff.1 h).1
  exact ⟨t, fr, (g.block _ hk).trans h⟩
theorem bases_at : ∀ j, j < 12 → bases.drop j = bases.getD j 0 :: bases.drop (j + 1) ∧ 2 ≤ bases.getD j 0 ∧ bases.getD j 0 ≤ 37 := by decide
theorem bases_small : ∀ n, n < 38 → 2 ≤ n → ∃ j, j < 12 ∧ n % bases.getD j 0 = 0 := by decide
theorem bases_great {n : Nat} (h2 : 2 ≤ n) (h : ∀ j, j < 12 → n % bases.getD j 0 ≠ 0) : 37 < n := by
  rcases Nat.lt_or_ge 37 n with h1 | h1
  · exact h1
  · obtain ⟨j, hj, hz⟩ := bases_small n (by omega) h2
    exact absurd hz (h j hj)
theorem ix : ∀ (j : Nat), j < 12 → ∀ w : World, (Instr.index 58 (.agg basesV) (.int .i64 (j : Int))).run Tryd.prog w = .ok (.int .i64 ((bases.getD j 0 : Nat) : Int)) w
  | 0, _, _ => by kernel_rfl
  | 1, _, _ => by kernel_rfl
  | 2, _, _ => by kernel_rfl
  | 3, _, _ => by kernel_rfl
  | 4, _, _ => by kernel_rfl
  | 5, _, _ => by kernel_rfl
  | 6, _, _ => by kernel_rfl
  | 7, _, _ => by kernel_rfl
  | 8, _, _ => by kernel_rfl
  | 9, _, _ => by kernel_rfl
  | 10, _, _ => by kernel_rfl
  | 11, _, _ => by kernel_rfl
  | _ + 12, h, _ => absurd h (by omega)
theorem loadBas {w : World} (h : Bas w) : (Instr.loadAt 58 (.pointer (some ⟨0, 0, none⟩))).run Tryd.prog w = .ok (.agg basesV) w := by
  obtain ⟨t, fr, h⟩ := h
  simp only [Instr.loadAt, Instr.sureAddr, Sem.run_bind, Sem.run_pure, Result.andThen_ok, run_loadVar_row w 0 t 58 basesV fr _ h Tryd.underlying58 rfl (by kernel_rfl)]
set_option linter.unusedSimpArgs false in
set_option maxRecDepth 100000 in
set_option maxHeartbeats 16000000 in
theorem Is_low {n : Int} {w : World} (h : n < 2) :
    Calls Tryd.prog 12 #[.int .i64 n] w fun r w' => r = .returned (.bool false) ∧ Gr w w' := by
  have HL : Hid (decide (n < 2) = true) := Lib.hid (decide_eq_true h); clear h
  have H := Sta.start w
  go_enter Tryd.func12, Tryd.ntmps12
  go_upto_region 0 with fail
  refine Kr.seqStartW ?_
  (refine Kr.seqQ (v := ?_) (a' := ?_) (by rfl) ?_ ?_ ?_; rotate_left 2; (focus (go_simp; first | done | rfl)); (focus ((try simp only [Kr.PT]); first | done | rfl)))
  refine Kr.seqDoneW ?_
  go_upto_region 1 with fail
  refine Kr.seqStartW ?_
  (refine Kr.seqQ (v := ?_) (a' := ?_) (by rfl) ?_ ?_ ?_; rotate_left 2; (focus (go_simp; first | done | rfl)); (focus ((try simp only [Kr.PT]); first | done | rfl)))
  (refine Kr.seqQ (v := .bool true) (a' := ?_) (by rfl) ?_ ?_ ?_; rotate_left 1; (focus (exact Kr.valOf rfl (lssT HL.out))); (focus ((try simp only [Kr.PT]); first | done | rfl)))
  refine Kr.seqDoneW ?_
  go_upto_region 2 with fail
  refine Kr.seqStartW ?_
  (refine Kr.seqQ (v := ?_) (a' := ?_) (by rfl) ?_ ?_ ?_; rotate_left 2; (focus (go_simp; first | done | rfl)); (focus ((try simp only [Kr.PT]); first | done | rfl)))
  refine Kr.seqDoneW ?_
  have hk : True := trivial
  go_wp2
  refine bodyPost_ret (v := .bool false) (by simp [results, Tryd.results12, go_sem, hk]) rfl ⟨rfl, H.g⟩
set_option linter.unusedSimpArgs false in
set_option maxRecDepth 100000 in
set_option maxHeartbeats 16000000 in
theorem Is_ge {n : Nat} {w : World} (hT : ∀ W, Gr w W → Wb.Tab W ∧ Bas W) (h2 : 2 ≤ n) (hn : n < 9223372036854775808) :
    Calls Tryd.prog 12 #[.int .i64 (n : Int)] w fun r w' => r = .returned (.bool (isP n)) ∧ Gr w w' := by
  have HT := Lib.hid hT; have HN := Lib.hid hn; have HN2 := Lib.hid h2; clear hT hn h2
  have HL : Hid (decide ((n : Int) < 2) = false) := Lib.hid (decide_eq_false (by have := HN2.out; omega))
  obtain ⟨Q, hQ⟩ : ∃ Q, isP n = Q := ⟨_, rfl⟩
  rw [hQ]
  have HQ : Hid (tryL n (bases.drop 0) = Q) := Lib.hid (by rw [← hQ]; unfold isP; rw [if_neg (by have := HN2.out; omega)]; rfl)
  clear hQ
  have H := Sta.start w
  go_enter Tryd.func12, Tryd.ntmps12
  go_upto_region 0 with fail
  refine Kr.seqStartW ?_
  (refine Kr.seqQ (v := ?_) (a' := ?_) (by rfl) ?_ ?_ ?_; rotate_left 2; (focus (go_simp; first | done | rfl)); (focus ((try simp only [Kr.PT]); first | done | rfl)))
  refine Kr.seqDoneW ?_
  go_upto_region 1 with fail
  refine Kr.seqStartW ?_
  (refine Kr.seqQ (v := ?_) (a' := ?_) (by rfl) ?_ ?_ ?_; rotate_left 2; (focus (go_simp; first | done | rfl)); (focus ((try simp only [Kr.PT]); first | done | rfl)))
  (refine Kr.seqQ (v := .bool false) (a' := ?_) (by rfl) ?_ ?_ ?_; rotate_left 1; (focus (exact Kr.valOf rfl (lssT HL.out))); (focus ((try simp only [Kr.PT]); first | done | rfl)))
  refine Kr.seqDoneW ?_
  go_upto_region 3 with fail
  refine Kr.seqStartW ?_
  (refine Kr.seqQ (v := .agg basesV) (a' := ?_) (by rfl) ?_ ?_ ?_; rotate_left 1; (focus (exact Kr.valOf rfl (loadBas (HT.out _ H.g).2))); (focus ((try simp only [Kr.PT]); first | done | rfl)))
  (refine Kr.seqQ (v := ?_) (a' := ?_) (by rfl) ?_ ?_ ?_; rotate_left 2; (focus (go_simp; first | done | rfl)); (focus ((try simp only [Kr.PT]); first | done | rfl)))
  refine Kr.seqDoneW ?_
  have H2 := Lib.hid H
  clear H
  go_wp2_with fail
  go_loopw [10] (fun i wr => ∃ j : Nat, j ≤ 12 ∧ i = .int .i64 (j : Int) ∧ Hid (tryL n (bases.drop j) = Q) ∧ Hid (∀ i, i < j → n % bases.getD i 0 ≠ 0) ∧ Hid (Sta w wr [] [])) (fun i _ => 12 - (intOf i).toNat)
  case atStart => exact ⟨0, Nat.zero_le _, rfl, HQ, Lib.hid (fun i hi => absurd hi (Nat.not_lt_zero _)), H2⟩
  case round =>
    clear H2 HQ
    obtain ⟨j, hj, rfl, HP, HD, HH⟩ := hrel
    have H := HH.out; clear HH
    by_cases hjt : j = 12
    · have HLL : Hid (decide ((j : Int) < 12) = false) := Lib.hid (decide_eq_false (by omega))
      have HGT : Hid (37 < n) := Lib.hid (bases_great HN2.out (hjt ▸ HD.out))
      have HQ2 : Hid ((bases.drop 0).all (pas n) = Q) := Lib.hid (by rw [← HP.out, hjt]; rfl)
      clear HP HD hjt hj
      go_upto_region 4 with fail
      refine Kr.seqStartW ?_
      (refine Kr.seqQ (v := .bool false) (a' := ?_) (by rfl) ?_ ?_ ?_; rotate_left 1; (focus (exact Kr.valOf rfl (lssT HLL.out))); (focus ((try simp only [Kr.PT]); first | done | rfl)))
      refine Kr.seqDoneW ?_
      go_upto_region 9 with fail
      refine Kr.seqStartW ?_
      (refine Kr.seqQ (v := .agg basesV) (a' := ?_) (by rfl) ?_ ?_ ?_; rotate_left 1; (focus (exact Kr.valOf rfl (loadBas (HT.out _ H.g).2))); (focus ((try simp only [Kr.PT]); first | done | rfl)))
      (refine Kr.seqQ (v := ?_) (a' := ?_) (by rfl) ?_ ?_ ?_; rotate_left 2; (focus (go_simp; first | done | rfl)); (focus ((try simp only [Kr.PT]); first | done | rfl)))
      refine Kr.seqDoneW ?_
      have H2 := Lib.hid H
      clear H
      go_wp2_with fail
      go_loopw [22] (fun i wr => ∃ j : Nat, j ≤ 12 ∧ i = .int .i64 (j : Int) ∧ Hid ((bases.drop j).all (pas n) = Q) ∧ Hid (Sta w wr [] [])) (fun i _ => 12 - (intOf i).toNat)
      case atStart => exact ⟨0, Nat.zero_le _, rfl, HQ2, H2⟩
      case round =>
        clear H2 HQ2 HLL
        obtain ⟨j, hj, rfl, HP, HH⟩ := hrel
        have H := HH.out; clear HH
        by_cases hjt : j = 12
        · obtain rfl : true = Q := by rw [← HP.out, hjt]; rfl
          have HLL : Hid (decide ((j : Int) < 12) = false) := Lib.hid (decide_eq_false (by omega))
          clear hjt
          go_upto_region 10 with fail
          refine Kr.seqStartW ?_
          (refine Kr.seqQ (v := .bool false) (a' := ?_) (by rfl) ?_ ?_ ?_; rotate_left 1; (focus (exact Kr.valOf rfl (lssT HLL.out))); (focus ((try simp only [Kr.PT]); first | done | rfl)))
          refine Kr.seqDoneW ?_
          go_upto_region 15 with fail
          refine Kr.seqStartW ?_
          (refine Kr.seqQ (v := ?_) (a' := ?_) (by rfl) ?_ ?_ ?_; rotate_left 2; (focus (go_simp; first | done | rfl)); (focus ((try simp only [Kr.PT]); first | done | rfl)))
          refine Kr.seqDoneW ?_
          have hk : True := trivial
          go_wp2
          refine bodyPost_ret (v := .bool true) (by simp [results, Tryd.results12, go_sem, hk]) rfl ⟨rfl, H.g⟩
        · have HJ : Hid (j < 12) := Lib.hid (by omega)
          have HLL : Hid (decide ((j : Int) < 12) = true) := Lib.hid (decide_eq_true (by omega))
          clear hjt
          obtain ⟨hb0, hb1, hb2⟩ := bases_at j HJ.out
          have HIX := Lib.hid (ix j HJ.out)
          have HJN : Hid (∀ b, bases.getD j 0 = b → b = bases.getD j 0) := Lib.hid (fun b h => h.symm)
          obtain ⟨b, hb⟩ : ∃ b, bases.getD j 0 = b := ⟨_, rfl⟩
          rw [hb] at hb0 hb1 hb2 HIX
          have HB := Lib.hid hb; have HB1 := Lib.hid hb1; have HB2 := Lib.hid hb2
          clear hb hb1 hb2 HJN
          rw [hb0] at HP
          clear hb0
          have HADD : Hid (IntKind.i64.wrap ((j : Int) + 1) = ((j + 1 : Nat) : Int)) := Lib.hid (wrap_nat (by omega) (by have h1 := HJ.out; omega))
          have HBN : Hid (b < n) := Lib.hid (Nat.lt_of_le_of_lt HB2.out HGT.out)
          go_upto_region 10 with fail
          refine Kr.seqStartW ?_
          (refine Kr.seqQ (v := .bool true) (a' := ?_) (by rfl) ?_ ?_ ?_; rotate_left 1; (focus (exact Kr.valOf rfl (lssT HLL.out))); (focus ((try simp only [Kr.PT]); first | done | rfl)))
          refine Kr.seqDoneW ?_
          go_upto_region 11 with fail
          refine Kr.seqStartW ?_
          (refine Kr.seqQ (v := .int .i64 (b : Int)) (a' := ?_) (by rfl) ?_ ?_ ?_; rotate_left 1; (focus (exact Kr.valOf rfl (HIX.out _))); (focus ((try simp only [Kr.PT]); first | done | rfl)))
          (refine Kr.seqQ (v := ?_) (a' := ?_) (by rfl) ?_ ?_ ?_; rotate_left 2; (focus (go_simp; first | done | rfl)); (focus ((try simp only [Kr.PT]); first | done | rfl)))
          refine Kr.seqDoneW ?_
          cases hpb : pas n b
          · have HPB : Hid (pas n b = false) := Lib.hid hpb
            clear hpb
            obtain rfl : false = Q := by rw [← HP.out, List.all_cons, HPB.out]; rfl
            go_upto_region 12 with fail
            refine Kr.seqStartW ?_
            iterate 2 (refine Kr.seqQ (v := ?_) (a' := ?_) (by rfl) ?_ ?_ ?_; rotate_left 2; (focus (go_simp; first | done | rfl)); (focus ((try simp only [Kr.PT]); first | done | rfl)))
            refine Kr.seqR (by rfl) (fun K hK => ?_)
            go_simp
            go_at_call 30
            have hP := passes_v (w := wr) (fun W g => (HT.out W (H.g.trans g)).1) HBN.out HN2.out HN.out
            rw [HPB.out] at hP
            refine (hP).mono ?_
            rintro e y1 ⟨rfl, hg⟩
            replace H := H.grow hg
            clear hg
            clear hP
            (refine Kr.outS hK (a' := ?_) ?_ ?_; rotate_left; (focus ((try simp only [Kr.PT]); first | done | rfl))); clear hK K
            (refine Kr.seqQ (v := ?_) (a' := ?_) (by rfl) ?_ ?_ ?_; rotate_left 2; (focus (go_simp; first | done | rfl)); (focus ((try simp only [Kr.PT]); first | done | rfl)))
            refine Kr.seqDoneW ?_
            go_upto_region 13 with fail
            refine Kr.seqStartW ?_
            (refine Kr.seqQ (v := ?_) (a' := ?_) (by rfl) ?_ ?_ ?_; rotate_left 2; (focus (go_simp; first | done | rfl)); (focus ((try simp only [Kr.PT]); first | done | rfl)))
            refine Kr.seqDoneW ?_
            have hk : True := trivial
            go_wp2
            refine bodyPost_ret (v := .bool false) (by simp [results, Tryd.results12, go_sem, hk]) rfl ⟨rfl, H.g⟩
          · have HPB : Hid (pas n b = true) := Lib.hid hpb
            clear hpb
            have HP2 : Hid ((bases.drop (j + 1)).all (pas n) = Q) := Lib.hid (by rw [← HP.out, List.all_cons, HPB.out]; rfl)
            clear HP
            go_upto_region 12 with fail
            refine Kr.seqStartW ?_
            iterate 2 (refine Kr.seqQ (v := ?_) (a' := ?_) (by rfl) ?_ ?_ ?_; rotate_left 2; (focus (go_simp; first | done | rfl)); (focus ((try simp only [Kr.PT]); first | done | rfl)))
            refine Kr.seqR (by rfl) (fun K hK => ?_)
            go_simp
            go_at_call 30
            have hP := passes_v (w := wr) (fun W g => (HT.out W (H.g.trans g)).1) HBN.out HN2.out HN.out
            rw [HPB.out] at hP
            refine (hP).mono ?_
            rintro e y2 ⟨rfl, hg⟩
            replace H := H.grow hg
            clear hg
            clear hP
            (refine Kr.outS hK (a' := ?_) ?_ ?_; rotate_left; (focus ((try simp only [Kr.PT]); first | done | rfl))); clear hK K
            (refine Kr.seqQ (v := ?_) (a' := ?_) (by rfl) ?_ ?_ ?_; rotate_left 2; (focus (go_simp; first | done | rfl)); (focus ((try simp only [Kr.PT]); first | done | rfl)))
            refine Kr.seqDoneW ?_
            go_upto_region 14 with fail
            refine Kr.seqStartW ?_
            (refine Kr.seqQ (v := .int .i64 ((j + 1 : Nat) : Int)) (a' := ?_) (by rfl) ?_ ?_ ?_; rotate_left 1; (focus (exact Kr.valOf rfl (addI HADD.out))); (focus ((try simp only [Kr.PT]); first | done | rfl)))
            (refine Kr.seqQ (v := ?_) (a' := ?_) (by rfl) ?_ ?_ ?_; rotate_left 2; (focus (go_simp; first | done | rfl)); (focus ((try simp only [Kr.PT]); first | done | rfl)))
            refine Kr.seqDoneW ?_
            go_wp2
            go_roundw
            case rel => exact ⟨j + 1, HJ.out, rfl, HP2, Lib.hid H⟩
            case measure => simp [intOf]; have := HJ.out; omega
    · have HJ : Hid (j < 12) := Lib.hid (by omega)
      have HLL : Hid (decide ((j : Int) < 12) = true) := Lib.hid (decide_eq_true (by omega))
      clear hjt
      obtain ⟨hb0, hb1, hb2⟩ := bases_at j HJ.out
      have HIX := Lib.hid (ix j HJ.out)
      have HJN : Hid (∀ b, bases.getD j 0 = b → b = bases.getD j 0) := Lib.hid (fun b h => h.symm)
      obtain ⟨b, hb⟩ : ∃ b, bases.getD j 0 = b := ⟨_, rfl⟩
      rw [hb] at hb0 hb1 hb2 HIX
      have HB := Lib.hid hb; have HB1 := Lib.hid hb1; have HB2 := Lib.hid hb2
      clear hb hb1 hb2 HJN
      rw [hb0] at HP
      clear hb0
      have HADD : Hid (IntKind.i64.wrap ((j : Int) + 1) = ((j + 1 : Nat) : Int)) := Lib.hid (wrap_nat (by omega) (by have h1 := HJ.out; omega))
      obtain ⟨r, hr⟩ : ∃ r, n % b = r := ⟨_, rfl⟩
      have HR := Lib.hid hr; clear hr
      have HB0 : Hid (0 < b) := Lib.hid (by have := HB1.out; omega); have HB63 : Hid (b < 9223372036854775808) := Lib.hid (by have := HB2.out; omega)
      go_upto_region 4 with fail
      refine Kr.seqStartW ?_
      (refine Kr.seqQ (v := .bool true) (a' := ?_) (by rfl) ?_ ?_ ?_; rotate_left 1; (focus (exact Kr.valOf rfl (lssT HLL.out))); (focus ((try simp only [Kr.PT]); first | done | rfl)))
      refine Kr.seqDoneW ?_
      go_upto_region 5 with fail
      refine Kr.seqStartW ?_
      (refine Kr.seqQ (v := .int .i64 (b : Int)) (a' := ?_) (by rfl) ?_ ?_ ?_; rotate_left 1; (focus (exact Kr.valOf rfl (HIX.out _))); (focus ((try simp only [Kr.PT]); first | done | rfl)))
      (refine Kr.seqQ (v := ?_) (a' := ?_) (by rfl) ?_ ?_ ?_; rotate_left 2; (focus (go_simp; first | done | rfl)); (focus ((try simp only [Kr.PT]); first | done | rfl)))
      refine Kr.seqDoneW ?_
      by_cases hr0 : r = 0
      · subst hr0
        have HE : Hid (decide (((0 : Nat) : Int) = 0) = true) := Lib.hid (by decide)
        have HQE : Hid (decide ((n : Int) = (b : Int)) = Q) := Lib.hid (by rw [← HP.out]; unfold tryL; rw [if_pos HR.out]; rw [Bool.eq_iff_iff]; simp; omega)
        clear HP
        go_upto_region 6 with fail
        refine Kr.seqStartW ?_
        iterate 2 (refine Kr.seqQ (v := ?_) (a' := ?_) (by rfl) ?_ ?_ ?_; rotate_left 2; (focus (go_simp; first | done | rfl)); (focus ((try simp only [Kr.PT]); first | done | rfl)))
        (refine Kr.seqQ (v := .int .i64 ((0 : Nat) : Int)) (a' := ?_) (by rfl) ?_ ?_ ?_; rotate_left 1; (focus (exact Kr.valOf rfl (remI HB0.out HR.out HB63.out))); (focus ((try simp only [Kr.PT]); first | done | rfl)))
        (refine Kr.seqQ (v := .bool true) (a' := ?_) (by rfl) ?_ ?_ ?_; rotate_left 1; (focus (exact Kr.valOf rfl (eqlI HE.out))); (focus ((try simp only [Kr.PT]); first | done | rfl)))
        refine Kr.seqDoneW ?_
        go_upto_region 7 with fail
        refine Kr.seqStartW ?_
        iterate 2 (refine Kr.seqQ (v := ?_) (a' := ?_) (by rfl) ?_ ?_ ?_; rotate_left 2; (focus (go_simp; first | done | rfl)); (focus ((try simp only [Kr.PT]); first | done | rfl)))
        (refine Kr.seqQ (v := .bool Q) (a' := ?_) (by rfl) ?_ ?_ ?_; rotate_left 1; (focus (exact Kr.valOf rfl (eqlI HQE.out))); (focus ((try simp only [Kr.PT]); first | done | rfl)))
        (refine Kr.seqQ (v := ?_) (a' := ?_) (by rfl) ?_ ?_ ?_; rotate_left 2; (focus (go_simp; first | done | rfl)); (focus ((try simp only [Kr.PT]); first | done | rfl)))
        refine Kr.seqDoneW ?_
        have hk : True := trivial
        go_wp2
        refine bodyPost_ret (v := .bool Q) (by simp [results, Tryd.results12, go_sem, hk]) rfl ⟨rfl, H.g⟩
      · have HE : Hid (decide ((r : Int) = 0) = false) := Lib.hid (decide_eq_false (by omega))
        have HP2 : Hid (tryL n (bases.drop (j + 1)) = Q) := Lib.hid (by rw [← HP.out]; conv => rhs; unfold tryL; rw [if_neg (by rw [HR.out]; exact hr0)])
        clear HP
        have HD2 : Hid (∀ i, i < j + 1 → n % bases.getD i 0 ≠ 0) := Lib.hid (fun i hi => by rcases Nat.lt_succ_iff_lt_or_eq.1 hi with h | h; exact HD.out i h; subst h; rw [HB.out, HR.out]; exact hr0)
        clear hr0 HD
        go_upto_region 6 with fail
        refine Kr.seqStartW ?_
        iterate 2 (refine Kr.seqQ (v := ?_) (a' := ?_) (by rfl) ?_ ?_ ?_; rotate_left 2; (focus (go_simp; first | done | rfl)); (focus ((try simp only [Kr.PT]); first | done | rfl)))
        (refine Kr.seqQ (v := .int .i64 (r : Int)) (a' := ?_) (by rfl) ?_ ?_ ?_; rotate_left 1; (focus (exact Kr.valOf rfl (remI HB0.out HR.out HB63.out))); (focus ((try simp only [Kr.PT]); first | done | rfl)))
        (refine Kr.seqQ (v := .bool false) (a' := ?_) (by rfl) ?_ ?_ ?_; rotate_left 1; (focus (exact Kr.valOf rfl (eqlI HE.out))); (focus ((try simp only [Kr.PT]); first | done | rfl)))
        refine Kr.seqDoneW ?_
        go_upto_region 8 with fail
        refine Kr.seqStartW ?_
        (refine Kr.seqQ (v := .int .i64 ((j + 1 : Nat) : Int)) (a' := ?_) (by rfl) ?_ ?_ ?_; rotate_left 1; (focus (exact Kr.valOf rfl (addI HADD.out))); (focus ((try simp only [Kr.PT]); first | done | rfl)))
        (refine Kr.seqQ (v := ?_) (a' := ?_) (by rfl) ?_ ?_ ?_; rotate_left 2; (focus (go_simp; first | done | rfl)); (focus ((try simp only [Kr.PT]); first | done | rfl)))
        refine Kr.seqDoneW ?_
        go_wp2
        go_roundw
        case rel => exact ⟨j + 1, HJ.out, rfl, HP2, HD2, Lib.hid H⟩
        case measure => simp [intOf]; have := HJ.out; omega
theorem Is_v {n : Nat} {w : World} (hT : Wb.Tab w ∧ Bas w) (hn : n < 9223372036854775808) :
    Calls Tryd.prog 12 #[.int .i64 (n : Int)] w fun r w' => r = .returned (.bool (isP n)) ∧ Gr w w' := by
  rcases Nat.lt_or_ge n 2 with h | h
  · rw [show isP n = false from if_pos h]
    exact Is_low (by omega)
  · exact Is_ge (fun W g => ⟨Tab_grow hT.1 g, Bas_grow hT.2 g⟩) h hn
end Go.Proofs.YtfompolklkehpaaDoor.Pr


/- The contracts of the reference of layer 1 over this seat's translation. -/
namespace Go.Proofs.YtfompolklkehpaaDoor.Wr
open Go.RowKit Go.Proofs.YtfompolklkehpaaDoor.Wb Go.Proofs.YtfompolklkehpaaDoor.Ww

theorem ret_b {a c : Bool} (h : a = c) : Ending.returned (.bool a) = .returned (.bool c) := by rw [h]

theorem mul_half (a b m o : Nat) (hb : b % 2 = 0) : (o + (a + a) % m * (b / 2)) % m = (o + a * b) % m := by
  rw [← Nat.add_mod_mod, Nat.mod_mul_mod, Nat.add_mod_mod]
  have : (a + a) * (b / 2) = a * b := by
    have e : b = 2 * (b / 2) := by omega
    conv => rhs; rw [e]
    rw [← Nat.two_mul, Nat.mul_assoc, Nat.mul_left_comm]
  rw [this]
theorem mul_half_odd (a b m o : Nat) (hb : b % 2 = 1) : ((o + a) % m + (a + a) % m * (b / 2)) % m = (o + a * b) % m := by
  rw [Nat.mod_add_mod, ← Nat.add_mod_mod, Nat.mod_mul_mod, Nat.add_mod_mod]
  have : (a + a) * (b / 2) = a * (b - 1) := by
    have e : b - 1 = 2 * (b / 2) := by omega
    rw [e, ← Nat.two_mul, Nat.mul_assoc, Nat.mul_left_comm]
  have e2 : a * b = a * (b - 1) + a := by
    have e : b = (b - 1) + 1 := by omega
    conv => lhs; rw [e]
    rw [Nat.mul_add, Nat.mul_one]
  rw [this, e2, Nat.add_assoc, Nat.add_comm a]

set_option maxHeartbeats 1000000 in
theorem Mul_any (a b m : Nat) (ha : a < m) (hb : b < m) (hm : m < 2305843009213693952) (w : World) :
    Calls Tryd.prog 53 #[.int .i64 a, .int .i64 b, .int .i64 m] w fun x w' => x = .returned (.int .i64 ((a * b % m : Nat) : Int)) ∧ w' = w := by
  by_cases hs : a < 2147483648 ∧ b < 2147483648
  · obtain ⟨h1, h2⟩ := hs
    have hp : a * b < 4611686018427387904 := by
      have : a * b ≤ a * 2147483648 := Nat.mul_le_mul_left _ (by omega)
      omega
    have e : wrap64 ((a : Int) * (b : Int)) % (m : Int) = ((a * b % m : Nat) : Int) := by
      rw [← Int.natCast_mul, IntWalk.wrap64_in _ ⟨by omega, by omega⟩, Int.natCast_emod]
    have e2 : (wrap64 ((a : Int) * (b : Int))).tmod (m : Int) = ((a * b % m : Nat) : Int) := by
      rw [← e, Int.tmod_eq_emod_of_nonneg]
      rw [← Int.natCast_mul, IntWalk.wrap64_in _ ⟨by omega, by omega⟩]; omega
    have E := Lib.hid e2
    have d1 : decide ((a : Int) < 2147483648) = true := by simp; omega
    have d2 : decide ((b : Int) < 2147483648) = true := by simp; omega
    clear e e2 hp h1 h2
    go_enter Tryd.func53, Tryd.ntmps53
    go_wp2
    go_ret
    exact ⟨ret_i E.out, rfl⟩
  · obtain ⟨A, HA⟩ : ∃ A, Hid (a * b % m = A) := ⟨_, Lib.hid rfl⟩
    have hst : (0 + a * b) % m = A := by rw [Nat.zero_add]; exact HA.out
    have Hst := Lib.hid hst
    rw [HA.out]
    clear hst HA
    have hT : (decide ((a : Int) < 2147483648) = false) ∨ (decide ((a : Int) < 2147483648) = true ∧ decide ((b : Int) < 2147483648) = false) := by
      by_cases h1 : a < 2147483648
      · exact Or.inr ⟨decide_eq_true (by omega), decide_eq_false (by omega)⟩
      · exact Or.inl (decide_eq_false (by omega))
    clear hs
    have hbb : b < 2305843009213693952 := by omega
    rcases hT with d1 | ⟨d1, d2⟩
    all_goals
      go_enter Tryd.func53, Tryd.ntmps53
      go_wp2_with fail
      go_loop [0, 1, 7] (fun s0 s1 s7 => ∃ a b o : Nat, s0 = .int .i64 a ∧ s1 = .int .i64 b ∧ s7 = .int .i64 o ∧ a < m ∧ o < m ∧ b < 2305843009213693952 ∧ Hid ((o + a * b) % m = A)) (fun _ s1 _ => (intOf s1).toNat)
      case atStart => exact ⟨a, b, 0, rfl, rfl, rfl, ha, by omega, hbb, Hst⟩
      case round =>
        clear Hst hbb ha hb d1
        try clear d2
        obtain ⟨a, b, o, rfl, rfl, rfl, ha, ho, hb, HI⟩ := hrel
        by_cases h0 : b = 0
        · have HR : Hid ((o : Int) = (A : Int)) := Lib.hid (by rw [← HI.out, h0, Nat.mul_zero, Nat.add_zero, Nat.mod_eq_of_lt ho])
          have hb0 : ¬ 0 < (b : Int) := by omega
          clear h0
          go_wp2
          go_ret
          exact ⟨ret_i HR.out, rfl⟩
        · have hb0 : 0 < (b : Int) := by omega
          have hM : (a + a) % m < m := Nat.mod_lt _ (by omega)
          have E1 : Hid (((a : Int) + (a : Int)) % (m : Int) = (((a + a) % m : Nat) : Int)) := Lib.hid (by rw [Int.natCast_emod]; rfl)
          have hO : (o + a) % m < m := Nat.mod_lt _ (by omega)
          have E2 : Hid (((o : Int) + (a : Int)) % (m : Int) = (((o + a) % m : Nat) : Int)) := Lib.hid (by rw [Int.natCast_emod]; rfl)
          have E3 : Hid ((b : Int) / 2 = ((b / 2 : Nat) : Int)) := Lib.hid (by omega)
          by_cases h2 : b % 2 = 1
          · have HI2 : Hid (((o + a) % m + (a + a) % m * (b / 2)) % m = A) := Lib.hid (by rw [mul_half_odd a b m o h2]; exact HI.out)
            have hp : ((b : Int) % 2 == 1) = true := by simp; omega
            generalize (a + a) % m = M at *
            generalize (o + a) % m = O at *
            clear h2 h0 HI
            go_wp2
            go_round
            case rel => exact ⟨M, b / 2, O, by rw [E1.out], by rw [E3.out], by rw [E2.out], hM, hO, by omega, HI2⟩
            case measure => rw [E3.out]; simp [intOf]; omega
          · have HI2 : Hid ((o + (a + a) % m * (b / 2)) % m = A) := Lib.hid (by rw [mul_half a b m o (by omega)]; exact HI.out)
            have hp : ((b : Int) % 2 == 1) = false := by simp; omega
            generalize (a + a) % m = M at *
            clear h2 h0 HI
            go_wp2
            go_round
            case rel => exact ⟨M, b / 2, o, by rw [E1.out], by rw [E3.out], rfl, hM, ho, by omega, HI2⟩
            case measure => rw [E3.out]; simp [intOf]; omega

set_option maxHeartbeats 1000000 in
theorem Pow_any (a e m : Nat) (ha : a < m) (hm : m < 2305843009213693952) (he : e < 9223372036854775808) (w : World) :
    Calls Tryd.prog 35 #[.int .i64 a, .int .i64 e, .int .i64 m] w fun x w' => x = .returned (.int .i64 ((a ^ e % m : Nat) : Int)) ∧ w' = w := by
  obtain ⟨one, h1⟩ : ∃ one, one = 1 % m := ⟨_, rfl⟩
  have e1 : (1 : Int) % (m : Int) = (one : Int) := by rw [h1, Int.natCast_emod]; rfl
  have h1m : one < m := by rw [h1]; exact Nat.mod_lt _ (by omega)
  have hst : one * a ^ e % m = a ^ e % m := by rw [h1, Nat.mod_mul_mod, Nat.one_mul]
  obtain ⟨A, HA⟩ : ∃ A, Hid (a ^ e % m = A) := ⟨_, Lib.hid rfl⟩
  rw [HA.out] at hst
  have Hst := Lib.hid hst
  rw [HA.out]
  clear h1 hst HA
  go_enter Tryd.func35, Tryd.ntmps35
  go_wp2_with fail
  go_loop [0, 1, 7] (fun s0 s1 s7 => ∃ a e p : Nat, s0 = .int .i64 a ∧ s1 = .int .i64 e ∧ s7 = .int .i64 p ∧ a < m ∧ p < m ∧ e < 9223372036854775808 ∧ Hid (p * a ^ e % m = A)) (fun _ s1 _ => (intOf s1).toNat)
  case atStart => exact ⟨a, e, one, rfl, rfl, by rw [e1], ha, h1m, he, Hst⟩
  case round =>
    clear Hst e1 h1m he ha
    obtain ⟨a, e, p, rfl, rfl, rfl, ha, hp, he, HI⟩ := hrel
    by_cases h0 : e = 0
    · have HR : Hid ((p : Int) = (A : Int)) := Lib.hid (by rw [← HI.out, h0, Nat.pow_zero, Nat.mul_one, Nat.mod_eq_of_lt hp])
      have hb0 : ¬ 0 < (e : Int) := by omega
      clear h0
      go_wp2
      go_ret
      exact ⟨ret_i HR.out, rfl⟩
    · have hb0 : 0 < (e : Int) := by omega
      have HM := Lib.hid (fun w => Mul_any a a m ha ha hm w)
      have hM : a * a % m < m := Nat.mod_lt _ (by omega)
      have HP := Lib.hid (fun w => Mul_any p a m hp ha hm w)
      have hP : p * a % m < m := Nat.mod_lt _ (by omega)
      have E3 : Hid ((e : Int) / 2 = ((e / 2 : Nat) : Int)) := Lib.hid (by omega)
      by_cases h2 : e % 2 = 1
      · have HI2 : Hid ((p * a % m) * (a * a % m) ^ (e / 2) % m = A) := Lib.hid (by rw [pow_odd, show 2 * (e / 2) + 1 = e by omega]; exact HI.out)
        have hpar : ((e : Int) % 2 == 1) = true := by simp; omega
        generalize a * a % m = M at *
        generalize p * a % m = P at *
        clear h2 h0 HI
        go_wp2_with fail
        refine (HP.out _).mono ?_
        rintro x w' ⟨rfl, rfl⟩
        go_wp2_with fail
        refine (HM.out _).mono ?_
        rintro x w' ⟨rfl, rfl⟩
        go_wp2
        go_round
        case rel => exact ⟨M, e / 2, P, rfl, by rw [E3.out], rfl, hM, hP, by omega, HI2⟩
        case measure => rw [E3.out]; simp [intOf]; omega
      · have HI2 : Hid (p * (a * a % m) ^ (e / 2) % m = A) := Lib.hid (by rw [pow_even, show 2 * (e / 2) = e by omega]; exact HI.out)
        have hpar : ((e : Int) % 2 == 1) = false := by simp; omega
        generalize a * a % m = M at *
        clear h2 h0 HI
        go_wp2_with fail
        refine (HM.out _).mono ?_
        rintro x w' ⟨rfl, rfl⟩
        go_wp2
        go_round
        case rel => exact ⟨M, e / 2, p, rfl, by rw [E3.out], rfl, hM, hp, by omega, HI2⟩
        case measure => rw [E3.out]; simp [intOf]; omega
end Go.Proofs.YtfompolklkehpaaDoor.Wr


/- The reference's strong test. -/
namespace Go.Proofs.YtfompolklkehpaaDoor.Pr
open Go.RowKit Go.Shelf Go.Proofs.YtfompolklkehpaaDoor.Nm Go.Proofs.YtfompolklkehpaaDoor.Ne Go.Proofs.YtfompolklkehpaaDoor.Nf Go.Proofs.YtfompolklkehpaaDoor.Nk Go.Proofs.YtfompolklkehpaaDoor.Nv Go.Proofs.YtfompolklkehpaaDoor.Nr2 Go.Proofs.YtfompolklkehpaaDoor.Mo Go.Proofs.YtfompolklkehpaaDoor.Mr Go.Proofs.YtfompolklkehpaaDoor.Kr

theorem pow_small_exp {k d a : Nat} (h : 2 ^ k * d = a) (hd : 0 < d) (ha : a < 9223372036854775808) : k < 64 := by
  rcases Nat.lt_or_ge k 64 with h1 | h1
  · exact h1
  · have h2 : 2 ^ 64 ≤ 2 ^ k := Nat.pow_le_pow_right (by decide) h1
    have h3 : 2 ^ k * 1 ≤ 2 ^ k * d := Nat.mul_le_mul_left _ hd
    have h4 : (2 : Nat) ^ 64 = 18446744073709551616 := by decide
    omega
theorem pasFrom_succ {n x k : Nat} : pasFrom n x (k + 1) = (decide (x = n - 1) || pasFrom n (x * x % n) k) := rfl
theorem even_of {k d a : Nat} (h : 2 ^ k * d = a) (hd : d % 2 = 1) (ha : a % 2 = 0) : 1 ≤ k := by
  rcases Nat.eq_zero_or_pos k with h1 | h1
  · subst h1; rw [Nat.pow_zero, Nat.one_mul] at h; omega
  · exact h1
set_option linter.unusedSimpArgs false in
set_option maxRecDepth 100000 in
set_option maxHeartbeats 16000000 in
theorem strong_v {n b : Nat} {w : World} (hb : b < n) (h2 : 2 ≤ n) (hodd : n % 2 = 1) (hm : n < 2305843009213693952) :
    Calls Tryd.prog 32 #[.int .i64 (n : Int), .int .i64 (b : Int)] w fun r w' => r = .returned (.bool (pas n b)) ∧ Gr w w' := by
  have HB := Lib.hid hb; have HM := Lib.hid hm; have HN2 := Lib.hid h2; have HODD := Lib.hid hodd; have HN : Hid (n < 9223372036854775808) := Lib.hid (Nat.lt_trans hm (by decide)); clear hb hm h2 hodd
  obtain ⟨a, ha⟩ : ∃ a, n - 1 = a := ⟨_, rfl⟩
  have HA := Lib.hid ha; have HA0 : Hid (a ≠ 0) := Lib.hid (by have := HN2.out; omega); have HA63 : Hid (a < 9223372036854775808) := Lib.hid (by have := HN.out; omega); have HAE : Hid (a % 2 = 0) := Lib.hid (by have := HODD.out; have := HN2.out; omega)
  have HSUB : Hid (IntKind.i64.wrap ((n : Int) - 1) = (a : Int)) := Lib.hid (wrap_nat (by have h1 := HN2.out; have h2 := HA.out; omega) HA63.out)
  clear ha
  obtain ⟨Q, hQ⟩ : ∃ Q, pas n b = Q := ⟨_, rfl⟩
  rw [hQ]
  have HQ := Lib.hid hQ; clear hQ
  have H := Sta.start w
  go_enter Tryd.func32, Tryd.ntmps32
  go_upto_region 0 with fail
  refine Kr.seqStartW ?_
  (refine Kr.seqQ (v := ?_) (a' := ?_) (by rfl) ?_ ?_ ?_; rotate_left 2; (focus (go_simp; first | done | rfl)); (focus ((try simp only [Kr.PT]); first | done | rfl)))
  refine Kr.seqDoneW ?_
  go_upto_region 1 with fail
  refine Kr.seqStartW ?_
  (refine Kr.seqQ (v := ?_) (a' := ?_) (by rfl) ?_ ?_ ?_; rotate_left 2; (focus (go_simp; first | done | rfl)); (focus ((try simp only [Kr.PT]); first | done | rfl)))
  (refine Kr.seqQ (v := .int .i64 (a : Int)) (a' := ?_) (by rfl) ?_ ?_ ?_; rotate_left 1; (focus (exact Kr.valOf rfl (subI HSUB.out))); (focus ((try simp only [Kr.PT]); first | done | rfl)))
  iterate 2 (refine Kr.seqQ (v := ?_) (a' := ?_) (by rfl) ?_ ?_ ?_; rotate_left 2; (focus (go_simp; first | done | rfl)); (focus ((try simp only [Kr.PT]); first | done | rfl)))
  refine Kr.seqDoneW ?_
  have H2 := Lib.hid H
  clear H
  go_wp2_with fail
  go_loopw [5, 6] (fun dv sv wr => ∃ d k : Nat, dv = .int .i64 (d : Int) ∧ sv = .int .i64 (k : Int) ∧ 0 < d ∧ d ≤ a ∧ Hid (2 ^ k * d = a) ∧ Hid (Sta w wr [] [])) (fun dv _ _ => (intOf dv).toNat)
  case atStart => exact ⟨a, 0, rfl, rfl, Nat.pos_of_ne_zero HA0.out, Nat.le_refl _, Lib.hid (by rw [Nat.pow_zero, Nat.one_mul]), H2⟩
  case round =>
    clear H2
    obtain ⟨d, k, rfl, rfl, hd0, hda, HPD, HH⟩ := hrel
    have H := HH.out; have HD0 := Lib.hid hd0; have HDA := Lib.hid hda; clear HH hd0 hda
    have HD63 : Hid (d < 9223372036854775808) := Lib.hid (Nat.lt_of_le_of_lt HDA.out HA63.out)
    have HK64 : Hid (k < 64) := Lib.hid (pow_small_exp HPD.out HD0.out HA63.out)
    by_cases hod : d % 2 = 1
    · have HOD := Lib.hid hod; have HR0 : Hid (decide (((1 : Nat) : Int) = 0) = false) := Lib.hid (by decide)
      clear hod
      go_upto_region 2 with fail
      refine Kr.seqStartW ?_
      (refine Kr.seqQ (v := ?_) (a' := ?_) (by rfl) ?_ ?_ ?_; rotate_left 2; (focus (go_simp; first | done | rfl)); (focus ((try simp only [Kr.PT]); first | done | rfl)))
      (refine Kr.seqQ (v := .int .i64 ((1 : Nat) : Int)) (a' := ?_) (by rfl) ?_ ?_ ?_; rotate_left 1; (focus (exact Kr.valOf rfl (remI (by decide) HOD.out (by decide)))); (focus ((try simp only [Kr.PT]); first | done | rfl)))
      (refine Kr.seqQ (v := .bool false) (a' := ?_) (by rfl) ?_ ?_ ?_; rotate_left 1; (focus (exact Kr.valOf rfl (eqlI HR0.out))); (focus ((try simp only [Kr.PT]); first | done | rfl)))
      refine Kr.seqDoneW ?_
      obtain ⟨x0, hx0⟩ : ∃ x0, b ^ d % n = x0 := ⟨_, rfl⟩
      have HX0 := Lib.hid hx0; have HX0L : Hid (x0 < n) := Lib.hid (hx0 ▸ Nat.mod_lt _ (Nat.lt_of_le_of_lt (Nat.zero_le _) HB.out))
      have HQ2 : Hid (Q = (decide (x0 = 1) || pasFrom n x0 k)) := Lib.hid (by rw [← HQ.out, pas_eq HOD.out (by rw [HA.out]; exact HPD.out) (Nat.lt_trans HN.out (by decide)), hx0])
      have HK1 : Hid (1 ≤ k) := Lib.hid (even_of HPD.out HOD.out HAE.out)
      clear hx0 HQ
      go_upto_region 5 with fail
      refine Kr.seqStartW ?_
      iterate 3 (refine Kr.seqQ (v := ?_) (a' := ?_) (by rfl) ?_ ?_ ?_; rotate_left 2; (focus (go_simp; first | done | rfl)); (focus ((try simp only [Kr.PT]); first | done | rfl)))
      refine Kr.seqR (by rfl) (fun K hK => ?_)
      go_simp
      go_at_call 35
      have hP := Wr.Pow_any b d n HB.out HM.out HD63.out wr
      rw [HX0.out] at hP
      refine (hP).mono ?_
      rintro e w9 ⟨rfl, hw⟩
      rw [hw]
      clear hw w9
      clear hP
      (refine Kr.outS hK (a' := ?_) ?_ ?_; rotate_left; (focus ((try simp only [Kr.PT]); first | done | rfl))); clear hK K
      (refine Kr.seqQ (v := ?_) (a' := ?_) (by rfl) ?_ ?_ ?_; rotate_left 2; (focus (go_simp; first | done | rfl)); (focus ((try simp only [Kr.PT]); first | done | rfl)))
      refine Kr.seqDoneW ?_
      by_cases h1 : x0 = 1
      · have HE : Hid (decide ((x0 : Int) = 1) = true) := Lib.hid (decide_eq_true (by omega))
        obtain rfl : Q = true := by rw [HQ2.out, decide_eq_true h1]; rfl
        clear h1
        go_upto_region 6 with fail
        refine Kr.seqStartW ?_
        (refine Kr.seqQ (v := ?_) (a' := ?_) (by rfl) ?_ ?_ ?_; rotate_left 2; (focus (go_simp; first | done | rfl)); (focus ((try simp only [Kr.PT]); first | done | rfl)))
        (refine Kr.seqQ (v := .bool true) (a' := ?_) (by rfl) ?_ ?_ ?_; rotate_left 1; (focus (exact Kr.valOf rfl (eqlI HE.out))); (focus ((try simp only [Kr.PT]); first | done | rfl)))
        (refine Kr.seqQ (v := ?_) (a' := ?_) (by rfl) ?_ ?_ ?_; rotate_left 2; (focus (go_simp; first | done | rfl)); (focus ((try simp only [Kr.PT]); first | done | rfl)))
        (refine Kr.seqSkipQ (a' := ?_) (by rfl) ?_ ?_; rotate_left; (focus ((try simp only [Kr.PT]); first | done | rfl)))
        (refine Kr.seqSkipQ (a' := ?_) (by rfl) ?_ ?_; rotate_left; (focus ((try simp only [Kr.PT]); first | done | rfl)))
        (refine Kr.seqSkipQ (a' := ?_) (by rfl) ?_ ?_; rotate_left; (focus ((try simp only [Kr.PT]); first | done | rfl)))
        (refine Kr.seqSkipQ (a' := ?_) (by rfl) ?_ ?_; rotate_left; (focus ((try simp only [Kr.PT]); first | done | rfl)))
        (refine Kr.seqQ (v := ?_) (a' := ?_) (by rfl) ?_ ?_ ?_; rotate_left 2; (focus (go_simp; first | done | rfl)); (focus ((try simp only [Kr.PT]); first | done | rfl)))
        refine Kr.seqDoneW ?_
        go_upto_region 7 with fail
        refine Kr.seqStartW ?_
        (refine Kr.seqQ (v := ?_) (a' := ?_) (by rfl) ?_ ?_ ?_; rotate_left 2; (focus (go_simp; first | done | rfl)); (focus ((try simp only [Kr.PT]); first | done | rfl)))
        refine Kr.seqDoneW ?_
        have hk : True := trivial
        go_wp2
        refine bodyPost_ret (v := .bool true) (by simp [results, Tryd.results32, go_sem, hk]) rfl ⟨rfl, H.g⟩
      · have HE : Hid (decide ((x0 : Int) = 1) = false) := Lib.hid (decide_eq_false (by omega))
        obtain ⟨k1, hk1⟩ : ∃ k1, k = k1 + 1 := ⟨k - 1, by have := HK1.out; omega⟩
        have HK2 := Lib.hid hk1
        have HQ3 : Hid (Q = (decide (x0 = a) || pasFrom n (x0 * x0 % n) (k - 1))) := Lib.hid (by rw [HQ2.out, decide_eq_false h1, Bool.false_or, hk1, pasFrom_succ, HA.out]; rfl)
        clear h1 hk1 HQ2
        by_cases h2 : x0 = a
        · have HE2 : Hid (decide ((x0 : Int) = (a : Int)) = true) := Lib.hid (decide_eq_true (by omega))
          obtain rfl : Q = true := by rw [HQ3.out, decide_eq_true h2]; rfl
          clear h2
          go_upto_region 6 with fail
          refine Kr.seqStartW ?_
          (refine Kr.seqQ (v := ?_) (a' := ?_) (by rfl) ?_ ?_ ?_; rotate_left 2; (focus (go_simp; first | done | rfl)); (focus ((try simp only [Kr.PT]); first | done | rfl)))
          (refine Kr.seqQ (v := .bool false) (a' := ?_) (by rfl) ?_ ?_ ?_; rotate_left 1; (focus (exact Kr.valOf rfl (eqlI HE.out))); (focus ((try simp only [Kr.PT]); first | done | rfl)))
          iterate 3 (refine Kr.seqQ (v := ?_) (a' := ?_) (by rfl) ?_ ?_ ?_; rotate_left 2; (focus (go_simp; first | done | rfl)); (focus ((try simp only [Kr.PT]); first | done | rfl)))
          (refine Kr.seqQ (v := .int .i64 (a : Int)) (a' := ?_) (by rfl) ?_ ?_ ?_; rotate_left 1; (focus (exact Kr.valOf rfl (subI HSUB.out))); (focus ((try simp only [Kr.PT]); first | done | rfl)))
          (refine Kr.seqQ (v := .bool true) (a' := ?_) (by rfl) ?_ ?_ ?_; rotate_left 1; (focus (exact Kr.valOf rfl (eqlI HE2.out))); (focus ((try simp only [Kr.PT]); first | done | rfl)))
          (refine Kr.seqQ (v := ?_) (a' := ?_) (by rfl) ?_ ?_ ?_; rotate_left 2; (focus (go_simp; first | done | rfl)); (focus ((try simp only [Kr.PT]); first | done | rfl)))
          refine Kr.seqDoneW ?_
          go_upto_region 7 with fail
          refine Kr.seqStartW ?_
          (refine Kr.seqQ (v := ?_) (a' := ?_) (by rfl) ?_ ?_ ?_; rotate_left 2; (focus (go_simp; first | done | rfl)); (focus ((try simp only [Kr.PT]); first | done | rfl)))
          refine Kr.seqDoneW ?_
          have hk : True := trivial
          go_wp2
          refine bodyPost_ret (v := .bool true) (by simp [results, Tryd.results32, go_sem, hk]) rfl ⟨rfl, H.g⟩
        · have HE2 : Hid (decide ((x0 : Int) = (a : Int)) = false) := Lib.hid (decide_eq_false (by omega))
          have HQ4 : Hid (pasFrom n (x0 * x0 % n) (k - 1) = Q) := Lib.hid (by rw [HQ3.out, decide_eq_false h2]; rfl)
          clear h2 HQ3
          go_upto_region 6 with fail
          refine Kr.seqStartW ?_
          (refine Kr.seqQ (v := ?_) (a' := ?_) (by rfl) ?_ ?_ ?_; rotate_left 2; (focus (go_simp; first | done | rfl)); (focus ((try simp only [Kr.PT]); first | done | rfl)))
          (refine Kr.seqQ (v := .bool false) (a' := ?_) (by rfl) ?_ ?_ ?_; rotate_left 1; (focus (exact Kr.valOf rfl (eqlI HE.out))); (focus ((try simp only [Kr.PT]); first | done | rfl)))
          iterate 3 (refine Kr.seqQ (v := ?_) (a' := ?_) (by rfl) ?_ ?_ ?_; rotate_left 2; (focus (go_simp; first | done | rfl)); (focus ((try simp only [Kr.PT]); first | done | rfl)))
          (refine Kr.seqQ (v := .int .i64 (a : Int)) (a' := ?_) (by rfl) ?_ ?_ ?_; rotate_left 1; (focus (exact Kr.valOf rfl (subI HSUB.out))); (focus ((try simp only [Kr.PT]); first | done | rfl)))
          (refine Kr.seqQ (v := .bool false) (a' := ?_) (by rfl) ?_ ?_ ?_; rotate_left 1; (focus (exact Kr.valOf rfl (eqlI HE2.out))); (focus ((try simp only [Kr.PT]); first | done | rfl)))
          (refine Kr.seqQ (v := ?_) (a' := ?_) (by rfl) ?_ ?_ ?_; rotate_left 2; (focus (go_simp; first | done | rfl)); (focus ((try simp only [Kr.PT]); first | done | rfl)))
          refine Kr.seqDoneW ?_
          go_upto_region 8 with fail
          refine Kr.seqStartW ?_
          (refine Kr.seqQ (v := ?_) (a' := ?_) (by rfl) ?_ ?_ ?_; rotate_left 2; (focus (go_simp; first | done | rfl)); (focus ((try simp only [Kr.PT]); first | done | rfl)))
          refine Kr.seqDoneW ?_
          have H2 := Lib.hid H
          clear H
          go_wp2_with fail
          go_loopw [7, 8] (fun xv i wr => ∃ j x : Nat, j ≤ k ∧ 1 ≤ j ∧ xv = .int .i64 (x : Int) ∧ i = .int .i64 (j : Int) ∧ x < n ∧ Hid (pasFrom n (x * x % n) (k - j) = Q) ∧ Hid (Sta w wr [] [])) (fun _ i _ => k - (intOf i).toNat)
          case atStart => exact ⟨1, x0, HK1.out, Nat.le_refl _, rfl, rfl, HX0L.out, HQ4, H2⟩
          case round =>
            clear H2 HQ4 HE HE2
            obtain ⟨j, x, hj, hj1, rfl, rfl, hx, HP, HH⟩ := hrel
            have H := HH.out; have HX := Lib.hid hx; have HJ1 := Lib.hid hj1; clear HH hx hj1
            by_cases hjt : j = k
            · have HL : Hid (decide ((j : Int) < (k : Int)) = false) := Lib.hid (decide_eq_false (by omega))
              obtain rfl : false = Q := by rw [← HP.out, hjt, Nat.sub_self]; rfl
              clear hjt
              go_upto_region 9 with fail
              refine Kr.seqStartW ?_
              iterate 2 (refine Kr.seqQ (v := ?_) (a' := ?_) (by rfl) ?_ ?_ ?_; rotate_left 2; (focus (go_simp; first | done | rfl)); (focus ((try simp only [Kr.PT]); first | done | rfl)))
              (refine Kr.seqQ (v := .bool false) (a' := ?_) (by rfl) ?_ ?_ ?_; rotate_left 1; (focus (exact Kr.valOf rfl (lssT HL.out))); (focus ((try simp only [Kr.PT]); first | done | rfl)))
              refine Kr.seqDoneW ?_
              go_upto_region 14 with fail
              refine Kr.seqStartW ?_
              (refine Kr.seqQ (v := ?_) (a' := ?_) (by rfl) ?_ ?_ ?_; rotate_left 2; (focus (go_simp; first | done | rfl)); (focus ((try simp only [Kr.PT]); first | done | rfl)))
              refine Kr.seqDoneW ?_
              have hk : True := trivial
              go_wp2
              refine bodyPost_ret (v := .bool false) (by simp [results, Tryd.results32, go_sem, hk]) rfl ⟨rfl, H.g⟩
            · have HJ : Hid (j < k) := Lib.hid (by omega)
              have HL : Hid (decide ((j : Int) < (k : Int)) = true) := Lib.hid (decide_eq_true (by omega))
              clear hjt
              obtain ⟨q, hq⟩ : ∃ q, x * x % n = q := ⟨_, rfl⟩
              have HQL : Hid (q < n) := Lib.hid (hq ▸ Nat.mod_lt _ (Nat.lt_of_le_of_lt (Nat.zero_le _) HB.out)); have HQE := Lib.hid hq; clear hq
              have HP2 : Hid ((decide (q = a) || pasFrom n (q * q % n) (k - (j + 1))) = Q) := Lib.hid (by have h := HP.out; rw [HQE.out, show k - j = (k - (j + 1)) + 1 by have := HJ.out; omega, pasFrom_succ, HA.out] at h; exact h)
              clear HP
              go_upto_region 9 with fail
              refine Kr.seqStartW ?_
              iterate 2 (refine Kr.seqQ (v := ?_) (a' := ?_) (by rfl) ?_ ?_ ?_; rotate_left 2; (focus (go_simp; first | done | rfl)); (focus ((try simp only [Kr.PT]); first | done | rfl)))
              (refine Kr.seqQ (v := .bool true) (a' := ?_) (by rfl) ?_ ?_ ?_; rotate_left 1; (focus (exact Kr.valOf rfl (lssT HL.out))); (focus ((try simp only [Kr.PT]); first | done | rfl)))
              refine Kr.seqDoneW ?_
              go_upto_region 11 with fail
              refine Kr.seqStartW ?_
              iterate 3 (refine Kr.seqQ (v := ?_) (a' := ?_) (by rfl) ?_ ?_ ?_; rotate_left 2; (focus (go_simp; first | done | rfl)); (focus ((try simp only [Kr.PT]); first | done | rfl)))
              refine Kr.seqR (by rfl) (fun K hK => ?_)
              go_simp
              go_at_call 53
              have hP := Wr.Mul_any x x n HX.out HX.out HM.out wr
              rw [HQE.out] at hP
              refine (hP).mono ?_
              rintro e w9 ⟨rfl, hw⟩
              rw [hw]
              clear hw w9
              clear hP
              (refine Kr.outS hK (a' := ?_) ?_ ?_; rotate_left; (focus ((try simp only [Kr.PT]); first | done | rfl))); clear hK K
              (refine Kr.seqQ (v := ?_) (a' := ?_) (by rfl) ?_ ?_ ?_; rotate_left 2; (focus (go_simp; first | done | rfl)); (focus ((try simp only [Kr.PT]); first | done | rfl)))
              refine Kr.seqDoneW ?_
              by_cases hqa : q = a
              · have HE2 : Hid (decide ((q : Int) = (a : Int)) = true) := Lib.hid (decide_eq_true (by omega))
                obtain rfl : true = Q := by rw [← HP2.out, decide_eq_true hqa]; rfl
                clear hqa
                go_upto_region 12 with fail
                refine Kr.seqStartW ?_
                iterate 2 (refine Kr.seqQ (v := ?_) (a' := ?_) (by rfl) ?_ ?_ ?_; rotate_left 2; (focus (go_simp; first | done | rfl)); (focus ((try simp only [Kr.PT]); first | done | rfl)))
                (refine Kr.seqQ (v := .int .i64 (a : Int)) (a' := ?_) (by rfl) ?_ ?_ ?_; rotate_left 1; (focus (exact Kr.valOf rfl (subI HSUB.out))); (focus ((try simp only [Kr.PT]); first | done | rfl)))
                (refine Kr.seqQ (v := .bool true) (a' := ?_) (by rfl) ?_ ?_ ?_; rotate_left 1; (focus (exact Kr.valOf rfl (eqlI HE2.out))); (focus ((try simp only [Kr.PT]); first | done | rfl)))
                refine Kr.seqDoneW ?_
                go_upto_region 13 with fail
                refine Kr.seqStartW ?_
                (refine Kr.seqQ (v := ?_) (a' := ?_) (by rfl) ?_ ?_ ?_; rotate_left 2; (focus (go_simp; first | done | rfl)); (focus ((try simp only [Kr.PT]); first | done | rfl)))
                refine Kr.seqDoneW ?_
                have hk : True := trivial
                go_wp2
                refine bodyPost_ret (v := .bool true) (by simp [results, Tryd.results32, go_sem, hk]) rfl ⟨rfl, H.g⟩
              · have HE2 : Hid (decide ((q : Int) = (a : Int)) = false) := Lib.hid (decide_eq_false (by omega))
                have HP3 : Hid (pasFrom n (q * q % n) (k - (j + 1)) = Q) := Lib.hid (by rw [← HP2.out, decide_eq_false hqa]; rfl)
                clear hqa HP2
                go_upto_region 12 with fail
                refine Kr.seqStartW ?_
                iterate 2 (refine Kr.seqQ (v := ?_) (a' := ?_) (by rfl) ?_ ?_ ?_; rotate_left 2; (focus (go_simp; first | done | rfl)); (focus ((try simp only [Kr.PT]); first | done | rfl)))
                (refine Kr.seqQ (v := .int .i64 (a : Int)) (a' := ?_) (by rfl) ?_ ?_ ?_; rotate_left 1; (focus (exact Kr.valOf rfl (subI HSUB.out))); (focus ((try simp only [Kr.PT]); first | done | rfl)))
                (refine Kr.seqQ (v := .bool false) (a' := ?_) (by rfl) ?_ ?_ ?_; rotate_left 1; (focus (exact Kr.valOf rfl (eqlI HE2.out))); (focus ((try simp only [Kr.PT]); first | done | rfl)))
                refine Kr.seqDoneW ?_
                have HADD : Hid (IntKind.i64.wrap ((j : Int) + 1) = ((j + 1 : Nat) : Int)) := Lib.hid (wrap_nat (by omega) (by have h1 := HJ.out; have h2 := HK64.out; omega))
                go_upto_region 10 with fail
                refine Kr.seqStartW ?_
                (refine Kr.seqQ (v := ?_) (a' := ?_) (by rfl) ?_ ?_ ?_; rotate_left 2; (focus (go_simp; first | done | rfl)); (focus ((try simp only [Kr.PT]); first | done | rfl)))
                (refine Kr.seqQ (v := .int .i64 ((j + 1 : Nat) : Int)) (a' := ?_) (by rfl) ?_ ?_ ?_; rotate_left 1; (focus (exact Kr.valOf rfl (addI HADD.out))); (focus ((try simp only [Kr.PT]); first | done | rfl)))
                (refine Kr.seqQ (v := ?_) (a' := ?_) (by rfl) ?_ ?_ ?_; rotate_left 2; (focus (go_simp; first | done | rfl)); (focus ((try simp only [Kr.PT]); first | done | rfl)))
                refine Kr.seqDoneW ?_
                go_wp2
                go_roundw
                case rel => exact ⟨j + 1, q, HJ.out, Nat.succ_pos _, rfl, rfl, HQL.out, HP3, Lib.hid H⟩
                case measure => simp [intOf]; have := HJ.out; omega
    · have hev : d % 2 = 0 := by omega
      have HEV := Lib.hid hev; have HR0 : Hid (decide (((0 : Nat) : Int) = 0) = true) := Lib.hid (by decide)
      clear hod hev
      obtain ⟨h, hh⟩ : ∃ h, d / 2 = h := ⟨_, rfl⟩
      have HHF := Lib.hid hh; have HH0 : Hid (0 < h ∧ h < d) := Lib.hid (by have h1 := HD0.out; have h2 := HEV.out; omega)
      clear hh
      have HPD2 : Hid (2 ^ (k + 1) * h = a) := Lib.hid (by rw [← HPD.out, Nat.pow_succ, Nat.mul_assoc, show 2 * h = d by have h1 := HHF.out; have h2 := HEV.out; omega])
      go_upto_region 2 with fail
      refine Kr.seqStartW ?_
      (refine Kr.seqQ (v := ?_) (a' := ?_) (by rfl) ?_ ?_ ?_; rotate_left 2; (focus (go_simp; first | done | rfl)); (focus ((try simp only [Kr.PT]); first | done | rfl)))
      (refine Kr.seqQ (v := .int .i64 ((0 : Nat) : Int)) (a' := ?_) (by rfl) ?_ ?_ ?_; rotate_left 1; (focus (exact Kr.valOf rfl (remI (by decide) HEV.out (by decide)))); (focus ((try simp only [Kr.PT]); first | done | rfl)))
      (refine Kr.seqQ (v := .bool true) (a' := ?_) (by rfl) ?_ ?_ ?_; rotate_left 1; (focus (exact Kr.valOf rfl (eqlI HR0.out))); (focus ((try simp only [Kr.PT]); first | done | rfl)))
      refine Kr.seqDoneW ?_
      go_upto_region 3 with fail
      refine Kr.seqStartW ?_
      (refine Kr.seqQ (v := ?_) (a' := ?_) (by rfl) ?_ ?_ ?_; rotate_left 2; (focus (go_simp; first | done | rfl)); (focus ((try simp only [Kr.PT]); first | done | rfl)))
      (refine Kr.seqQ (v := .int .i64 (h : Int)) (a' := ?_) (by rfl) ?_ ?_ ?_; rotate_left 1; (focus (exact Kr.valOf rfl (quoI (by decide) HHF.out HD63.out))); (focus ((try simp only [Kr.PT]); first | done | rfl)))
      (refine Kr.seqQ (v := ?_) (a' := ?_) (by rfl) ?_ ?_ ?_; rotate_left 2; (focus (go_simp; first | done | rfl)); (focus ((try simp only [Kr.PT]); first | done | rfl)))
      refine Kr.seqDoneW ?_
      have HADD : Hid (IntKind.i64.wrap ((k : Int) + 1) = ((k + 1 : Nat) : Int)) := Lib.hid (wrap_nat (by omega) (by have h1 := HK64.out; omega))
      go_upto_region 4 with fail
      refine Kr.seqStartW ?_
      (refine Kr.seqQ (v := ?_) (a' := ?_) (by rfl) ?_ ?_ ?_; rotate_left 2; (focus (go_simp; first | done | rfl)); (focus ((try simp only [Kr.PT]); first | done | rfl)))
      (refine Kr.seqQ (v := .int .i64 ((k + 1 : Nat) : Int)) (a' := ?_) (by rfl) ?_ ?_ ?_; rotate_left 1; (focus (exact Kr.valOf rfl (addI HADD.out))); (focus ((try simp only [Kr.PT]); first | done | rfl)))
      (refine Kr.seqQ (v := ?_) (a' := ?_) (by rfl) ?_ ?_ ?_; rotate_left 2; (focus (go_simp; first | done | rfl)); (focus ((try simp only [Kr.PT]); first | done | rfl)))
      refine Kr.seqDoneW ?_
      go_wp2
      go_roundw
      case rel => exact ⟨h, k + 1, rfl, rfl, HH0.out.1, Nat.le_trans (Nat.le_of_lt HH0.out.2) HDA.out, HPD2, Lib.hid H⟩
      case measure => simp [intOf]; have := HH0.out; omega
end Go.Proofs.YtfompolklkehpaaDoor.Pr


/- Rows of ints among the cells. -/
namespace Go.Proofs.YtfompolklkehpaaDoor.Pr
open Go.RowKit Go.Shelf Go.Proofs.YtfompolklkehpaaDoor.Nm Go.Proofs.YtfompolklkehpaaDoor.Ne Go.Proofs.YtfompolklkehpaaDoor.Nf Go.Proofs.YtfompolklkehpaaDoor.Nk Go.Proofs.YtfompolklkehpaaDoor.Nv Go.Proofs.YtfompolklkehpaaDoor.Nr2 Go.Proofs.YtfompolklkehpaaDoor.Mo Go.Proofs.YtfompolklkehpaaDoor.Mr Go.Proofs.YtfompolklkehpaaDoor.Kr

/-- The cells of a row of ints. -/
def rowC (b : Nat) : Nat → List Nat → List (Nat × Nat × Value)
  | _, [] => []
  | o, x :: r => (b, o, .int .i64 (x : Int)) :: rowC b (o + 1) r
theorem rowC_mem {b : Nat} : ∀ {l : List Nat} {o : Nat} {x : Nat × Nat × Value}, x ∈ rowC b o l → x.1 = b ∧ o ≤ x.2.1 ∧ noData x.2.2 = true
  | [], _, _, h => by cases h
  | y :: r, o, x, h => by
    rcases List.mem_cons.1 h with h | h
    · subst h; exact ⟨rfl, Nat.le_refl _, rfl⟩
    · have h1 := rowC_mem h
      exact ⟨h1.1, Nat.le_of_succ_le h1.2.1, h1.2.2⟩
theorem rowC_ne {b : Nat} : ∀ {l : List Nat} {o : Nat}, (rowC b o l).Pairwise (fun x y => (x.1, x.2.1) ≠ (y.1, y.2.1))
  | [], _ => List.Pairwise.nil
  | y :: r, o => List.Pairwise.cons (fun x hx e => by
      have h1 := rowC_mem hx
      simp only [Prod.mk.injEq] at e
      omega) rowC_ne
theorem rowC_get {b : Nat} : ∀ {l : List Nat} {o j x : Nat}, l[j]? = some x → (rowC b o l)[j]? = some (b, o + j, .int .i64 (x : Int))
  | [], _, _, _, h => by simp at h
  | y :: r, o, 0, x, h => by
    have e : y = x := by simpa using h
    subst e; rfl
  | y :: r, o, j + 1, x, h => by
    have h1 := rowC_get (b := b) (l := r) (o := o + 1) (j := j) (x := x) (by simpa using h)
    rw [show o + (j + 1) = o + 1 + j by omega]
    exact h1
theorem rowC_cells {b : Nat} {W : World} : ∀ {l : List Nat} {o : Nat}, (∀ (j x : Nat), l[j]? = some x → W.cell? ⟨b, o + j, none⟩ = some (.int .i64 (x : Int)) ∧ W.frozen? ⟨b, o + j, none⟩ = false) → Cells W (rowC b o l)
  | [], _, _ => trivial
  | y :: r, o, h => ⟨h 0 y rfl, rowC_cells fun j x e => by
      have h1 := h (j + 1) x (by simpa using e)
      rw [show o + (j + 1) = o + 1 + j by omega] at h1
      exact h1⟩
theorem Cells_append {W : World} : ∀ {cs ds : List (Nat × Nat × Value)}, Cells W cs → Cells W ds → Cells W (cs ++ ds)
  | [], _, _, h => h
  | _ :: _, _, h, k => ⟨h.1, Cells_append h.2 k⟩
/-- A row of ints is made. -/
theorem Sta_row {w W y : World} {cs : List (Nat × Nat × Value)} {fs : List (World → Prop)} (H : Sta w W cs fs) {l : List Nat} {b : Nat} (hy : W.alloc (.cells (l.map fun x : Nat => Value.int .i64 (x : Int)).toArray 3) = y) (hb : W.heap.size = b) : Sta w y (cs ++ rowC b 0 l) fs := by
  have hg : Gr W y := by rw [← hy]; exact (Gr.refl _).alloc _
  have hh : y.heap[b]? = some (.cells (l.map fun x : Nat => Value.int .i64 (x : Int)).toArray 3) := by rw [← hy, ← hb]; exact heap_alloc_new _ _
  refine ⟨H.g.trans hg, Cells_append (H.c.grow hg) (rowC_cells fun j x e => ⟨?_, ?_⟩), fun x hx => ?_, ?_, fun F h => (H.k F h).grow (H.f F h) hg, H.k⟩
  · rw [Nat.zero_add, cell_of_row _ _ _ _ _ _ hh]
    simp [e]
  · rw [← hy, ← hb]; simp [go_sem]
  · rcases List.mem_append.1 hx with hx | hx
    · exact H.low x hx
    · have h1 := rowC_mem hx
      exact ⟨by rw [h1.1, ← hb]; exact H.g.le, h1.2.2⟩
  · refine List.pairwise_append.2 ⟨H.ne, rowC_ne, fun x hx z hz e => ?_⟩
    have h1 := cells_lt H.c x hx
    have h2 := rowC_mem hz
    simp only [Prod.mk.injEq] at e
    omega
theorem bases_get {j b : Nat} (hj : j < 12) (hb : bases.getD j 0 = b) : bases[j]? = some b := by
  rw [← hb, List.getD_eq_getElem?_getD, List.getElem?_eq_getElem (show j < bases.length from hj)]; rfl
end Go.Proofs.YtfompolklkehpaaDoor.Pr


/- The contract of the reference's sum. -/
namespace Go.Proofs.YtfompolklkehpaaDoor.Nr2
open Go.RowKit Go.Shelf Go.Proofs.YtfompolklkehpaaDoor.Nm Go.Proofs.YtfompolklkehpaaDoor.Ne Go.Proofs.YtfompolklkehpaaDoor.Nf Go.Proofs.YtfompolklkehpaaDoor.Nk Go.Proofs.YtfompolklkehpaaDoor.Nv

/-- k words of the sum. -/
def SumAt (x y k c : Nat) (r : List Nat) : Prop := r.length = k ∧ ok r ∧ val r + pw k * c = x % pw k + y % pw k ∧ c ≤ 1
theorem SumAt.start (x y : Nat) : SumAt x y 0 0 [] := ⟨rfl, ok_nil, by have : pw 0 = 1 := rfl; rw [this, Nat.mod_one, Nat.mod_one]; rfl, by decide⟩
theorem SumAt.step {x y k c : Nat} {r : List Nat} (h : SumAt x y k c r) : SumAt x y (k + 1) ((dg x k + dg y k + c) / 4294967296) (r ++ [(dg x k + dg y k + c) % 4294967296]) := by
  obtain ⟨h1, h2, h3, h4⟩ := h
  have d1 := dg_lt x k
  have d2 := dg_lt y k
  refine ⟨by simp [h1], ok_append.2 ⟨h2, ok_cons.2 ⟨Nat.mod_lt _ (by decide), ok_nil⟩⟩, ?_, by omega⟩
  rw [val_snoc, h1, mod_step, mod_step]
  have e : pw (k + 1) = pw k * 4294967296 := by rw [pw_add]; rfl
  rw [e, Nat.mul_assoc, Nat.add_assoc, ← Nat.mul_add, Nat.mod_add_div, Nat.mul_add, Nat.mul_add]
  omega
theorem SumAt.done {x y k c : Nat} {r : List Nat} (h : SumAt x y k c r) (hx : x < pw k) (hy : y < pw k) : val (r ++ [c]) = x + y ∧ ok (r ++ [c]) := by
  obtain ⟨h1, h2, h3, h4⟩ := h
  rw [Nat.mod_eq_of_lt hx, Nat.mod_eq_of_lt hy] at h3
  exact ⟨by rw [val_snoc, h1]; exact h3, ok_append.2 ⟨h2, ok_cons.2 ⟨by omega, ok_nil⟩⟩⟩

end Go.Proofs.YtfompolklkehpaaDoor.Nr2


/- The contract of the reference's Sub. -/
namespace Go.Proofs.YtfompolklkehpaaDoor.Nr2
open Go.RowKit Go.Shelf Go.Proofs.YtfompolklkehpaaDoor.Nm Go.Proofs.YtfompolklkehpaaDoor.Ne Go.Proofs.YtfompolklkehpaaDoor.Nf Go.Proofs.YtfompolklkehpaaDoor.Nk Go.Proofs.YtfompolklkehpaaDoor.Nv

/-- k words of the difference. -/
def DifAt (x y k c : Nat) (r : List Nat) : Prop := r.length = k ∧ ok r ∧ val r + y % pw k = x % pw k + pw k * c ∧ c ≤ 1
theorem DifAt.start (x y : Nat) : DifAt x y 0 0 [] := ⟨rfl, ok_nil, by have : pw 0 = 1 := rfl; rw [this, Nat.mod_one, Nat.mod_one]; rfl, by decide⟩
theorem DifAt.step {x y k c v c' : Nat} {r : List Nat} (h : DifAt x y k c r) (hv : v < 4294967296) (hc : c' ≤ 1) (e : v + dg y k + c = dg x k + 4294967296 * c') : DifAt x y (k + 1) c' (r ++ [v]) := by
  obtain ⟨h1, h2, h3, h4⟩ := h
  refine ⟨by simp [h1], ok_append.2 ⟨h2, ok_cons.2 ⟨hv, ok_nil⟩⟩, ?_, hc⟩
  rw [val_snoc, h1, mod_step, mod_step]
  have e2 : pw (k + 1) = pw k * 4294967296 := by rw [pw_add]; rfl
  have e3 : pw k * v + pw k * dg y k + pw k * c = pw k * dg x k + pw k * 4294967296 * c' := by
    rw [← Nat.mul_add, ← Nat.mul_add, e, Nat.mul_add, Nat.mul_assoc]
  rw [e2]
  omega
theorem DifAt.done {x y k c : Nat} {r : List Nat} (h : DifAt x y k c r) (hx : x < pw k) (hyx : y ≤ x) : val r = x - y := by
  obtain ⟨h1, h2, h3, h4⟩ := h
  rw [Nat.mod_eq_of_lt hx, Nat.mod_eq_of_lt (Nat.lt_of_le_of_lt hyx hx)] at h3
  have h5 := val_lt h2
  rw [h1] at h5
  rcases Nat.eq_zero_or_pos c with h0 | h0
  · subst h0; omega
  · have : c = 1 := by omega
    subst this
    omega

end Go.Proofs.YtfompolklkehpaaDoor.Nr2


/- The contracts of the third reference's Plus and Minus. -/
namespace Go.Proofs.YtfompolklkehpaaDoor.Mr
open Go.RowKit Go.Shelf Go.Proofs.YtfompolklkehpaaDoor.Nm Go.Proofs.YtfompolklkehpaaDoor.Ne Go.Proofs.YtfompolklkehpaaDoor.Nf Go.Proofs.YtfompolklkehpaaDoor.Nk Go.Proofs.YtfompolklkehpaaDoor.Nv Go.Proofs.YtfompolklkehpaaDoor.Nr2 Go.Proofs.YtfompolklkehpaaDoor.Mo Go.Proofs.YtfompolklkehpaaDoor.Mr Go.Proofs.YtfompolklkehpaaDoor.Kr
theorem word3_v (p : Option Addr) (n c i x : Nat) (w : World) (h : Nw w p n c (digs x)) :
    Calls Tryd.prog 111 #[.agg #[.slice p n c], .int .i64 (i : Int)] w fun e w' => e = .returned (.int .u64 (dg x i : Int)) ∧ Gr w w' := by
  have := word3_any p n c i _ w h
  rwa [digs_get] at this
theorem trim3_w (p : Option Addr) (n c : Nat) (l : List Nat) (w : World) (h : Nw w p n c l) :
    Calls Tryd.prog 96 #[.slice p n c] w fun e w' => ∃ (q : Option Addr) (k d : Nat), e = .returned (.agg #[.slice q k d]) ∧ Nw w' q k d (digs (val l)) ∧ Gr w w' := by
  refine (trim3_any p n c l w h).mono ?_
  rintro e w' ⟨k, rfl, hk, ht, hg⟩
  have h2 := h.grow hg
  refine ⟨p, k, c, rfl, ⟨?_, Nat.le_trans hk h2.le, fun e => ⟨by have := (h2.nil e).1; omega, (h2.nil e).2⟩, ?_, ok_digs _, Nat.le_trans hk h2.small⟩, hg⟩
  · rw [← ht, List.length_take, h2.len]; omega
  · rw [← ht]; exact h2.rd.take k
theorem sum_end {x y k c N : Nat} {r : List Nat} (h : SumAt x y k c r) (hx : x < pw N) (hy : y < pw N) (hk : N + 1 ≤ k) : c = 0 := by
  obtain ⟨h1, h2, h3, h4⟩ := h
  have hxk : x < pw k := Nat.lt_of_lt_of_le hx (pw_mono (by omega))
  have hyk : y < pw k := Nat.lt_of_lt_of_le hy (pw_mono (by omega))
  rw [Nat.mod_eq_of_lt hxk, Nat.mod_eq_of_lt hyk] at h3
  have h5 : pw (N + 1) ≤ pw k := pw_mono hk
  have h6 : pw (N + 1) = pw N * 4294967296 := by rw [pw_add]; rfl
  rcases Nat.eq_zero_or_pos c with h0 | h0
  · exact h0
  · have : c = 1 := by omega
    subst this
    omega
theorem sum_val {x y k N : Nat} {r : List Nat} (h : SumAt x y k 0 r) (hx : x < pw N) (hy : y < pw N) (hk : N ≤ k) : val r = x + y := by
  obtain ⟨h1, h2, h3, h4⟩ := h
  rw [Nat.mod_eq_of_lt (Nat.lt_of_lt_of_le hx (pw_mono hk)), Nat.mod_eq_of_lt (Nat.lt_of_lt_of_le hy (pw_mono hk))] at h3
  omega

set_option linter.unusedSimpArgs false in
set_option maxRecDepth 100000 in
set_option maxHeartbeats 16000000 in
theorem rplus3_v {pa : Option Addr} {na ca : Nat} {pb : Option Addr} {nb cb : Nat} {x y : Nat} {w : World} (ha : Nw w pa na ca (digs x)) (hb : Nw w pb nb cb (digs y)) (hn : na ≤ 1000) (hm : nb ≤ 1000) :
    Calls Tryd.prog 97 #[.agg #[.slice pa na ca], .agg #[.slice pb nb cb]] w (Has (x + y) w) := by
  have HXn : Hid (x < pw na) := Lib.hid ((digs_length_le x na).1 (by rw [ha.len]; exact Nat.le_refl _))
  have HYn : Hid (y < pw nb) := Lib.hid ((digs_length_le y nb).1 (by rw [hb.len]; exact Nat.le_refl _))
  obtain ⟨i0, hi, hz0, hz1, hz2⟩ := info_parts infoW
  have H := Sta.start w
  replace H := H.num ha
  replace H := H.num hb
  go_enter Tryd.func97, Tryd.ntmps97
  go_upto_region 0 with fail
  refine Kr.seqStart ?_
  refine Kr.seqS (fun K hK => ?_)
  go_simp
  obtain ⟨y1, hy⟩ : ∃ y, w.alloc (.cells #[.slice pa na ca] 43) = y := ⟨_, rfl⟩
  obtain ⟨ba, hb⟩ : ∃ b, w.heap.size = b := ⟨_, rfl⟩
  rw [hy, hb]
  replace H := H.alloc hy hb rfl
  clear hy hb
  refine hK.out _ _ ?_; clear hK K
  (try simp only [Act.put, List.getElem_toArray, List.getElem_cons_zero, List.getElem_cons_succ, List.setIfInBounds_toArray, List.set_cons_zero, List.set_cons_succ])
  refine Kr.seqS (fun K hK => ?_)
  go_simp
  obtain ⟨y2, hy⟩ : ∃ y, y1.alloc (.cells #[.slice pb nb cb] 43) = y := ⟨_, rfl⟩
  obtain ⟨bb, hb⟩ : ∃ b, y1.heap.size = b := ⟨_, rfl⟩
  rw [hy, hb]
  replace H := H.alloc hy hb rfl
  clear hy hb
  refine hK.out _ _ ?_; clear hK K
  (try simp only [Act.put, List.getElem_toArray, List.getElem_cons_zero, List.getElem_cons_succ, List.setIfInBounds_toArray, List.set_cons_zero, List.set_cons_succ])
  refine Kr.seqS (fun K hK => ?_)
  go_simp
  obtain ⟨y3, hy⟩ : ∃ y, y2.alloc (.cells #[.slice none 0 0] 43) = y := ⟨_, rfl⟩
  obtain ⟨br, hb⟩ : ∃ b, y2.heap.size = b := ⟨_, rfl⟩
  rw [hy, hb]
  replace H := H.alloc hy hb rfl
  clear hy hb
  refine hK.out _ _ ?_; clear hK K
  (try simp only [Act.put, List.getElem_toArray, List.getElem_cons_zero, List.getElem_cons_succ, List.setIfInBounds_toArray, List.set_cons_zero, List.set_cons_succ])
  refine Kr.seqDone ?_
  obtain ⟨W0, hW0⟩ : ∃ W0, W0 = y3 := ⟨_, rfl⟩
  rw [← hW0] at H ⊢
  clear hW0
  have H0 := Lib.hid H
  clear H
  go_wp2
  obtain ⟨M, hM⟩ : ∃ M, max na nb = M := ⟨_, rfl⟩
  have hMa : na ≤ M := by omega
  have hMb : nb ≤ M := by omega
  have hM2 : M ≤ 1000 := by omega
  clear hM
  go_loopw [5, 6, 7] (fun o cr i wr => ∃ (k cc : Nat) (r : List Nat), k ≤ M + 1 ∧ i = .int .i64 k ∧ cr = .int .u64 cc ∧ Hid (SumAt x y k cc r) ∧ cc ≤ 1 ∧ Hid (Bld W0 o r wr) ∧ ∃ po co, o = .slice po k co) (fun _ _ i _ => M + 1 - (intOf i).toNat)
  case atStart => exact ⟨0, 0, [], Nat.zero_le _, rfl, rfl, SumAt.start x y, by decide, Bld.start W0, none, 0, rfl⟩
  case round =>
    obtain ⟨k, cc, r, hk, rfl, rfl, HS, hcc, HBl, po, co, rfl⟩ := hrel
    have H := H0.out.grow HBl.out.2.2
    have HL : Hid (r.length = k) := Lib.hid HS.out.1
    have hd : (k < na ∨ ¬ k < na ∧ k < nb) ∨ (¬ k < na ∧ ¬ k < nb ∧ 0 < cc) ∨ (¬ k < na ∧ ¬ k < nb ∧ cc = 0) := by omega
    rcases hd with (h1 | ⟨h1, h2⟩) | ⟨h1, h2, h3⟩ | ⟨h1, h2, rfl⟩
    · skip
      have hk := H.c
      simp only [Kr.Cells] at hk
      have HK1 : Hid (k ≤ M) := Lib.hid (by first | omega | exact Nat.le_of_not_lt fun h => by have := sum_end HS.out (Nat.lt_of_lt_of_le HXn.out (pw_mono hMa)) (Nat.lt_of_lt_of_le HYn.out (pw_mono hMb)) h; omega)
      go_upto_region 6 with fail
      obtain ⟨a, hda⟩ : ∃ a, dg x k = a := ⟨_, rfl⟩
      obtain ⟨b, hdb⟩ : ∃ b, dg y k = b := ⟨_, rfl⟩
      have HDA := Lib.hid hda
      have HDB := Lib.hid hdb
      have hda1 : a < 4294967296 := by rw [← hda]; exact dg_lt x k
      have hdb1 : b < 4294967296 := by rw [← hdb]; exact dg_lt y k
      have HST := Lib.hid HS.out.step
      rw [hda, hdb] at HST
      obtain ⟨lo, hlo⟩ : ∃ lo, (a + b + cc) % 4294967296 = lo := ⟨_, rfl⟩
      obtain ⟨hh, hhi⟩ : ∃ hh, (a + b + cc) / 4294967296 = hh := ⟨_, rfl⟩
      rw [hlo, hhi] at HST
      have w1 : IntKind.u64.wrap ((a : Int) + (b : Int)) = (a : Int) + (b : Int) := by rw [IntKind.wrap_u64]; omega
      have w2 : IntKind.u64.wrap ((a : Int) + (b : Int) + (cc : Int)) = (a : Int) + (b : Int) + (cc : Int) := by rw [IntKind.wrap_u64]; omega
      have hh1 : hh ≤ 1 := by omega
      have t2 : ((a : Int) + (b : Int) + (cc : Int)) / 4294967296 = (hh : Int) := by omega
      have t1 : ((a : Int) + (b : Int) + (cc : Int)).tmod 4294967296 = (lo : Int) := by rw [Int.tmod_eq_emod_of_nonneg (by omega)]; omega
      have t3 : ((a : Int) + (b : Int) + (cc : Int)) % 4294967296 = (lo : Int) := by omega
      have u1 : IntKind.u32.wrap (lo : Int) = (lo : Int) := by rw [IntKind.wrap_u32]; omega
      have u2 : (lo : Int) % 4294967296 = (lo : Int) := by omega
      have i1 : IntKind.i64.wrap ((k : Int) + 1) = (k : Int) + 1 := IntWalk.i64_in _ (by omega)
      clear hda hdb hlo hhi
      go_upto_region 6 with fail
      clear hk
      refine Kr.startL (fun W' => Kr.Cells W' [(ba, 0, .slice pa na ca), (bb, 0, .slice pb nb cb)]) [] (by kernel_rfl) ?_
      have gd : Gr wr wr.drew := (Gr.refl _).drew
      generalize wr.drew = d4 at gd ⊢
      replace H := H.grow gd
      replace HBl := Lib.hid (HBl.out.grow gd)
      clear gd
      (refine Kr.tS 0 [] (v := ?_) rfl (by kernel_rfl) (fun _ _ _ h => h) (by rfl) (H.sub [2, 1] rfl) (fun wx hSx => ?_) ?_; rotate_left; (focus (simp only [Kr.Cells] at hSx; go_simp; first | done | rfl)); (try simp only [Act.put, List.getElem_toArray, List.getElem_cons_zero, List.getElem_cons_succ, List.setIfInBounds_toArray, List.set_cons_zero, List.set_cons_succ]))
      (refine Kr.tP 1 (v := ?_) rfl (by kernel_rfl) (fun _ _ _ h => h) (by rfl) (fun _ => (H.sub [2, 1] rfl)) (fun wx => ?_) ?_; rotate_left; (focus (go_simp; first | done | rfl)); (try simp only [Act.put, List.getElem_toArray, List.getElem_cons_zero, List.getElem_cons_succ, List.setIfInBounds_toArray, List.set_cons_zero, List.set_cons_succ]))
      (refine Kr.tS 3 [] (v := ?_) rfl (by kernel_rfl) (fun _ _ _ h => h) (by rfl) (H.sub [2, 1] rfl) (fun wx hSx => ?_) ?_; rotate_left; (focus (simp only [Kr.Cells] at hSx; go_simp; first | done | rfl)); (try simp only [Act.put, List.getElem_toArray, List.getElem_cons_zero, List.getElem_cons_succ, List.setIfInBounds_toArray, List.set_cons_zero, List.set_cons_succ]))
      (refine Kr.tP 4 (v := ?_) rfl (by kernel_rfl) (fun _ _ _ h => h) (by rfl) (fun _ => (H.sub [2, 1] rfl)) (fun wx => ?_) ?_; rotate_left; (focus (go_simp; first | done | rfl)); (try simp only [Act.put, List.getElem_toArray, List.getElem_cons_zero, List.getElem_cons_succ, List.setIfInBounds_toArray, List.set_cons_zero, List.set_cons_succ]))
      (refine Kr.tP 7 (v := ?_) rfl (by kernel_rfl) (fun _ _ _ h => h) (by rfl) (fun _ => (H.sub [2, 1] rfl)) (fun wx => ?_) ?_; rotate_left; (focus (go_simp; first | done | rfl)); (try simp only [Act.put, List.getElem_toArray, List.getElem_cons_zero, List.getElem_cons_succ, List.setIfInBounds_toArray, List.set_cons_zero, List.set_cons_succ]))
      refine Kr.readyL (rs := [2]) (by kernel_rfl) (by simp) ?_
      refine Kr.AllL.cons rfl (fun K hK => ?_) Kr.AllL.nil
      go_simp
      go_at_call 111
      refine (word3_v _ _ _ k _ _ (H.nw 1 rfl)).mono ?_
      rintro e y5 ⟨rfl, hg⟩
      rw [HDA.out]
      replace H := H.grow hg
      replace HBl := Lib.hid (HBl.out.grow hg)
      clear hg
      refine hK.out _ _ (fun _ => (H.sub [2, 1] rfl)) ?_; clear hK K
      (try simp only [Act.put, List.getElem_toArray, List.getElem_cons_zero, List.getElem_cons_succ, List.setIfInBounds_toArray, List.set_cons_zero, List.set_cons_succ])
      refine Kr.readyL (rs := [5]) (by kernel_rfl) (by simp) ?_
      refine Kr.AllL.cons rfl (fun K hK => ?_) Kr.AllL.nil
      go_simp
      go_at_call 111
      refine (word3_v _ _ _ k _ _ (H.nw 0 rfl)).mono ?_
      rintro e y6 ⟨rfl, hg⟩
      rw [HDB.out]
      replace H := H.grow hg
      replace HBl := Lib.hid (HBl.out.grow hg)
      clear hg
      refine hK.out _ _ (fun _ => (H.sub [2, 1] rfl)) ?_; clear hK K
      (try simp only [Act.put, List.getElem_toArray, List.getElem_cons_zero, List.getElem_cons_succ, List.setIfInBounds_toArray, List.set_cons_zero, List.set_cons_succ])
      (refine Kr.tP 6 (v := ?_) rfl (by kernel_rfl) (fun _ _ _ h => h) (by rfl) (fun _ => (H.sub [2, 1] rfl)) (fun wx => ?_) ?_; rotate_left; (focus (go_simp; first | done | rfl)); (try simp only [Act.put, List.getElem_toArray, List.getElem_cons_zero, List.getElem_cons_succ, List.setIfInBounds_toArray, List.set_cons_zero, List.set_cons_succ]))
      (refine Kr.tP 8 (v := ?_) rfl (by kernel_rfl) (fun _ _ _ h => h) (by rfl) (fun _ => (H.sub [2, 1] rfl)) (fun wx => ?_) ?_; rotate_left; (focus (go_simp; first | done | rfl)); (try simp only [Act.put, List.getElem_toArray, List.getElem_cons_zero, List.getElem_cons_succ, List.setIfInBounds_toArray, List.set_cons_zero, List.set_cons_succ]))
      (refine Kr.tP 9 (v := ?_) rfl (by kernel_rfl) (fun _ _ _ h => h) (by rfl) (fun _ => (H.sub [2, 1] rfl)) (fun wx => ?_) ?_; rotate_left; (focus (go_simp; first | done | rfl)); (try simp only [Act.put, List.getElem_toArray, List.getElem_cons_zero, List.getElem_cons_succ, List.setIfInBounds_toArray, List.set_cons_zero, List.set_cons_succ]))
      refine Kr.doneL (by kernel_rfl) ?_ _
      go_upto_region 7 with fail
      refine Kr.seqStart ?_
      iterate 4 (refine Kr.seqP (v := ?_) (by rfl) ?_ ?_; rotate_left; (focus (go_simp; first | done | rfl)); (try simp only [Act.put, List.getElem_toArray, List.getElem_cons_zero, List.getElem_cons_succ, List.setIfInBounds_toArray, List.set_cons_zero, List.set_cons_succ]))
      refine Kr.seqS (fun K hK => ?_)
      go_simp
      obtain ⟨y7, hy⟩ : ∃ y, y6.alloc (.cells #[.int .u32 (lo : Int)] 35) = y := ⟨_, rfl⟩
      obtain ⟨bn, hbn⟩ : ∃ b, y6.heap.size = b := ⟨_, rfl⟩
      rw [hy, hbn]
      have hg : Gr y6 y7 := hy ▸ (Gr.refl _).alloc _
      have HONE := Lib.hid (hbn ▸ hy ▸ one_new y6 lo)
      clear H
      replace HBl := Lib.hid (HBl.out.grow hg)
      clear hg hy hbn
      refine hK.out _ _ ?_; clear hK K
      (try simp only [Act.put, List.getElem_toArray, List.getElem_cons_zero, List.getElem_cons_succ, List.setIfInBounds_toArray, List.set_cons_zero, List.set_cons_succ])
      refine wpList_append_own _ rfl _ _ 41 rfl W0.heap.size 35 i0 (.int .u32 0) 1 4 Tryd.underlying41 hi hz0 hz1 hz2 rfl (by decide) (.slice po k co) k (cw r) rfl (ownsRow_at HL.out HBl.out) ⟨bn, 0, none⟩ 1 1 [.int .u32 (lo : Int)] rfl rfl HONE.out (by simp [Value.oneCell']) (by unfold maxLen; omega) (by omega) HBl.out.2.2.size ?_
      intro v1 w3 hown hgrow _
      have hb3 := Bld.step HL.out HBl.out hown hgrow
      have HB3 := Lib.hid hb3.1
      obtain ⟨p3, cap3, rfl⟩ := hb3.2
      clear hown hgrow hb3 HONE
      (try simp only [Act.put, List.getElem_toArray, List.getElem_cons_zero, List.getElem_cons_succ, List.setIfInBounds_toArray, List.set_cons_zero, List.set_cons_succ])
      have H := H0.out.grow HB3.out.2.2
      (refine Kr.seqP (v := ?_) (by rfl) ?_ ?_; rotate_left; (focus (go_simp; first | done | rfl)); (try simp only [Act.put, List.getElem_toArray, List.getElem_cons_zero, List.getElem_cons_succ, List.setIfInBounds_toArray, List.set_cons_zero, List.set_cons_succ]))
      refine Kr.seqDone ?_
      clear H
      go_wp2
      go_roundw
      case rel => exact ⟨k + 1, hh, r ++ [lo], by have := HK1.out; omega, by go_num, rfl, HST, hh1, HB3, p3, cap3, rfl⟩
      case measure => (have := HK1.out; simp [intOf] <;> omega)
    · skip
      have hk := H.c
      simp only [Kr.Cells] at hk
      have HK1 : Hid (k ≤ M) := Lib.hid (by first | omega | exact Nat.le_of_not_lt fun h => by have := sum_end HS.out (Nat.lt_of_lt_of_le HXn.out (pw_mono hMa)) (Nat.lt_of_lt_of_le HYn.out (pw_mono hMb)) h; omega)
      go_upto_region 6 with fail
      obtain ⟨a, hda⟩ : ∃ a, dg x k = a := ⟨_, rfl⟩
      obtain ⟨b, hdb⟩ : ∃ b, dg y k = b := ⟨_, rfl⟩
      have HDA := Lib.hid hda
      have HDB := Lib.hid hdb
      have hda1 : a < 4294967296 := by rw [← hda]; exact dg_lt x k
      have hdb1 : b < 4294967296 := by rw [← hdb]; exact dg_lt y k
      have HST := Lib.hid HS.out.step
      rw [hda, hdb] at HST
      obtain ⟨lo, hlo⟩ : ∃ lo, (a + b + cc) % 4294967296 = lo := ⟨_, rfl⟩
      obtain ⟨hh, hhi⟩ : ∃ hh, (a + b + cc) / 4294967296 = hh := ⟨_, rfl⟩
      rw [hlo, hhi] at HST
      have w1 : IntKind.u64.wrap ((a : Int) + (b : Int)) = (a : Int) + (b : Int) := by rw [IntKind.wrap_u64]; omega
      have w2 : IntKind.u64.wrap ((a : Int) + (b : Int) + (cc : Int)) = (a : Int) + (b : Int) + (cc : Int) := by rw [IntKind.wrap_u64]; omega
      have hh1 : hh ≤ 1 := by omega
      have t2 : ((a : Int) + (b : Int) + (cc : Int)) / 4294967296 = (hh : Int) := by omega
      have t1 : ((a : Int) + (b : Int) + (cc : Int)).tmod 4294967296 = (lo : Int) := by rw [Int.tmod_eq_emod_of_nonneg (by omega)]; omega
      have t3 : ((a : Int) + (b : Int) + (cc : Int)) % 4294967296 = (lo : Int) := by omega
      have u1 : IntKind.u32.wrap (lo : Int) = (lo : Int) := by rw [IntKind.wrap_u32]; omega
      have u2 : (lo : Int) % 4294967296 = (lo : Int) := by omega
      have i1 : IntKind.i64.wrap ((k : Int) + 1) = (k : Int) + 1 := IntWalk.i64_in _ (by omega)
      clear hda hdb hlo hhi
      go_upto_region 6 with fail
      clear hk
      refine Kr.startL (fun W' => Kr.Cells W' [(ba, 0, .slice pa na ca), (bb, 0, .slice pb nb cb)]) [] (by kernel_rfl) ?_
      have gd : Gr wr wr.drew := (Gr.refl _).drew
      generalize wr.drew = d8 at gd ⊢
      replace H := H.grow gd
      replace HBl := Lib.hid (HBl.out.grow gd)
      clear gd
      (refine Kr.tS 0 [] (v := ?_) rfl (by kernel_rfl) (fun _ _ _ h => h) (by rfl) (H.sub [2, 1] rfl) (fun wx hSx => ?_) ?_; rotate_left; (focus (simp only [Kr.Cells] at hSx; go_simp; first | done | rfl)); (try simp only [Act.put, List.getElem_toArray, List.getElem_cons_zero, List.getElem_cons_succ, List.setIfInBounds_toArray, List.set_cons_zero, List.set_cons_succ]))
      (refine Kr.tP 1 (v := ?_) rfl (by kernel_rfl) (fun _ _ _ h => h) (by rfl) (fun _ => (H.sub [2, 1] rfl)) (fun wx => ?_) ?_; rotate_left; (focus (go_simp; first | done | rfl)); (try simp only [Act.put, List.getElem_toArray, List.getElem_cons_zero, List.getElem_cons_succ, List.setIfInBounds_toArray, List.set_cons_zero, List.set_cons_succ]))
      (refine Kr.tS 3 [] (v := ?_) rfl (by kernel_rfl) (fun _ _ _ h => h) (by rfl) (H.sub [2, 1] rfl) (fun wx hSx => ?_) ?_; rotate_left; (focus (simp only [Kr.Cells] at hSx; go_simp; first | done | rfl)); (try simp only [Act.put, List.getElem_toArray, List.getElem_cons_zero, List.getElem_cons_succ, List.setIfInBounds_toArray, List.set_cons_zero, List.set_cons_succ]))
      (refine Kr.tP 4 (v := ?_) rfl (by kernel_rfl) (fun _ _ _ h => h) (by rfl) (fun _ => (H.sub [2, 1] rfl)) (fun wx => ?_) ?_; rotate_left; (focus (go_simp; first | done | rfl)); (try simp only [Act.put, List.getElem_toArray, List.getElem_cons_zero, List.getElem_cons_succ, List.setIfInBounds_toArray, List.set_cons_zero, List.set_cons_succ]))
      (refine Kr.tP 7 (v := ?_) rfl (by kernel_rfl) (fun _ _ _ h => h) (by rfl) (fun _ => (H.sub [2, 1] rfl)) (fun wx => ?_) ?_; rotate_left; (focus (go_simp; first | done | rfl)); (try simp only [Act.put, List.getElem_toArray, List.getElem_cons_zero, List.getElem_cons_succ, List.setIfInBounds_toArray, List.set_cons_zero, List.set_cons_succ]))
      refine Kr.readyL (rs := [2]) (by kernel_rfl) (by simp) ?_
      refine Kr.AllL.cons rfl (fun K hK => ?_) Kr.AllL.nil
      go_simp
      go_at_call 111
      refine (word3_v _ _ _ k _ _ (H.nw 1 rfl)).mono ?_
      rintro e y9 ⟨rfl, hg⟩
      rw [HDA.out]
      replace H := H.grow hg
      replace HBl := Lib.hid (HBl.out.grow hg)
      clear hg
      refine hK.out _ _ (fun _ => (H.sub [2, 1] rfl)) ?_; clear hK K
      (try simp only [Act.put, List.getElem_toArray, List.getElem_cons_zero, List.getElem_cons_succ, List.setIfInBounds_toArray, List.set_cons_zero, List.set_cons_succ])
      refine Kr.readyL (rs := [5]) (by kernel_rfl) (by simp) ?_
      refine Kr.AllL.cons rfl (fun K hK => ?_) Kr.AllL.nil
      go_simp
      go_at_call 111
      refine (word3_v _ _ _ k _ _ (H.nw 0 rfl)).mono ?_
      rintro e y10 ⟨rfl, hg⟩
      rw [HDB.out]
      replace H := H.grow hg
      replace HBl := Lib.hid (HBl.out.grow hg)
      clear hg
      refine hK.out _ _ (fun _ => (H.sub [2, 1] rfl)) ?_; clear hK K
      (try simp only [Act.put, List.getElem_toArray, List.getElem_cons_zero, List.getElem_cons_succ, List.setIfInBounds_toArray, List.set_cons_zero, List.set_cons_succ])
      (refine Kr.tP 6 (v := ?_) rfl (by kernel_rfl) (fun _ _ _ h => h) (by rfl) (fun _ => (H.sub [2, 1] rfl)) (fun wx => ?_) ?_; rotate_left; (focus (go_simp; first | done | rfl)); (try simp only [Act.put, List.getElem_toArray, List.getElem_cons_zero, List.getElem_cons_succ, List.setIfInBounds_toArray, List.set_cons_zero, List.set_cons_succ]))
      (refine Kr.tP 8 (v := ?_) rfl (by kernel_rfl) (fun _ _ _ h => h) (by rfl) (fun _ => (H.sub [2, 1] rfl)) (fun wx => ?_) ?_; rotate_left; (focus (go_simp; first | done | rfl)); (try simp only [Act.put, List.getElem_toArray, List.getElem_cons_zero, List.getElem_cons_succ, List.setIfInBounds_toArray, List.set_cons_zero, List.set_cons_succ]))
      (refine Kr.tP 9 (v := ?_) rfl (by kernel_rfl) (fun _ _ _ h => h) (by rfl) (fun _ => (H.sub [2, 1] rfl)) (fun wx => ?_) ?_; rotate_left; (focus (go_simp; first | done | rfl)); (try simp only [Act.put, List.getElem_toArray, List.getElem_cons_zero, List.getElem_cons_succ, List.setIfInBounds_toArray, List.set_cons_zero, List.set_cons_succ]))
      refine Kr.doneL (by kernel_rfl) ?_ _
      go_upto_region 7 with fail
      refine Kr.seqStart ?_
      iterate 4 (refine Kr.seqP (v := ?_) (by rfl) ?_ ?_; rotate_left; (focus (go_simp; first | done | rfl)); (try simp only [Act.put, List.getElem_toArray, List.getElem_cons_zero, List.getElem_cons_succ, List.setIfInBounds_toArray, List.set_cons_zero, List.set_cons_succ]))
      refine Kr.seqS (fun K hK => ?_)
      go_simp
      obtain ⟨y11, hy⟩ : ∃ y, y10.alloc (.cells #[.int .u32 (lo : Int)] 35) = y := ⟨_, rfl⟩
      obtain ⟨bn, hbn⟩ : ∃ b, y10.heap.size = b := ⟨_, rfl⟩
      rw [hy, hbn]
      have hg : Gr y10 y11 := hy ▸ (Gr.refl _).alloc _
      have HONE := Lib.hid (hbn ▸ hy ▸ one_new y10 lo)
      clear H
      replace HBl := Lib.hid (HBl.out.grow hg)
      clear hg hy hbn
      refine hK.out _ _ ?_; clear hK K
      (try simp only [Act.put, List.getElem_toArray, List.getElem_cons_zero, List.getElem_cons_succ, List.setIfInBounds_toArray, List.set_cons_zero, List.set_cons_succ])
      refine wpList_append_own _ rfl _ _ 41 rfl W0.heap.size 35 i0 (.int .u32 0) 1 4 Tryd.underlying41 hi hz0 hz1 hz2 rfl (by decide) (.slice po k co) k (cw r) rfl (ownsRow_at HL.out HBl.out) ⟨bn, 0, none⟩ 1 1 [.int .u32 (lo : Int)] rfl rfl HONE.out (by simp [Value.oneCell']) (by unfold maxLen; omega) (by omega) HBl.out.2.2.size ?_
      intro v1 w3 hown hgrow _
      have hb3 := Bld.step HL.out HBl.out hown hgrow
      have HB3 := Lib.hid hb3.1
      obtain ⟨p3, cap3, rfl⟩ := hb3.2
      clear hown hgrow hb3 HONE
      (try simp only [Act.put, List.getElem_toArray, List.getElem_cons_zero, List.getElem_cons_succ, List.setIfInBounds_toArray, List.set_cons_zero, List.set_cons_succ])
      have H := H0.out.grow HB3.out.2.2
      (refine Kr.seqP (v := ?_) (by rfl) ?_ ?_; rotate_left; (focus (go_simp; first | done | rfl)); (try simp only [Act.put, List.getElem_toArray, List.getElem_cons_zero, List.getElem_cons_succ, List.setIfInBounds_toArray, List.set_cons_zero, List.set_cons_succ]))
      refine Kr.seqDone ?_
      clear H
      go_wp2
      go_roundw
      case rel => exact ⟨k + 1, hh, r ++ [lo], by have := HK1.out; omega, by go_num, rfl, HST, hh1, HB3, p3, cap3, rfl⟩
      case measure => (have := HK1.out; simp [intOf] <;> omega)
    · skip
      have hk := H.c
      simp only [Kr.Cells] at hk
      have HK1 : Hid (k ≤ M) := Lib.hid (by first | omega | exact Nat.le_of_not_lt fun h => by have := sum_end HS.out (Nat.lt_of_lt_of_le HXn.out (pw_mono hMa)) (Nat.lt_of_lt_of_le HYn.out (pw_mono hMb)) h; omega)
      go_upto_region 6 with fail
      obtain ⟨a, hda⟩ : ∃ a, dg x k = a := ⟨_, rfl⟩
      obtain ⟨b, hdb⟩ : ∃ b, dg y k = b := ⟨_, rfl⟩
      have HDA := Lib.hid hda
      have HDB := Lib.hid hdb
      have hda1 : a < 4294967296 := by rw [← hda]; exact dg_lt x k
      have hdb1 : b < 4294967296 := by rw [← hdb]; exact dg_lt y k
      have HST := Lib.hid HS.out.step
      rw [hda, hdb] at HST
      obtain ⟨lo, hlo⟩ : ∃ lo, (a + b + cc) % 4294967296 = lo := ⟨_, rfl⟩
      obtain ⟨hh, hhi⟩ : ∃ hh, (a + b + cc) / 4294967296 = hh := ⟨_, rfl⟩
      rw [hlo, hhi] at HST
      have w1 : IntKind.u64.wrap ((a : Int) + (b : Int)) = (a : Int) + (b : Int) := by rw [IntKind.wrap_u64]; omega
      have w2 : IntKind.u64.wrap ((a : Int) + (b : Int) + (cc : Int)) = (a : Int) + (b : Int) + (cc : Int) := by rw [IntKind.wrap_u64]; omega
      have hh1 : hh ≤ 1 := by omega
      have t2 : ((a : Int) + (b : Int) + (cc : Int)) / 4294967296 = (hh : Int) := by omega
      have t1 : ((a : Int) + (b : Int) + (cc : Int)).tmod 4294967296 = (lo : Int) := by rw [Int.tmod_eq_emod_of_nonneg (by omega)]; omega
      have t3 : ((a : Int) + (b : Int) + (cc : Int)) % 4294967296 = (lo : Int) := by omega
      have u1 : IntKind.u32.wrap (lo : Int) = (lo : Int) := by rw [IntKind.wrap_u32]; omega
      have u2 : (lo : Int) % 4294967296 = (lo : Int) := by omega
      have i1 : IntKind.i64.wrap ((k : Int) + 1) = (k : Int) + 1 := IntWalk.i64_in _ (by omega)
      clear hda hdb hlo hhi
      go_upto_region 6 with fail
      clear hk
      refine Kr.startL (fun W' => Kr.Cells W' [(ba, 0, .slice pa na ca), (bb, 0, .slice pb nb cb)]) [] (by kernel_rfl) ?_
      have gd : Gr wr wr.drew := (Gr.refl _).drew
      generalize wr.drew = d12 at gd ⊢
      replace H := H.grow gd
      replace HBl := Lib.hid (HBl.out.grow gd)
      clear gd
      (refine Kr.tS 0 [] (v := ?_) rfl (by kernel_rfl) (fun _ _ _ h => h) (by rfl) (H.sub [2, 1] rfl) (fun wx hSx => ?_) ?_; rotate_left; (focus (simp only [Kr.Cells] at hSx; go_simp; first | done | rfl)); (try simp only [Act.put, List.getElem_toArray, List.getElem_cons_zero, List.getElem_cons_succ, List.setIfInBounds_toArray, List.set_cons_zero, List.set_cons_succ]))
      (refine Kr.tP 1 (v := ?_) rfl (by kernel_rfl) (fun _ _ _ h => h) (by rfl) (fun _ => (H.sub [2, 1] rfl)) (fun wx => ?_) ?_; rotate_left; (focus (go_simp; first | done | rfl)); (try simp only [Act.put, List.getElem_toArray, List.getElem_cons_zero, List.getElem_cons_succ, List.setIfInBounds_toArray, List.set_cons_zero, List.set_cons_succ]))
      (refine Kr.tS 3 [] (v := ?_) rfl (by kernel_rfl) (fun _ _ _ h => h) (by rfl) (H.sub [2, 1] rfl) (fun wx hSx => ?_) ?_; rotate_left; (focus (simp only [Kr.Cells] at hSx; go_simp; first | done | rfl)); (try simp only [Act.put, List.getElem_toArray, List.getElem_cons_zero, List.getElem_cons_succ, List.setIfInBounds_toArray, List.set_cons_zero, List.set_cons_succ]))
      (refine Kr.tP 4 (v := ?_) rfl (by kernel_rfl) (fun _ _ _ h => h) (by rfl) (fun _ => (H.sub [2, 1] rfl)) (fun wx => ?_) ?_; rotate_left; (focus (go_simp; first | done | rfl)); (try simp only [Act.put, List.getElem_toArray, List.getElem_cons_zero, List.getElem_cons_succ, List.setIfInBounds_toArray, List.set_cons_zero, List.set_cons_succ]))
      (refine Kr.tP 7 (v := ?_) rfl (by kernel_rfl) (fun _ _ _ h => h) (by rfl) (fun _ => (H.sub [2, 1] rfl)) (fun wx => ?_) ?_; rotate_left; (focus (go_simp; first | done | rfl)); (try simp only [Act.put, List.getElem_toArray, List.getElem_cons_zero, List.getElem_cons_succ, List.setIfInBounds_toArray, List.set_cons_zero, List.set_cons_succ]))
      refine Kr.readyL (rs := [2]) (by kernel_rfl) (by simp) ?_
      refine Kr.AllL.cons rfl (fun K hK => ?_) Kr.AllL.nil
      go_simp
      go_at_call 111
      refine (word3_v _ _ _ k _ _ (H.nw 1 rfl)).mono ?_
      rintro e y13 ⟨rfl, hg⟩
      rw [HDA.out]
      replace H := H.grow hg
      replace HBl := Lib.hid (HBl.out.grow hg)
      clear hg
      refine hK.out _ _ (fun _ => (H.sub [2, 1] rfl)) ?_; clear hK K
      (try simp only [Act.put, List.getElem_toArray, List.getElem_cons_zero, List.getElem_cons_succ, List.setIfInBounds_toArray, List.set_cons_zero, List.set_cons_succ])
      refine Kr.readyL (rs := [5]) (by kernel_rfl) (by simp) ?_
      refine Kr.AllL.cons rfl (fun K hK => ?_) Kr.AllL.nil
      go_simp
      go_at_call 111
      refine (word3_v _ _ _ k _ _ (H.nw 0 rfl)).mono ?_
      rintro e y14 ⟨rfl, hg⟩
      rw [HDB.out]
      replace H := H.grow hg
      replace HBl := Lib.hid (HBl.out.grow hg)
      clear hg
      refine hK.out _ _ (fun _ => (H.sub [2, 1] rfl)) ?_; clear hK K
      (try simp only [Act.put, List.getElem_toArray, List.getElem_cons_zero, List.getElem_cons_succ, List.setIfInBounds_toArray, List.set_cons_zero, List.set_cons_succ])
      (refine Kr.tP 6 (v := ?_) rfl (by kernel_rfl) (fun _ _ _ h => h) (by rfl) (fun _ => (H.sub [2, 1] rfl)) (fun wx => ?_) ?_; rotate_left; (focus (go_simp; first | done | rfl)); (try simp only [Act.put, List.getElem_toArray, List.getElem_cons_zero, List.getElem_cons_succ, List.setIfInBounds_toArray, List.set_cons_zero, List.set_cons_succ]))
      (refine Kr.tP 8 (v := ?_) rfl (by kernel_rfl) (fun _ _ _ h => h) (by rfl) (fun _ => (H.sub [2, 1] rfl)) (fun wx => ?_) ?_; rotate_left; (focus (go_simp; first | done | rfl)); (try simp only [Act.put, List.getElem_toArray, List.getElem_cons_zero, List.getElem_cons_succ, List.setIfInBounds_toArray, List.set_cons_zero, List.set_cons_succ]))
      (refine Kr.tP 9 (v := ?_) rfl (by kernel_rfl) (fun _ _ _ h => h) (by rfl) (fun _ => (H.sub [2, 1] rfl)) (fun wx => ?_) ?_; rotate_left; (focus (go_simp; first | done | rfl)); (try simp only [Act.put, List.getElem_toArray, List.getElem_cons_zero, List.getElem_cons_succ, List.setIfInBounds_toArray, List.set_cons_zero, List.set_cons_succ]))
      refine Kr.doneL (by kernel_rfl) ?_ _
      go_upto_region 7 with fail
      refine Kr.seqStart ?_
      iterate 4 (refine Kr.seqP (v := ?_) (by rfl) ?_ ?_; rotate_left; (focus (go_simp; first | done | rfl)); (try simp only [Act.put, List.getElem_toArray, List.getElem_cons_zero, List.getElem_cons_succ, List.setIfInBounds_toArray, List.set_cons_zero, List.set_cons_succ]))
      refine Kr.seqS (fun K hK => ?_)
      go_simp
      obtain ⟨y15, hy⟩ : ∃ y, y14.alloc (.cells #[.int .u32 (lo : Int)] 35) = y := ⟨_, rfl⟩
      obtain ⟨bn, hbn⟩ : ∃ b, y14.heap.size = b := ⟨_, rfl⟩
      rw [hy, hbn]
      have hg : Gr y14 y15 := hy ▸ (Gr.refl _).alloc _
      have HONE := Lib.hid (hbn ▸ hy ▸ one_new y14 lo)
      clear H
      replace HBl := Lib.hid (HBl.out.grow hg)
      clear hg hy hbn
      refine hK.out _ _ ?_; clear hK K
      (try simp only [Act.put, List.getElem_toArray, List.getElem_cons_zero, List.getElem_cons_succ, List.setIfInBounds_toArray, List.set_cons_zero, List.set_cons_succ])
      refine wpList_append_own _ rfl _ _ 41 rfl W0.heap.size 35 i0 (.int .u32 0) 1 4 Tryd.underlying41 hi hz0 hz1 hz2 rfl (by decide) (.slice po k co) k (cw r) rfl (ownsRow_at HL.out HBl.out) ⟨bn, 0, none⟩ 1 1 [.int .u32 (lo : Int)] rfl rfl HONE.out (by simp [Value.oneCell']) (by unfold maxLen; omega) (by omega) HBl.out.2.2.size ?_
      intro v1 w3 hown hgrow _
      have hb3 := Bld.step HL.out HBl.out hown hgrow
      have HB3 := Lib.hid hb3.1
      obtain ⟨p3, cap3, rfl⟩ := hb3.2
      clear hown hgrow hb3 HONE
      (try simp only [Act.put, List.getElem_toArray, List.getElem_cons_zero, List.getElem_cons_succ, List.setIfInBounds_toArray, List.set_cons_zero, List.set_cons_succ])
      have H := H0.out.grow HB3.out.2.2
      (refine Kr.seqP (v := ?_) (by rfl) ?_ ?_; rotate_left; (focus (go_simp; first | done | rfl)); (try simp only [Act.put, List.getElem_toArray, List.getElem_cons_zero, List.getElem_cons_succ, List.setIfInBounds_toArray, List.set_cons_zero, List.set_cons_succ]))
      refine Kr.seqDone ?_
      clear H
      go_wp2
      go_roundw
      case rel => exact ⟨k + 1, hh, r ++ [lo], by have := HK1.out; omega, by go_num, rfl, HST, hh1, HB3, p3, cap3, rfl⟩
      case measure => (have := HK1.out; simp [intOf] <;> omega)
    · skip
      have hk := H.c
      simp only [Kr.Cells] at hk
      have HV : Hid (val r = x + y) := Lib.hid (sum_val (N := k) HS.out (Nat.lt_of_lt_of_le HXn.out (pw_mono (by omega))) (Nat.lt_of_lt_of_le HYn.out (pw_mono (by omega))) (Nat.le_refl _))
      have HOK := Lib.hid HS.out.2.1
      go_upto_region 9 with fail
      refine Kr.seqStart ?_
      (refine Kr.seqP (v := ?_) (by rfl) ?_ ?_; rotate_left; (focus (go_simp; first | done | rfl)); (try simp only [Act.put, List.getElem_toArray, List.getElem_cons_zero, List.getElem_cons_succ, List.setIfInBounds_toArray, List.set_cons_zero, List.set_cons_succ]))
      refine Kr.seqS (fun K hK => ?_)
      go_simp
      go_at_call 96
      refine (trim3_w po k co r _ (HBl.out.nw' HOK.out (by rw [HL.out]; omega))).mono ?_
      rintro e y16 ⟨p5, n5, c5, rfl, hr, hg⟩
      clear hk
      replace H := H.grow hg
      rw [HV.out] at hr
      replace H := H.num hr
      clear hr hg
      refine hK.out _ _ ?_; clear hK K
      (try simp only [Act.put, List.getElem_toArray, List.getElem_cons_zero, List.getElem_cons_succ, List.setIfInBounds_toArray, List.set_cons_zero, List.set_cons_succ])
      have hk := H.c
      simp only [Kr.Cells] at hk
      refine Kr.seqS (fun K hK => ?_)
      go_simp
      clear hk
      obtain ⟨y17, hy⟩ : ∃ y, y16.setCell ⟨br, 0, none⟩ (.slice p5 n5 c5) = y := ⟨_, rfl⟩
      rw [hy]
      replace H := H.store 0 hy rfl rfl
      dsimp only [List.set] at H
      clear hy
      refine hK.out _ _ ?_; clear hK K
      (try simp only [Act.put, List.getElem_toArray, List.getElem_cons_zero, List.getElem_cons_succ, List.setIfInBounds_toArray, List.set_cons_zero, List.set_cons_succ])
      refine Kr.seqDone ?_
      have hk := H.c
      simp only [Kr.Cells] at hk
      go_wp2
      refine bodyPost_ret (v := .agg #[.slice p5 n5 c5]) (by simp [results, Tryd.results97, go_sem, hk]) rfl ⟨p5, n5, c5, rfl, H.nw 0 rfl, H.g⟩
set_option linter.unusedSimpArgs false in
set_option maxRecDepth 100000 in
set_option maxHeartbeats 16000000 in
theorem rminus3_v {pa : Option Addr} {na ca : Nat} {pb : Option Addr} {nb cb : Nat} {x y : Nat} {w : World} (ha : Nw w pa na ca (digs x)) (hb : Nw w pb nb cb (digs y)) (hn : na ≤ 1000) (hyx : y ≤ x) :
    Calls Tryd.prog 99 #[.agg #[.slice pa na ca], .agg #[.slice pb nb cb]] w (Has (x - y) w) := by
  have HXn : Hid (x < pw na) := Lib.hid ((digs_length_le x na).1 (by rw [ha.len]; exact Nat.le_refl _))
  have HYX := Lib.hid hyx
  clear hyx
  obtain ⟨i0, hi, hz0, hz1, hz2⟩ := info_parts infoW
  have H := Sta.start w
  replace H := H.num ha
  replace H := H.num hb
  go_enter Tryd.func99, Tryd.ntmps99
  go_upto_region 0 with fail
  refine Kr.seqStart ?_
  refine Kr.seqS (fun K hK => ?_)
  go_simp
  obtain ⟨y1, hy⟩ : ∃ y, w.alloc (.cells #[.slice pa na ca] 43) = y := ⟨_, rfl⟩
  obtain ⟨ba, hb⟩ : ∃ b, w.heap.size = b := ⟨_, rfl⟩
  rw [hy, hb]
  replace H := H.alloc hy hb rfl
  clear hy hb
  refine hK.out _ _ ?_; clear hK K
  (try simp only [Act.put, List.getElem_toArray, List.getElem_cons_zero, List.getElem_cons_succ, List.setIfInBounds_toArray, List.set_cons_zero, List.set_cons_succ])
  refine Kr.seqS (fun K hK => ?_)
  go_simp
  obtain ⟨y2, hy⟩ : ∃ y, y1.alloc (.cells #[.slice pb nb cb] 43) = y := ⟨_, rfl⟩
  obtain ⟨bb, hb⟩ : ∃ b, y1.heap.size = b := ⟨_, rfl⟩
  rw [hy, hb]
  replace H := H.alloc hy hb rfl
  clear hy hb
  refine hK.out _ _ ?_; clear hK K
  (try simp only [Act.put, List.getElem_toArray, List.getElem_cons_zero, List.getElem_cons_succ, List.setIfInBounds_toArray, List.set_cons_zero, List.set_cons_succ])
  refine Kr.seqS (fun K hK => ?_)
  go_simp
  obtain ⟨y3, hy⟩ : ∃ y, y2.alloc (.cells #[.slice none 0 0] 43) = y := ⟨_, rfl⟩
  obtain ⟨br, hb⟩ : ∃ b, y2.heap.size = b := ⟨_, rfl⟩
  rw [hy, hb]
  replace H := H.alloc hy hb rfl
  clear hy hb
  refine hK.out _ _ ?_; clear hK K
  (try simp only [Act.put, List.getElem_toArray, List.getElem_cons_zero, List.getElem_cons_succ, List.setIfInBounds_toArray, List.set_cons_zero, List.set_cons_succ])
  refine Kr.seqDone ?_
  obtain ⟨W0, hW0⟩ : ∃ W0, W0 = y3 := ⟨_, rfl⟩
  rw [← hW0] at H ⊢
  clear hW0
  have H0 := Lib.hid H
  clear H
  go_wp2
  go_loopw [5, 6, 7] (fun o cr i wr => ∃ (k cc : Nat) (r : List Nat), k ≤ na ∧ i = .int .i64 k ∧ cr = .int .u64 cc ∧ Hid (DifAt x y k cc r) ∧ cc ≤ 1 ∧ Hid (Bld W0 o r wr) ∧ ∃ po co, o = .slice po k co) (fun _ _ i _ => na - (intOf i).toNat)
  case atStart => exact ⟨0, 0, [], Nat.zero_le _, rfl, rfl, DifAt.start x y, by decide, Bld.start W0, none, 0, rfl⟩
  case round =>
    obtain ⟨k, cc, r, hk, rfl, rfl, HS, hcc, HBl, po, co, rfl⟩ := hrel
    have H := H0.out.grow HBl.out.2.2
    have HL : Hid (r.length = k) := Lib.hid HS.out.1
    by_cases h1 : k < na
    · skip
      have hk := H.c
      simp only [Kr.Cells] at hk
      go_upto_region 6 with fail
      obtain ⟨a, hda⟩ : ∃ a, dg x k = a := ⟨_, rfl⟩
      obtain ⟨b, hdb⟩ : ∃ b, dg y k = b := ⟨_, rfl⟩
      have HDA := Lib.hid hda
      have HDB := Lib.hid hdb
      have hda1 : a < 4294967296 := by rw [← hda]; exact dg_lt x k
      have hdb1 : b < 4294967296 := by rw [← hdb]; exact dg_lt y k
      have hS0 := HS.out.2.2.1
      obtain ⟨hh, hhi⟩ : ∃ hh : Nat, (if a < b + cc then 1 else 0) = hh := ⟨_, rfl⟩
      obtain ⟨lo, hlo⟩ : ∃ lo, a + 4294967296 * hh - b - cc = lo := ⟨_, rfl⟩
      have hh1 : hh ≤ 1 := by rw [← hhi]; split <;> omega
      have hlo1 : lo < 4294967296 := by rw [← hlo, ← hhi]; split <;> omega
      have hlo2 : lo + b + cc = a + 4294967296 * hh := by rw [← hlo, ← hhi]; split <;> omega
      have HST : Hid (DifAt x y (k + 1) hh (r ++ [lo])) := Lib.hid (HS.out.step hlo1 hh1 (by rw [hda, hdb]; exact hlo2))
      clear hS0 hhi hlo
      have w1 : IntKind.u64.wrap ((a : Int) + 4294967296) = (a : Int) + 4294967296 := by rw [IntKind.wrap_u64]; omega
      have w2 : IntKind.u64.wrap ((a : Int) + 4294967296 - (b : Int)) = (a : Int) + 4294967296 - (b : Int) := by rw [IntKind.wrap_u64]; omega
      have w3 : IntKind.u64.wrap ((a : Int) + 4294967296 - (b : Int) - (cc : Int)) = (a : Int) + 4294967296 - (b : Int) - (cc : Int) := by rw [IntKind.wrap_u64]; omega
      have t2 : ((a : Int) + 4294967296 - (b : Int) - (cc : Int)) / 4294967296 = 1 - (hh : Int) := by omega
      have t1 : ((a : Int) + 4294967296 - (b : Int) - (cc : Int)).tmod 4294967296 = (lo : Int) := by rw [Int.tmod_eq_emod_of_nonneg (by omega)]; omega
      have t3 : ((a : Int) + 4294967296 - (b : Int) - (cc : Int)) % 4294967296 = (lo : Int) := by omega
      have u1 : IntKind.u32.wrap (lo : Int) = (lo : Int) := by rw [IntKind.wrap_u32]; omega
      have u2 : (lo : Int) % 4294967296 = (lo : Int) := by omega
      have i1 : IntKind.i64.wrap ((k : Int) + 1) = (k : Int) + 1 := IntWalk.i64_in _ (by omega)
      clear hda hdb
      go_upto_region 6 with fail
      clear hk
      refine Kr.startL (fun W' => Kr.Cells W' [(ba, 0, .slice pa na ca), (bb, 0, .slice pb nb cb)]) [] (by kernel_rfl) ?_
      have gd : Gr wr wr.drew := (Gr.refl _).drew
      generalize wr.drew = d4 at gd ⊢
      replace H := H.grow gd
      replace HBl := Lib.hid (HBl.out.grow gd)
      clear gd
      (refine Kr.tS 0 [] (v := ?_) rfl (by kernel_rfl) (fun _ _ _ h => h) (by rfl) (H.sub [2, 1] rfl) (fun wx hSx => ?_) ?_; rotate_left; (focus (simp only [Kr.Cells] at hSx; go_simp; first | done | rfl)); (try simp only [Act.put, List.getElem_toArray, List.getElem_cons_zero, List.getElem_cons_succ, List.setIfInBounds_toArray, List.set_cons_zero, List.set_cons_succ]))
      (refine Kr.tP 1 (v := ?_) rfl (by kernel_rfl) (fun _ _ _ h => h) (by rfl) (fun _ => (H.sub [2, 1] rfl)) (fun wx => ?_) ?_; rotate_left; (focus (go_simp; first | done | rfl)); (try simp only [Act.put, List.getElem_toArray, List.getElem_cons_zero, List.getElem_cons_succ, List.setIfInBounds_toArray, List.set_cons_zero, List.set_cons_succ]))
      (refine Kr.tS 4 [] (v := ?_) rfl (by kernel_rfl) (fun _ _ _ h => h) (by rfl) (H.sub [2, 1] rfl) (fun wx hSx => ?_) ?_; rotate_left; (focus (simp only [Kr.Cells] at hSx; go_simp; first | done | rfl)); (try simp only [Act.put, List.getElem_toArray, List.getElem_cons_zero, List.getElem_cons_succ, List.setIfInBounds_toArray, List.set_cons_zero, List.set_cons_succ]))
      (refine Kr.tP 5 (v := ?_) rfl (by kernel_rfl) (fun _ _ _ h => h) (by rfl) (fun _ => (H.sub [2, 1] rfl)) (fun wx => ?_) ?_; rotate_left; (focus (go_simp; first | done | rfl)); (try simp only [Act.put, List.getElem_toArray, List.getElem_cons_zero, List.getElem_cons_succ, List.setIfInBounds_toArray, List.set_cons_zero, List.set_cons_succ]))
      (refine Kr.tP 8 (v := ?_) rfl (by kernel_rfl) (fun _ _ _ h => h) (by rfl) (fun _ => (H.sub [2, 1] rfl)) (fun wx => ?_) ?_; rotate_left; (focus (go_simp; first | done | rfl)); (try simp only [Act.put, List.getElem_toArray, List.getElem_cons_zero, List.getElem_cons_succ, List.setIfInBounds_toArray, List.set_cons_zero, List.set_cons_succ]))
      refine Kr.readyL (rs := [2]) (by kernel_rfl) (by simp) ?_
      refine Kr.AllL.cons rfl (fun K hK => ?_) Kr.AllL.nil
      go_simp
      go_at_call 111
      refine (word3_v _ _ _ k _ _ (H.nw 1 rfl)).mono ?_
      rintro e y5 ⟨rfl, hg⟩
      rw [HDA.out]
      replace H := H.grow hg
      replace HBl := Lib.hid (HBl.out.grow hg)
      clear hg
      refine hK.out _ _ (fun _ => (H.sub [2, 1] rfl)) ?_; clear hK K
      (try simp only [Act.put, List.getElem_toArray, List.getElem_cons_zero, List.getElem_cons_succ, List.setIfInBounds_toArray, List.set_cons_zero, List.set_cons_succ])
      (refine Kr.tP 3 (v := ?_) rfl (by kernel_rfl) (fun _ _ _ h => h) (by rfl) (fun _ => (H.sub [2, 1] rfl)) (fun wx => ?_) ?_; rotate_left; (focus (go_simp; first | done | rfl)); (try simp only [Act.put, List.getElem_toArray, List.getElem_cons_zero, List.getElem_cons_succ, List.setIfInBounds_toArray, List.set_cons_zero, List.set_cons_succ]))
      refine Kr.readyL (rs := [6]) (by kernel_rfl) (by simp) ?_
      refine Kr.AllL.cons rfl (fun K hK => ?_) Kr.AllL.nil
      go_simp
      go_at_call 111
      refine (word3_v _ _ _ k _ _ (H.nw 0 rfl)).mono ?_
      rintro e y6 ⟨rfl, hg⟩
      rw [HDB.out]
      replace H := H.grow hg
      replace HBl := Lib.hid (HBl.out.grow hg)
      clear hg
      refine hK.out _ _ (fun _ => (H.sub [2, 1] rfl)) ?_; clear hK K
      (try simp only [Act.put, List.getElem_toArray, List.getElem_cons_zero, List.getElem_cons_succ, List.setIfInBounds_toArray, List.set_cons_zero, List.set_cons_succ])
      (refine Kr.tP 7 (v := ?_) rfl (by kernel_rfl) (fun _ _ _ h => h) (by rfl) (fun _ => (H.sub [2, 1] rfl)) (fun wx => ?_) ?_; rotate_left; (focus (go_simp; first | done | rfl)); (try simp only [Act.put, List.getElem_toArray, List.getElem_cons_zero, List.getElem_cons_succ, List.setIfInBounds_toArray, List.set_cons_zero, List.set_cons_succ]))
      (refine Kr.tP 9 (v := ?_) rfl (by kernel_rfl) (fun _ _ _ h => h) (by rfl) (fun _ => (H.sub [2, 1] rfl)) (fun wx => ?_) ?_; rotate_left; (focus (go_simp; first | done | rfl)); (try simp only [Act.put, List.getElem_toArray, List.getElem_cons_zero, List.getElem_cons_succ, List.setIfInBounds_toArray, List.set_cons_zero, List.set_cons_succ]))
      (refine Kr.tP 10 (v := ?_) rfl (by kernel_rfl) (fun _ _ _ h => h) (by rfl) (fun _ => (H.sub [2, 1] rfl)) (fun wx => ?_) ?_; rotate_left; (focus (go_simp; first | done | rfl)); (try simp only [Act.put, List.getElem_toArray, List.getElem_cons_zero, List.getElem_cons_succ, List.setIfInBounds_toArray, List.set_cons_zero, List.set_cons_succ]))
      refine Kr.doneL (by kernel_rfl) ?_ _
      go_upto_region 7 with fail
      refine Kr.seqStart ?_
      iterate 4 (refine Kr.seqP (v := ?_) (by rfl) ?_ ?_; rotate_left; (focus (go_simp; first | done | rfl)); (try simp only [Act.put, List.getElem_toArray, List.getElem_cons_zero, List.getElem_cons_succ, List.setIfInBounds_toArray, List.set_cons_zero, List.set_cons_succ]))
      refine Kr.seqS (fun K hK => ?_)
      go_simp
      obtain ⟨y7, hy⟩ : ∃ y, y6.alloc (.cells #[.int .u32 (lo : Int)] 35) = y := ⟨_, rfl⟩
      obtain ⟨bn, hbn⟩ : ∃ b, y6.heap.size = b := ⟨_, rfl⟩
      rw [hy, hbn]
      have hg : Gr y6 y7 := hy ▸ (Gr.refl _).alloc _
      have HONE := Lib.hid (hbn ▸ hy ▸ one_new y6 lo)
      clear H
      replace HBl := Lib.hid (HBl.out.grow hg)
      clear hg hy hbn
      refine hK.out _ _ ?_; clear hK K
      (try simp only [Act.put, List.getElem_toArray, List.getElem_cons_zero, List.getElem_cons_succ, List.setIfInBounds_toArray, List.set_cons_zero, List.set_cons_succ])
      refine wpList_append_own _ rfl _ _ 41 rfl W0.heap.size 35 i0 (.int .u32 0) 1 4 Tryd.underlying41 hi hz0 hz1 hz2 rfl (by decide) (.slice po k co) k (cw r) rfl (ownsRow_at HL.out HBl.out) ⟨bn, 0, none⟩ 1 1 [.int .u32 (lo : Int)] rfl rfl HONE.out (by simp [Value.oneCell']) (by unfold maxLen; omega) (by omega) HBl.out.2.2.size ?_
      intro v1 w3 hown hgrow _
      have hb3 := Bld.step HL.out HBl.out hown hgrow
      have HB3 := Lib.hid hb3.1
      obtain ⟨p3, cap3, rfl⟩ := hb3.2
      clear hown hgrow hb3 HONE
      (try simp only [Act.put, List.getElem_toArray, List.getElem_cons_zero, List.getElem_cons_succ, List.setIfInBounds_toArray, List.set_cons_zero, List.set_cons_succ])
      have H := H0.out.grow HB3.out.2.2
      (refine Kr.seqP (v := ?_) (by rfl) ?_ ?_; rotate_left; (focus (go_simp; first | done | rfl)); (try simp only [Act.put, List.getElem_toArray, List.getElem_cons_zero, List.getElem_cons_succ, List.setIfInBounds_toArray, List.set_cons_zero, List.set_cons_succ]))
      refine Kr.seqDone ?_
      clear H
      go_wp2
      go_roundw
      case rel => exact ⟨k + 1, hh, r ++ [lo], by omega, by go_num, by rw [show (1 : Int) - (1 - (hh : Int)) = (hh : Int) by omega], HST, hh1, HB3, p3, cap3, rfl⟩
      case measure => (simp [intOf] <;> omega)
    · skip
      have hk := H.c
      simp only [Kr.Cells] at hk
      obtain rfl : k = na := by omega
      have HV : Hid (val r = x - y) := Lib.hid (HS.out.done HXn.out HYX.out)
      have HOK := Lib.hid HS.out.2.1
      go_upto_region 9 with fail
      refine Kr.seqStart ?_
      (refine Kr.seqP (v := ?_) (by rfl) ?_ ?_; rotate_left; (focus (go_simp; first | done | rfl)); (try simp only [Act.put, List.getElem_toArray, List.getElem_cons_zero, List.getElem_cons_succ, List.setIfInBounds_toArray, List.set_cons_zero, List.set_cons_succ]))
      refine Kr.seqS (fun K hK => ?_)
      go_simp
      go_at_call 96
      refine (trim3_w po k co r _ (HBl.out.nw' HOK.out (by rw [HL.out]; omega))).mono ?_
      rintro e y8 ⟨p5, n5, c5, rfl, hr, hg⟩
      clear hk
      replace H := H.grow hg
      rw [HV.out] at hr
      replace H := H.num hr
      clear hr hg
      refine hK.out _ _ ?_; clear hK K
      (try simp only [Act.put, List.getElem_toArray, List.getElem_cons_zero, List.getElem_cons_succ, List.setIfInBounds_toArray, List.set_cons_zero, List.set_cons_succ])
      have hk := H.c
      simp only [Kr.Cells] at hk
      refine Kr.seqS (fun K hK => ?_)
      go_simp
      clear hk
      obtain ⟨y9, hy⟩ : ∃ y, y8.setCell ⟨br, 0, none⟩ (.slice p5 n5 c5) = y := ⟨_, rfl⟩
      rw [hy]
      replace H := H.store 0 hy rfl rfl
      dsimp only [List.set] at H
      clear hy
      refine hK.out _ _ ?_; clear hK K
      (try simp only [Act.put, List.getElem_toArray, List.getElem_cons_zero, List.getElem_cons_succ, List.setIfInBounds_toArray, List.set_cons_zero, List.set_cons_succ])
      refine Kr.seqDone ?_
      have hk := H.c
      simp only [Kr.Cells] at hk
      go_wp2
      refine bodyPost_ret (v := .agg #[.slice p5 n5 c5]) (by simp [results, Tryd.results99, go_sem, hk]) rfl ⟨p5, n5, c5, rfl, H.nw 0 rfl, H.g⟩
end Go.Proofs.YtfompolklkehpaaDoor.Mr


/- Plain numbers for the third reference. -/
namespace Go.Proofs.YtfompolklkehpaaDoor.Mr
open Go.RowKit Go.Shelf Go.Proofs.YtfompolklkehpaaDoor.Nm Go.Proofs.YtfompolklkehpaaDoor.Ne Go.Proofs.YtfompolklkehpaaDoor.Nf Go.Proofs.YtfompolklkehpaaDoor.Nk Go.Proofs.YtfompolklkehpaaDoor.Nv Go.Proofs.YtfompolklkehpaaDoor.Nr2 Go.Proofs.YtfompolklkehpaaDoor.Mo Go.Proofs.YtfompolklkehpaaDoor.Kr

theorem nw_small {w : World} {p : Option Addr} {n c x K : Nat} (h : Nw w p n c (digs x)) (hx : x < pw K) : n ≤ K := by
  have := (digs_length_le x K).2 hx
  rwa [h.len] at this
theorem nb_small {x K : Nat} (h : x < pw K) : nb x ≤ 32 * K := (nb_le x _).2 (by rw [← pw_eq]; exact h)
theorem mulm_0 {x y j m : Nat} (h : y.testBit j = false) : (x * (y / 2 ^ (j + 1)) % m + x * (y / 2 ^ (j + 1)) % m) % m = x * (y / 2 ^ j) % m := by
  rw [half_0 h]
  generalize y / 2 ^ (j + 1) = E
  rw [Nat.mul_add, ← Nat.add_mod]
theorem mulm_1 {x y j m : Nat} (h : y.testBit j = true) : ((x * (y / 2 ^ (j + 1)) % m + x * (y / 2 ^ (j + 1)) % m) % m + x) % m = x * (y / 2 ^ j) % m := by
  rw [half_1 h]
  generalize y / 2 ^ (j + 1) = E
  rw [Nat.mul_add, Nat.mul_add, Nat.mul_one, ← Nat.add_mod, Nat.mod_add_mod]
theorem modm_0 {x j m : Nat} (h : x.testBit j = false) : (x / 2 ^ (j + 1) % m + x / 2 ^ (j + 1) % m) % m = x / 2 ^ j % m := by
  rw [half_0 h]
  generalize x / 2 ^ (j + 1) = E
  rw [← Nat.add_mod]
theorem modm_1 {x j m : Nat} (h : x.testBit j = true) : ((x / 2 ^ (j + 1) % m + x / 2 ^ (j + 1) % m) % m + 1) % m = x / 2 ^ j % m := by
  rw [half_1 h]
  generalize x / 2 ^ (j + 1) = E
  rw [← Nat.add_mod, Nat.mod_add_mod]
theorem tim_0 {x y j : Nat} (h : y.testBit j = false) : x * (y / 2 ^ (j + 1)) + x * (y / 2 ^ (j + 1)) = x * (y / 2 ^ j) := by
  rw [half_0 h, Nat.mul_add]
theorem tim_1 {x y j : Nat} (h : y.testBit j = true) : x * (y / 2 ^ (j + 1)) + x * (y / 2 ^ (j + 1)) + x = x * (y / 2 ^ j) := by
  rw [half_1 h]
  generalize y / 2 ^ (j + 1) = E
  rw [Nat.mul_add, Nat.mul_add, Nat.mul_one]
theorem over_lo {E y q r b : Nat} (hq : q = E / y) (hr : r = E % y) (h : r + r + b < y) : (E + E + b) / y = q + q ∧ (E + E + b) % y = r + r + b := by
  have h1 := Nat.div_add_mod E y
  rw [← hq, ← hr] at h1
  have e : E + E + b = r + r + b + y * (q + q) := by rw [Nat.mul_add]; omega
  rw [e, Nat.add_mul_div_left _ _ (by omega), Nat.add_mul_mod_self_left, Nat.div_eq_of_lt h, Nat.mod_eq_of_lt h]
  omega
theorem over_hi {E y q r b : Nat} (hq : q = E / y) (hr : r = E % y) (hb : b ≤ 1) (hy : 0 < y) (h : y ≤ r + r + b) : (E + E + b) / y = q + q + 1 ∧ (E + E + b) % y = r + r + b - y := by
  have h1 := Nat.div_add_mod E y
  have h2 : r < y := by rw [hr]; exact Nat.mod_lt _ hy
  rw [← hq, ← hr] at h1
  have e : E + E + b = (r + r + b - y) + y * (q + q + 1) := by rw [Nat.mul_add, Nat.mul_add, Nat.mul_one]; omega
  have h3 : r + r + b - y < y := by omega
  rw [e, Nat.add_mul_div_left _ _ hy, Nat.add_mul_mod_self_left, Nat.div_eq_of_lt h3, Nat.mod_eq_of_lt h3]
  omega
theorem pw_dbl {x K : Nat} (h : x < pw K) : x + x < pw (K + 1) := by
  have : pw (K + 1) = pw K * 4294967296 := by rw [pw_add]; rfl
  omega
theorem pw_pos' (K : Nat) : 1 < pw (K + 1) := by
  have : pw (K + 1) = pw K * 4294967296 := by rw [pw_add]; rfl
  have := pw_pos K
  omega
end Go.Proofs.YtfompolklkehpaaDoor.Mr


/- The contracts of the third reference's Add and Sub. -/
namespace Go.Proofs.YtfompolklkehpaaDoor.Mr
open Go.RowKit Go.Shelf Go.Proofs.YtfompolklkehpaaDoor.Nm Go.Proofs.YtfompolklkehpaaDoor.Ne Go.Proofs.YtfompolklkehpaaDoor.Nf Go.Proofs.YtfompolklkehpaaDoor.Nk Go.Proofs.YtfompolklkehpaaDoor.Nv Go.Proofs.YtfompolklkehpaaDoor.Nr2 Go.Proofs.YtfompolklkehpaaDoor.Mo Go.Proofs.YtfompolklkehpaaDoor.Mr Go.Proofs.YtfompolklkehpaaDoor.Kr

set_option linter.unusedSimpArgs false in
set_option maxRecDepth 100000 in
set_option maxHeartbeats 16000000 in
theorem radd3_lo {pa : Option Addr} {na ca : Nat} {pb : Option Addr} {nb cb : Nat} {pm : Option Addr} {nm cm : Nat} {x y m : Nat} {w : World} (ha : Nw w pa na ca (digs x)) (hb : Nw w pb nb cb (digs y)) (hm : Nw w pm nm cm (digs m)) (hx : x < m) (hy : y < m) (vm : m < pw 900) (hs : x + y < m) :
    Calls Tryd.prog 76 #[.agg #[.slice pa na ca], .agg #[.slice pb nb cb], .agg #[.slice pm nm cm]] w (Has ((x + y) % m) w) := by
  have HX := Lib.hid hx
  have HY := Lib.hid hy
  have VM := Lib.hid vm
  have HS := Lib.hid hs
  have hna : na ≤ 1000 := Nat.le_trans (nw_small ha (Nat.lt_trans hx vm)) (by decide)
  have hnb : nb ≤ 1000 := Nat.le_trans (nw_small hb (Nat.lt_trans hy vm)) (by decide)
  have HNS : ∀ (W : World) (p : Option Addr) (n c : Nat), Nw W p n c (digs (x + y)) → n ≤ 1000 := fun W p n c h => Nat.le_trans (nw_small (K := 901) h (by have h2 : m + m < pw 901 := pw_dbl vm; omega)) (by decide)
  replace HNS := Lib.hid HNS
  clear hx hy vm hs
  have H := Sta.start w
  replace H := H.num ha
  replace H := H.num hb
  replace H := H.num hm
  go_enter Tryd.func76, Tryd.ntmps76
  go_upto_region 0 with fail
  refine Kr.seqStart ?_
  refine Kr.seqS (fun K hK => ?_)
  go_simp
  obtain ⟨y1, hy⟩ : ∃ y, w.alloc (.cells #[.slice pa na ca] 43) = y := ⟨_, rfl⟩
  obtain ⟨ba, hb⟩ : ∃ b, w.heap.size = b := ⟨_, rfl⟩
  rw [hy, hb]
  replace H := H.alloc hy hb rfl
  clear hy hb
  refine hK.out _ _ ?_; clear hK K
  (try simp only [Act.put, List.getElem_toArray, List.getElem_cons_zero, List.getElem_cons_succ, List.setIfInBounds_toArray, List.set_cons_zero, List.set_cons_succ])
  refine Kr.seqS (fun K hK => ?_)
  go_simp
  obtain ⟨y2, hy⟩ : ∃ y, y1.alloc (.cells #[.slice pb nb cb] 43) = y := ⟨_, rfl⟩
  obtain ⟨bb, hb⟩ : ∃ b, y1.heap.size = b := ⟨_, rfl⟩
  rw [hy, hb]
  replace H := H.alloc hy hb rfl
  clear hy hb
  refine hK.out _ _ ?_; clear hK K
  (try simp only [Act.put, List.getElem_toArray, List.getElem_cons_zero, List.getElem_cons_succ, List.setIfInBounds_toArray, List.set_cons_zero, List.set_cons_succ])
  refine Kr.seqS (fun K hK => ?_)
  go_simp
  obtain ⟨y3, hy⟩ : ∃ y, y2.alloc (.cells #[.slice pm nm cm] 43) = y := ⟨_, rfl⟩
  obtain ⟨bm, hb⟩ : ∃ b, y2.heap.size = b := ⟨_, rfl⟩
  rw [hy, hb]
  replace H := H.alloc hy hb rfl
  clear hy hb
  refine hK.out _ _ ?_; clear hK K
  (try simp only [Act.put, List.getElem_toArray, List.getElem_cons_zero, List.getElem_cons_succ, List.setIfInBounds_toArray, List.set_cons_zero, List.set_cons_succ])
  refine Kr.seqS (fun K hK => ?_)
  go_simp
  obtain ⟨y4, hy⟩ : ∃ y, y3.alloc (.cells #[.slice none 0 0] 43) = y := ⟨_, rfl⟩
  obtain ⟨br, hb⟩ : ∃ b, y3.heap.size = b := ⟨_, rfl⟩
  rw [hy, hb]
  replace H := H.alloc hy hb rfl
  clear hy hb
  refine hK.out _ _ ?_; clear hK K
  (try simp only [Act.put, List.getElem_toArray, List.getElem_cons_zero, List.getElem_cons_succ, List.setIfInBounds_toArray, List.set_cons_zero, List.set_cons_succ])
  refine Kr.seqDone ?_
  go_upto_region 1 with fail
  refine Kr.seqStart ?_
  have hk := H.c
  simp only [Kr.Cells] at hk
  iterate 2 (refine Kr.seqP (v := ?_) (by rfl) ?_ ?_; rotate_left; (focus (go_simp; first | done | rfl)); (try simp only [Act.put, List.getElem_toArray, List.getElem_cons_zero, List.getElem_cons_succ, List.setIfInBounds_toArray, List.set_cons_zero, List.set_cons_succ]))
  refine Kr.seqS (fun K hK => ?_)
  go_simp
  go_at_call 97
  refine (rplus3_v (H.nw 2 rfl) (H.nw 1 rfl) hna hnb).mono ?_
  rintro e y5 ⟨p5, n5, c5, rfl, hr, hg⟩
  clear hk
  replace H := H.grow hg
  replace H := H.num hr
  clear hr hg
  refine hK.out _ _ ?_; clear hK K
  (try simp only [Act.put, List.getElem_toArray, List.getElem_cons_zero, List.getElem_cons_succ, List.setIfInBounds_toArray, List.set_cons_zero, List.set_cons_succ])
  refine Kr.seqS (fun K hK => ?_)
  go_simp
  obtain ⟨y6, hy⟩ : ∃ y, y5.alloc (.cells #[.slice none 0 0] 43) = y := ⟨_, rfl⟩
  obtain ⟨bs, hb⟩ : ∃ b, y5.heap.size = b := ⟨_, rfl⟩
  rw [hy, hb]
  replace H := H.alloc hy hb rfl
  clear hy hb
  refine hK.out _ _ ?_; clear hK K
  (try simp only [Act.put, List.getElem_toArray, List.getElem_cons_zero, List.getElem_cons_succ, List.setIfInBounds_toArray, List.set_cons_zero, List.set_cons_succ])
  have hk := H.c
  simp only [Kr.Cells] at hk
  refine Kr.seqS (fun K hK => ?_)
  go_simp
  clear hk
  obtain ⟨y7, hy⟩ : ∃ y, y6.setCell ⟨bs, 0, none⟩ (.slice p5 n5 c5) = y := ⟨_, rfl⟩
  rw [hy]
  replace H := H.store 0 hy rfl rfl
  dsimp only [List.set] at H
  clear hy
  refine hK.out _ _ ?_; clear hK K
  (try simp only [Act.put, List.getElem_toArray, List.getElem_cons_zero, List.getElem_cons_succ, List.setIfInBounds_toArray, List.set_cons_zero, List.set_cons_succ])
  refine Kr.seqDone ?_
  go_upto_region 2 with fail
  refine Kr.seqStart ?_
  have hk := H.c
  simp only [Kr.Cells] at hk
  iterate 2 (refine Kr.seqP (v := ?_) (by rfl) ?_ ?_; rotate_left; (focus (go_simp; first | done | rfl)); (try simp only [Act.put, List.getElem_toArray, List.getElem_cons_zero, List.getElem_cons_succ, List.setIfInBounds_toArray, List.set_cons_zero, List.set_cons_succ]))
  refine Kr.seqS (fun K hK => ?_)
  go_simp
  go_at_call 98
  refine (less3_v (H.nw 0 rfl) (H.nw 1 rfl)).mono ?_
  rintro e y8 ⟨rfl, hg⟩
  rw [decide_eq_true HS.out]
  clear hk
  replace H := H.grow hg
  clear hg
  refine hK.out _ _ ?_; clear hK K
  (try simp only [Act.put, List.getElem_toArray, List.getElem_cons_zero, List.getElem_cons_succ, List.setIfInBounds_toArray, List.set_cons_zero, List.set_cons_succ])
  refine Kr.seqDone ?_
  go_upto_region 3 with fail
  refine Kr.seqStart ?_
  have hk := H.c
  simp only [Kr.Cells] at hk
  (refine Kr.seqP (v := ?_) (by rfl) ?_ ?_; rotate_left; (focus (go_simp; first | done | rfl)); (try simp only [Act.put, List.getElem_toArray, List.getElem_cons_zero, List.getElem_cons_succ, List.setIfInBounds_toArray, List.set_cons_zero, List.set_cons_succ]))
  refine Kr.seqS (fun K hK => ?_)
  go_simp
  clear hk
  obtain ⟨y9, hy⟩ : ∃ y, y8.setCell ⟨br, 0, none⟩ (.slice p5 n5 c5) = y := ⟨_, rfl⟩
  rw [hy]
  replace H := H.store 1 hy rfl rfl
  dsimp only [List.set] at H
  clear hy
  refine hK.out _ _ ?_; clear hK K
  (try simp only [Act.put, List.getElem_toArray, List.getElem_cons_zero, List.getElem_cons_succ, List.setIfInBounds_toArray, List.set_cons_zero, List.set_cons_succ])
  refine Kr.seqDone ?_
  have hk := H.c
  simp only [Kr.Cells] at hk
  go_wp2
  refine bodyPost_ret (v := .agg #[.slice p5 n5 c5]) (by simp [results, Tryd.results76, go_sem, hk]) rfl ⟨p5, n5, c5, rfl, by rw [Nat.mod_eq_of_lt HS.out]; exact (H.nw 0 rfl), H.g⟩
set_option linter.unusedSimpArgs false in
set_option maxRecDepth 100000 in
set_option maxHeartbeats 16000000 in
theorem radd3_hi {pa : Option Addr} {na ca : Nat} {pb : Option Addr} {nb cb : Nat} {pm : Option Addr} {nm cm : Nat} {x y m : Nat} {w : World} (ha : Nw w pa na ca (digs x)) (hb : Nw w pb nb cb (digs y)) (hm : Nw w pm nm cm (digs m)) (hx : x < m) (hy : y < m) (vm : m < pw 900) (hs : ¬ x + y < m) :
    Calls Tryd.prog 76 #[.agg #[.slice pa na ca], .agg #[.slice pb nb cb], .agg #[.slice pm nm cm]] w (Has ((x + y) % m) w) := by
  have HX := Lib.hid hx
  have HY := Lib.hid hy
  have VM := Lib.hid vm
  have HS := Lib.hid hs
  have hna : na ≤ 1000 := Nat.le_trans (nw_small ha (Nat.lt_trans hx vm)) (by decide)
  have hnb : nb ≤ 1000 := Nat.le_trans (nw_small hb (Nat.lt_trans hy vm)) (by decide)
  have HNS : ∀ (W : World) (p : Option Addr) (n c : Nat), Nw W p n c (digs (x + y)) → n ≤ 1000 := fun W p n c h => Nat.le_trans (nw_small (K := 901) h (by have h2 : m + m < pw 901 := pw_dbl vm; omega)) (by decide)
  replace HNS := Lib.hid HNS
  clear hx hy vm hs
  have H := Sta.start w
  replace H := H.num ha
  replace H := H.num hb
  replace H := H.num hm
  go_enter Tryd.func76, Tryd.ntmps76
  go_upto_region 0 with fail
  refine Kr.seqStart ?_
  refine Kr.seqS (fun K hK => ?_)
  go_simp
  obtain ⟨y1, hy⟩ : ∃ y, w.alloc (.cells #[.slice pa na ca] 43) = y := ⟨_, rfl⟩
  obtain ⟨ba, hb⟩ : ∃ b, w.heap.size = b := ⟨_, rfl⟩
  rw [hy, hb]
  replace H := H.alloc hy hb rfl
  clear hy hb
  refine hK.out _ _ ?_; clear hK K
  (try simp only [Act.put, List.getElem_toArray, List.getElem_cons_zero, List.getElem_cons_succ, List.setIfInBounds_toArray, List.set_cons_zero, List.set_cons_succ])
  refine Kr.seqS (fun K hK => ?_)
  go_simp
  obtain ⟨y2, hy⟩ : ∃ y, y1.alloc (.cells #[.slice pb nb cb] 43) = y := ⟨_, rfl⟩
  obtain ⟨bb, hb⟩ : ∃ b, y1.heap.size = b := ⟨_, rfl⟩
  rw [hy, hb]
  replace H := H.alloc hy hb rfl
  clear hy hb
  refine hK.out _ _ ?_; clear hK K
  (try simp only [Act.put, List.getElem_toArray, List.getElem_cons_zero, List.getElem_cons_succ, List.setIfInBounds_toArray, List.set_cons_zero, List.set_cons_succ])
  refine Kr.seqS (fun K hK => ?_)
  go_simp
  obtain ⟨y3, hy⟩ : ∃ y, y2.alloc (.cells #[.slice pm nm cm] 43) = y := ⟨_, rfl⟩
  obtain ⟨bm, hb⟩ : ∃ b, y2.heap.size = b := ⟨_, rfl⟩
  rw [hy, hb]
  replace H := H.alloc hy hb rfl
  clear hy hb
  refine hK.out _ _ ?_; clear hK K
  (try simp only [Act.put, List.getElem_toArray, List.getElem_cons_zero, List.getElem_cons_succ, List.setIfInBounds_toArray, List.set_cons_zero, List.set_cons_succ])
  refine Kr.seqS (fun K hK => ?_)
  go_simp
  obtain ⟨y4, hy⟩ : ∃ y, y3.alloc (.cells #[.slice none 0 0] 43) = y := ⟨_, rfl⟩
  obtain ⟨br, hb⟩ : ∃ b, y3.heap.size = b := ⟨_, rfl⟩
  rw [hy, hb]
  replace H := H.alloc hy hb rfl
  clear hy hb
  refine hK.out _ _ ?_; clear hK K
  (try simp only [Act.put, List.getElem_toArray, List.getElem_cons_zero, List.getElem_cons_succ, List.setIfInBounds_toArray, List.set_cons_zero, List.set_cons_succ])
  refine Kr.seqDone ?_
  go_upto_region 1 with fail
  refine Kr.seqStart ?_
  have hk := H.c
  simp only [Kr.Cells] at hk
  iterate 2 (refine Kr.seqP (v := ?_) (by rfl) ?_ ?_; rotate_left; (focus (go_simp; first | done | rfl)); (try simp only [Act.put, List.getElem_toArray, List.getElem_cons_zero, List.getElem_cons_succ, List.setIfInBounds_toArray, List.set_cons_zero, List.set_cons_succ]))
  refine Kr.seqS (fun K hK => ?_)
  go_simp
  go_at_call 97
  refine (rplus3_v (H.nw 2 rfl) (H.nw 1 rfl) hna hnb).mono ?_
  rintro e y5 ⟨p5, n5, c5, rfl, hr, hg⟩
  clear hk
  replace H := H.grow hg
  replace H := H.num hr
  clear hr hg
  refine hK.out _ _ ?_; clear hK K
  (try simp only [Act.put, List.getElem_toArray, List.getElem_cons_zero, List.getElem_cons_succ, List.setIfInBounds_toArray, List.set_cons_zero, List.set_cons_succ])
  refine Kr.seqS (fun K hK => ?_)
  go_simp
  obtain ⟨y6, hy⟩ : ∃ y, y5.alloc (.cells #[.slice none 0 0] 43) = y := ⟨_, rfl⟩
  obtain ⟨bs, hb⟩ : ∃ b, y5.heap.size = b := ⟨_, rfl⟩
  rw [hy, hb]
  replace H := H.alloc hy hb rfl
  clear hy hb
  refine hK.out _ _ ?_; clear hK K
  (try simp only [Act.put, List.getElem_toArray, List.getElem_cons_zero, List.getElem_cons_succ, List.setIfInBounds_toArray, List.set_cons_zero, List.set_cons_succ])
  have hk := H.c
  simp only [Kr.Cells] at hk
  refine Kr.seqS (fun K hK => ?_)
  go_simp
  clear hk
  obtain ⟨y7, hy⟩ : ∃ y, y6.setCell ⟨bs, 0, none⟩ (.slice p5 n5 c5) = y := ⟨_, rfl⟩
  rw [hy]
  replace H := H.store 0 hy rfl rfl
  dsimp only [List.set] at H
  clear hy
  refine hK.out _ _ ?_; clear hK K
  (try simp only [Act.put, List.getElem_toArray, List.getElem_cons_zero, List.getElem_cons_succ, List.setIfInBounds_toArray, List.set_cons_zero, List.set_cons_succ])
  refine Kr.seqDone ?_
  go_upto_region 2 with fail
  refine Kr.seqStart ?_
  have hk := H.c
  simp only [Kr.Cells] at hk
  iterate 2 (refine Kr.seqP (v := ?_) (by rfl) ?_ ?_; rotate_left; (focus (go_simp; first | done | rfl)); (try simp only [Act.put, List.getElem_toArray, List.getElem_cons_zero, List.getElem_cons_succ, List.setIfInBounds_toArray, List.set_cons_zero, List.set_cons_succ]))
  refine Kr.seqS (fun K hK => ?_)
  go_simp
  go_at_call 98
  refine (less3_v (H.nw 0 rfl) (H.nw 1 rfl)).mono ?_
  rintro e y8 ⟨rfl, hg⟩
  rw [decide_eq_false HS.out]
  clear hk
  replace H := H.grow hg
  clear hg
  refine hK.out _ _ ?_; clear hK K
  (try simp only [Act.put, List.getElem_toArray, List.getElem_cons_zero, List.getElem_cons_succ, List.setIfInBounds_toArray, List.set_cons_zero, List.set_cons_succ])
  refine Kr.seqDone ?_
  go_upto_region 4 with fail
  refine Kr.seqStart ?_
  have hk := H.c
  simp only [Kr.Cells] at hk
  iterate 2 (refine Kr.seqP (v := ?_) (by rfl) ?_ ?_; rotate_left; (focus (go_simp; first | done | rfl)); (try simp only [Act.put, List.getElem_toArray, List.getElem_cons_zero, List.getElem_cons_succ, List.setIfInBounds_toArray, List.set_cons_zero, List.set_cons_succ]))
  refine Kr.seqS (fun K hK => ?_)
  go_simp
  go_at_call 99
  refine (rminus3_v (H.nw 0 rfl) (H.nw 1 rfl) (HNS.out _ _ _ _ (H.nw 0 rfl)) (Nat.le_of_not_lt HS.out)).mono ?_
  rintro e y9 ⟨p9, n9, c9, rfl, hr, hg⟩
  clear hk
  replace H := H.grow hg
  replace H := H.num hr
  clear hr hg
  refine hK.out _ _ ?_; clear hK K
  (try simp only [Act.put, List.getElem_toArray, List.getElem_cons_zero, List.getElem_cons_succ, List.setIfInBounds_toArray, List.set_cons_zero, List.set_cons_succ])
  have hk := H.c
  simp only [Kr.Cells] at hk
  refine Kr.seqS (fun K hK => ?_)
  go_simp
  clear hk
  obtain ⟨y10, hy⟩ : ∃ y, y9.setCell ⟨br, 0, none⟩ (.slice p9 n9 c9) = y := ⟨_, rfl⟩
  rw [hy]
  replace H := H.store 1 hy rfl rfl
  dsimp only [List.set] at H
  clear hy
  refine hK.out _ _ ?_; clear hK K
  (try simp only [Act.put, List.getElem_toArray, List.getElem_cons_zero, List.getElem_cons_succ, List.setIfInBounds_toArray, List.set_cons_zero, List.set_cons_succ])
  refine Kr.seqDone ?_
  have hk := H.c
  simp only [Kr.Cells] at hk
  go_wp2
  refine bodyPost_ret (v := .agg #[.slice p9 n9 c9]) (by simp [results, Tryd.results76, go_sem, hk]) rfl ⟨p9, n9, c9, rfl, by rw [show (x + y) % m = x + y - m by have h1 := HX.out; have h2 := HY.out; have h3 := HS.out; rw [Nat.mod_eq_sub_mod (by omega), Nat.mod_eq_of_lt (by omega)]]; exact (H.nw 0 rfl), H.g⟩
theorem radd3_v {pa : Option Addr} {na ca : Nat} {pb : Option Addr} {nb cb : Nat} {pm : Option Addr} {nm cm : Nat} {x y m : Nat} {w : World} (ha : Nw w pa na ca (digs x)) (hb : Nw w pb nb cb (digs y)) (hm : Nw w pm nm cm (digs m)) (hx : x < m) (hy : y < m) (vm : m < pw 900) :
    Calls Tryd.prog 76 #[.agg #[.slice pa na ca], .agg #[.slice pb nb cb], .agg #[.slice pm nm cm]] w (Has ((x + y) % m) w) :=
  if hs : x + y < m then radd3_lo ha hb hm hx hy vm hs else radd3_hi ha hb hm hx hy vm hs
end Go.Proofs.YtfompolklkehpaaDoor.Mr


/- The contract of the third reference's Mul, Mod, Pow. -/
namespace Go.Proofs.YtfompolklkehpaaDoor.Mr
open Go.RowKit Go.Shelf Go.Proofs.YtfompolklkehpaaDoor.Nm Go.Proofs.YtfompolklkehpaaDoor.Ne Go.Proofs.YtfompolklkehpaaDoor.Nf Go.Proofs.YtfompolklkehpaaDoor.Nk Go.Proofs.YtfompolklkehpaaDoor.Nv Go.Proofs.YtfompolklkehpaaDoor.Nr2 Go.Proofs.YtfompolklkehpaaDoor.Mo Go.Proofs.YtfompolklkehpaaDoor.Mr Go.Proofs.YtfompolklkehpaaDoor.Kr

set_option linter.unusedSimpArgs false in
set_option maxRecDepth 100000 in
set_option maxHeartbeats 16000000 in
theorem rmul3_v {pa : Option Addr} {na ca : Nat} {pb : Option Addr} {nb cb : Nat} {pm : Option Addr} {nm cm : Nat} {x y m : Nat} {w : World} (ha : Nw w pa na ca (digs x)) (hb : Nw w pb nb cb (digs y)) (hm : Nw w pm nm cm (digs m)) (hx : x < m) (hy : y < m) (vm : m < pw 900) :
    Calls Tryd.prog 52 #[.agg #[.slice pa na ca], .agg #[.slice pb nb cb], .agg #[.slice pm nm cm]] w (Has (x * y % m) w) := by
  have HX := Lib.hid hx
  have HY := Lib.hid hy
  have VM := Lib.hid vm
  have M0 : Hid (0 < m) := Lib.hid (Nat.lt_of_le_of_lt (Nat.zero_le _) hx)
  have VY : Hid (y < pw 1000) := Lib.hid (Nat.lt_of_lt_of_le (Nat.lt_trans hy vm) (pw_mono (by decide)))
  clear hx hy vm
  have H := Sta.start w
  replace H := H.num ha
  replace H := H.num hb
  replace H := H.num hm
  go_enter Tryd.func52, Tryd.ntmps52
  obtain ⟨B, hB⟩ : ∃ B, Nv.nb (y) = B := ⟨_, rfl⟩
  have HNB := Lib.hid hB
  have hb : B ≤ 32 * 1000 := by rw [← hB]; exact nb_small VY.out
  have hW : IntKind.i64.wrap ((B : Int) - 1) = (B : Int) - 1 := IntWalk.i64_in _ (by omega)
  have HZ : Hid (y / 2 ^ B = 0) := Lib.hid (by rw [← hB]; exact nb_zero _)
  clear hB
  go_upto_region 0 with fail
  refine Kr.seqStart ?_
  refine Kr.seqS (fun K hK => ?_)
  go_simp
  obtain ⟨y1, hy⟩ : ∃ y, w.alloc (.cells #[.slice pa na ca] 43) = y := ⟨_, rfl⟩
  obtain ⟨ba, hb⟩ : ∃ b, w.heap.size = b := ⟨_, rfl⟩
  rw [hy, hb]
  replace H := H.alloc hy hb rfl
  clear hy hb
  refine hK.out _ _ ?_; clear hK K
  (try simp only [Act.put, List.getElem_toArray, List.getElem_cons_zero, List.getElem_cons_succ, List.setIfInBounds_toArray, List.set_cons_zero, List.set_cons_succ])
  refine Kr.seqS (fun K hK => ?_)
  go_simp
  obtain ⟨y2, hy⟩ : ∃ y, y1.alloc (.cells #[.slice pb nb cb] 43) = y := ⟨_, rfl⟩
  obtain ⟨bb, hb⟩ : ∃ b, y1.heap.size = b := ⟨_, rfl⟩
  rw [hy, hb]
  replace H := H.alloc hy hb rfl
  clear hy hb
  refine hK.out _ _ ?_; clear hK K
  (try simp only [Act.put, List.getElem_toArray, List.getElem_cons_zero, List.getElem_cons_succ, List.setIfInBounds_toArray, List.set_cons_zero, List.set_cons_succ])
  refine Kr.seqS (fun K hK => ?_)
  go_simp
  obtain ⟨y3, hy⟩ : ∃ y, y2.alloc (.cells #[.slice pm nm cm] 43) = y := ⟨_, rfl⟩
  obtain ⟨bm, hb⟩ : ∃ b, y2.heap.size = b := ⟨_, rfl⟩
  rw [hy, hb]
  replace H := H.alloc hy hb rfl
  clear hy hb
  refine hK.out _ _ ?_; clear hK K
  (try simp only [Act.put, List.getElem_toArray, List.getElem_cons_zero, List.getElem_cons_succ, List.setIfInBounds_toArray, List.set_cons_zero, List.set_cons_succ])
  refine Kr.seqS (fun K hK => ?_)
  go_simp
  obtain ⟨y4, hy⟩ : ∃ y, y3.alloc (.cells #[.slice none 0 0] 43) = y := ⟨_, rfl⟩
  obtain ⟨br, hb⟩ : ∃ b, y3.heap.size = b := ⟨_, rfl⟩
  rw [hy, hb]
  replace H := H.alloc hy hb rfl
  clear hy hb
  refine hK.out _ _ ?_; clear hK K
  (try simp only [Act.put, List.getElem_toArray, List.getElem_cons_zero, List.getElem_cons_succ, List.setIfInBounds_toArray, List.set_cons_zero, List.set_cons_succ])
  refine Kr.seqDone ?_
  go_upto_region 1 with fail
  refine Kr.seqStart ?_
  refine Kr.seqS (fun K hK => ?_)
  go_simp
  obtain ⟨y5, hy⟩ : ∃ y, y4.alloc (.cells #[.slice none 0 0] 43) = y := ⟨_, rfl⟩
  obtain ⟨bo, hb⟩ : ∃ b, y4.heap.size = b := ⟨_, rfl⟩
  rw [hy, hb]
  replace H := H.alloc hy hb rfl
  clear hy hb
  refine hK.out _ _ ?_; clear hK K
  (try simp only [Act.put, List.getElem_toArray, List.getElem_cons_zero, List.getElem_cons_succ, List.setIfInBounds_toArray, List.set_cons_zero, List.set_cons_succ])
  refine Kr.seqDone ?_
  go_upto_region 2 with fail
  refine Kr.seqStart ?_
  have hk := H.c
  simp only [Kr.Cells] at hk
  (refine Kr.seqP (v := ?_) (by rfl) ?_ ?_; rotate_left; (focus (go_simp; first | done | rfl)); (try simp only [Act.put, List.getElem_toArray, List.getElem_cons_zero, List.getElem_cons_succ, List.setIfInBounds_toArray, List.set_cons_zero, List.set_cons_succ]))
  refine Kr.seqS (fun K hK => ?_)
  go_simp
  go_at_call 74
  refine (bits3_v _ _ _ _ _ (H.nw 1 rfl)).mono ?_
  rintro e y6 ⟨rfl, hg⟩
  rw [HNB.out]
  clear hk
  replace H := H.grow hg
  clear hg
  refine hK.out _ _ ?_; clear hK K
  (try simp only [Act.put, List.getElem_toArray, List.getElem_cons_zero, List.getElem_cons_succ, List.setIfInBounds_toArray, List.set_cons_zero, List.set_cons_succ])
  iterate 2 (refine Kr.seqP (v := ?_) (by rfl) ?_ ?_; rotate_left; (focus (go_simp; first | done | rfl)); (try simp only [Act.put, List.getElem_toArray, List.getElem_cons_zero, List.getElem_cons_succ, List.setIfInBounds_toArray, List.set_cons_zero, List.set_cons_succ]))
  refine Kr.seqDone ?_
  replace H := H.num (nw_none _)
  have H2 : Hid (Sta w y6 [(bo, 0, .slice none 0 0), (br, 0, .slice none 0 0), (bm, 0, .slice pm nm cm), (bb, 0, .slice pb nb cb), (ba, 0, .slice pa na ca)] [N none 0 0 (x * (y / 2 ^ B) % m), N pa na ca (x), N pb nb cb (y), N pm nm cm (m)]) := Lib.hid (by rw [HZ.out, Nat.mul_zero, Nat.zero_mod]; exact H.pick [0, 3, 2, 1] rfl)
  go_wp2
  go_loopw [8] (fun i wr => ∃ (k : Nat) (pz0 : Option Addr) (nz0 cz0 : Nat), k ≤ B ∧ (k = 0 ∧ i = .int .i64 (-1) ∨ ∃ j : Nat, k = j + 1 ∧ i = .int .i64 (j : Int)) ∧ Hid (Sta w wr [(bo, 0, .slice pz0 nz0 cz0), (br, 0, .slice none 0 0), (bm, 0, .slice pm nm cm), (bb, 0, .slice pb nb cb), (ba, 0, .slice pa na ca)] [N pz0 nz0 cz0 (x * (y / 2 ^ k) % m), N pa na ca (x), N pb nb cb (y), N pm nm cm (m)])) (fun i _ => (intOf i + 1).toNat)
  case atStart =>
    refine ⟨B, _, _, _, Nat.le_refl _, ?_, H2⟩
    rcases Nat.eq_zero_or_pos B with h0 | h0
    · exact .inl ⟨h0, by subst h0; rfl⟩
    · exact .inr ⟨B - 1, by omega, by congr 1; omega⟩
  case round =>
    clear H H2 hW
    obtain ⟨k, pz0, nz0, cz0, hk, hik, HH⟩ := hrel
    rcases hik with ⟨rfl, rfl⟩ | ⟨j, rfl, rfl⟩
    · have H := HH.out
      clear HH
      go_upto_region 8 with fail
      refine Kr.seqStart ?_
      have hk := H.c
      simp only [Kr.Cells] at hk
      (refine Kr.seqP (v := ?_) (by rfl) ?_ ?_; rotate_left; (focus (go_simp; first | done | rfl)); (try simp only [Act.put, List.getElem_toArray, List.getElem_cons_zero, List.getElem_cons_succ, List.setIfInBounds_toArray, List.set_cons_zero, List.set_cons_succ]))
      refine Kr.seqS (fun K hK => ?_)
      go_simp
      clear hk
      obtain ⟨y7, hy⟩ : ∃ y, wr.setCell ⟨br, 0, none⟩ (.slice pz0 nz0 cz0) = y := ⟨_, rfl⟩
      rw [hy]
      replace H := H.store 1 hy rfl rfl
      dsimp only [List.set] at H
      clear hy
      refine hK.out _ _ ?_; clear hK K
      (try simp only [Act.put, List.getElem_toArray, List.getElem_cons_zero, List.getElem_cons_succ, List.setIfInBounds_toArray, List.set_cons_zero, List.set_cons_succ])
      refine Kr.seqDone ?_
      have hk := H.c
      simp only [Kr.Cells] at hk
      go_wp2
      refine bodyPost_ret (v := .agg #[.slice pz0 nz0 cz0]) (by simp [results, Tryd.results52, go_sem, hk]) rfl ⟨pz0, nz0, cz0, rfl, by have h := (H.nw 0 rfl); rwa [Nat.pow_zero, Nat.div_one] at h, H.g⟩
    · have H := HH.out
      clear HH
      have hW : IntKind.i64.wrap ((j : Int) - 1) = (j : Int) - 1 := IntWalk.i64_in _ (by omega)
      have hj0 : (0 : Int) ≤ (j : Int) := by omega
      have HJ : Hid (j < 9223372036854775808) := Lib.hid (by omega)
      go_upto_region 5 with fail
      refine Kr.seqStart ?_
      have hk := H.c
      simp only [Kr.Cells] at hk
      iterate 3 (refine Kr.seqP (v := ?_) (by rfl) ?_ ?_; rotate_left; (focus (go_simp; first | done | rfl)); (try simp only [Act.put, List.getElem_toArray, List.getElem_cons_zero, List.getElem_cons_succ, List.setIfInBounds_toArray, List.set_cons_zero, List.set_cons_succ]))
      refine Kr.seqS (fun K hK => ?_)
      go_simp
      go_at_call 76
      refine (radd3_v (H.nw 0 rfl) (H.nw 0 rfl) (H.nw 3 rfl) (Nat.mod_lt _ M0.out) (Nat.mod_lt _ M0.out) VM.out).mono ?_
      rintro e y8 ⟨p8, n8, c8, rfl, hr, hg⟩
      clear hk
      replace H := H.grow hg
      replace H := H.num hr
      clear hr hg
      refine hK.out _ _ ?_; clear hK K
      (try simp only [Act.put, List.getElem_toArray, List.getElem_cons_zero, List.getElem_cons_succ, List.setIfInBounds_toArray, List.set_cons_zero, List.set_cons_succ])
      have hk := H.c
      simp only [Kr.Cells] at hk
      refine Kr.seqS (fun K hK => ?_)
      go_simp
      clear hk
      obtain ⟨y9, hy⟩ : ∃ y, y8.setCell ⟨bo, 0, none⟩ (.slice p8 n8 c8) = y := ⟨_, rfl⟩
      rw [hy]
      replace H := H.store 0 hy rfl rfl
      dsimp only [List.set] at H
      clear hy
      refine hK.out _ _ ?_; clear hK K
      (try simp only [Act.put, List.getElem_toArray, List.getElem_cons_zero, List.getElem_cons_succ, List.setIfInBounds_toArray, List.set_cons_zero, List.set_cons_succ])
      refine Kr.seqDone ?_
      cases hbt : y.testBit j with
      | false =>
        have HBT := Lib.hid hbt
        clear hbt
        go_upto_region 6 with fail
        refine Kr.seqStart ?_
        have hk := H.c
        simp only [Kr.Cells] at hk
        iterate 2 (refine Kr.seqP (v := ?_) (by rfl) ?_ ?_; rotate_left; (focus (go_simp; first | done | rfl)); (try simp only [Act.put, List.getElem_toArray, List.getElem_cons_zero, List.getElem_cons_succ, List.setIfInBounds_toArray, List.set_cons_zero, List.set_cons_succ]))
        refine Kr.seqS (fun K hK => ?_)
        go_simp
        go_at_call 75
        refine (bit3_v _ _ _ j _ _ HJ.out (H.nw 3 rfl)).mono ?_
        rintro e y10 ⟨rfl, hg⟩
        rw [HBT.out]
        clear hk
        replace H := H.grow hg
        clear hg
        refine hK.out _ _ ?_; clear hK K
        (try simp only [Act.put, List.getElem_toArray, List.getElem_cons_zero, List.getElem_cons_succ, List.setIfInBounds_toArray, List.set_cons_zero, List.set_cons_succ])
        refine Kr.seqDone ?_
        go_upto_region 4 with fail
        refine Kr.seqStart ?_
        iterate 3 (refine Kr.seqP (v := ?_) (by rfl) ?_ ?_; rotate_left; (focus (go_simp; first | done | rfl)); (try simp only [Act.put, List.getElem_toArray, List.getElem_cons_zero, List.getElem_cons_succ, List.setIfInBounds_toArray, List.set_cons_zero, List.set_cons_succ]))
        refine Kr.seqDone ?_
        go_wp2
        go_roundw
        case rel =>
          refine ⟨j, p8, n8, c8, by omega, ?_, Lib.hid (by rw [← mulm_0 HBT.out]; exact H.pick [0, 2, 3, 4] rfl)⟩
          rcases Nat.eq_zero_or_pos j with h0 | h0
          · exact .inl ⟨h0, by subst h0; rfl⟩
          · exact .inr ⟨j - 1, by omega, by congr 1; omega⟩
        case measure => (simp [intOf] <;> omega)
      | true =>
        have HBT := Lib.hid hbt
        clear hbt
        go_upto_region 6 with fail
        refine Kr.seqStart ?_
        have hk := H.c
        simp only [Kr.Cells] at hk
        iterate 2 (refine Kr.seqP (v := ?_) (by rfl) ?_ ?_; rotate_left; (focus (go_simp; first | done | rfl)); (try simp only [Act.put, List.getElem_toArray, List.getElem_cons_zero, List.getElem_cons_succ, List.setIfInBounds_toArray, List.set_cons_zero, List.set_cons_succ]))
        refine Kr.seqS (fun K hK => ?_)
        go_simp
        go_at_call 75
        refine (bit3_v _ _ _ j _ _ HJ.out (H.nw 3 rfl)).mono ?_
        rintro e y11 ⟨rfl, hg⟩
        rw [HBT.out]
        clear hk
        replace H := H.grow hg
        clear hg
        refine hK.out _ _ ?_; clear hK K
        (try simp only [Act.put, List.getElem_toArray, List.getElem_cons_zero, List.getElem_cons_succ, List.setIfInBounds_toArray, List.set_cons_zero, List.set_cons_succ])
        refine Kr.seqDone ?_
        go_upto_region 7 with fail
        refine Kr.seqStart ?_
        have hk := H.c
        simp only [Kr.Cells] at hk
        iterate 3 (refine Kr.seqP (v := ?_) (by rfl) ?_ ?_; rotate_left; (focus (go_simp; first | done | rfl)); (try simp only [Act.put, List.getElem_toArray, List.getElem_cons_zero, List.getElem_cons_succ, List.setIfInBounds_toArray, List.set_cons_zero, List.set_cons_succ]))
        refine Kr.seqS (fun K hK => ?_)
        go_simp
        go_at_call 76
        refine (radd3_v (H.nw 0 rfl) (H.nw 2 rfl) (H.nw 4 rfl) (Nat.mod_lt _ M0.out) HX.out VM.out).mono ?_
        rintro e y12 ⟨p12, n12, c12, rfl, hr, hg⟩
        clear hk
        replace H := H.grow hg
        replace H := H.num hr
        clear hr hg
        refine hK.out _ _ ?_; clear hK K
        (try simp only [Act.put, List.getElem_toArray, List.getElem_cons_zero, List.getElem_cons_succ, List.setIfInBounds_toArray, List.set_cons_zero, List.set_cons_succ])
        have hk := H.c
        simp only [Kr.Cells] at hk
        refine Kr.seqS (fun K hK => ?_)
        go_simp
        clear hk
        obtain ⟨y13, hy⟩ : ∃ y, y12.setCell ⟨bo, 0, none⟩ (.slice p12 n12 c12) = y := ⟨_, rfl⟩
        rw [hy]
        replace H := H.store 0 hy rfl rfl
        dsimp only [List.set] at H
        clear hy
        refine hK.out _ _ ?_; clear hK K
        (try simp only [Act.put, List.getElem_toArray, List.getElem_cons_zero, List.getElem_cons_succ, List.setIfInBounds_toArray, List.set_cons_zero, List.set_cons_succ])
        refine Kr.seqDone ?_
        go_upto_region 4 with fail
        refine Kr.seqStart ?_
        iterate 3 (refine Kr.seqP (v := ?_) (by rfl) ?_ ?_; rotate_left; (focus (go_simp; first | done | rfl)); (try simp only [Act.put, List.getElem_toArray, List.getElem_cons_zero, List.getElem_cons_succ, List.setIfInBounds_toArray, List.set_cons_zero, List.set_cons_succ]))
        refine Kr.seqDone ?_
        go_wp2
        go_roundw
        case rel =>
          refine ⟨j, p12, n12, c12, by omega, ?_, Lib.hid (by rw [← mulm_1 HBT.out]; exact H.pick [0, 3, 4, 5] rfl)⟩
          rcases Nat.eq_zero_or_pos j with h0 | h0
          · exact .inl ⟨h0, by subst h0; rfl⟩
          · exact .inr ⟨j - 1, by omega, by congr 1; omega⟩
        case measure => (simp [intOf] <;> omega)
set_option linter.unusedSimpArgs false in
set_option maxRecDepth 100000 in
set_option maxHeartbeats 16000000 in
theorem rmod3_one {pa : Option Addr} {na ca : Nat} {pm : Option Addr} {nm cm : Nat} {x : Nat} {w : World} (ha : Nw w pa na ca (digs x)) (hm : Nw w pm nm cm (digs 1)) :
    Calls Tryd.prog 72 #[.agg #[.slice pa na ca], .agg #[.slice pm nm cm]] w (Has (x % 1) w) := by
  have H := Sta.start w
  replace H := H.num ha
  replace H := H.num hm
  go_enter Tryd.func72, Tryd.ntmps72
  go_upto_region 0 with fail
  refine Kr.seqStart ?_
  refine Kr.seqS (fun K hK => ?_)
  go_simp
  obtain ⟨y1, hy⟩ : ∃ y, w.alloc (.cells #[.slice pa na ca] 43) = y := ⟨_, rfl⟩
  obtain ⟨ba, hb⟩ : ∃ b, w.heap.size = b := ⟨_, rfl⟩
  rw [hy, hb]
  replace H := H.alloc hy hb rfl
  clear hy hb
  refine hK.out _ _ ?_; clear hK K
  (try simp only [Act.put, List.getElem_toArray, List.getElem_cons_zero, List.getElem_cons_succ, List.setIfInBounds_toArray, List.set_cons_zero, List.set_cons_succ])
  refine Kr.seqS (fun K hK => ?_)
  go_simp
  obtain ⟨y2, hy⟩ : ∃ y, y1.alloc (.cells #[.slice pm nm cm] 43) = y := ⟨_, rfl⟩
  obtain ⟨bm, hb⟩ : ∃ b, y1.heap.size = b := ⟨_, rfl⟩
  rw [hy, hb]
  replace H := H.alloc hy hb rfl
  clear hy hb
  refine hK.out _ _ ?_; clear hK K
  (try simp only [Act.put, List.getElem_toArray, List.getElem_cons_zero, List.getElem_cons_succ, List.setIfInBounds_toArray, List.set_cons_zero, List.set_cons_succ])
  refine Kr.seqS (fun K hK => ?_)
  go_simp
  obtain ⟨y3, hy⟩ : ∃ y, y2.alloc (.cells #[.slice none 0 0] 43) = y := ⟨_, rfl⟩
  obtain ⟨br, hb⟩ : ∃ b, y2.heap.size = b := ⟨_, rfl⟩
  rw [hy, hb]
  replace H := H.alloc hy hb rfl
  clear hy hb
  refine hK.out _ _ ?_; clear hK K
  (try simp only [Act.put, List.getElem_toArray, List.getElem_cons_zero, List.getElem_cons_succ, List.setIfInBounds_toArray, List.set_cons_zero, List.set_cons_succ])
  refine Kr.seqDone ?_
  go_upto_region 1 with fail
  refine Kr.seqStart ?_
  refine Kr.seqS (fun K hK => ?_)
  go_simp
  go_at_call 73
  refine (of3_v 1 (by decide) _).mono ?_
  rintro e y4 ⟨p4, n4, c4, rfl, hr, hg⟩
  replace H := H.grow hg
  replace H := H.num hr.toNw
  clear hr hg
  refine hK.out _ _ ?_; clear hK K
  (try simp only [Act.put, List.getElem_toArray, List.getElem_cons_zero, List.getElem_cons_succ, List.setIfInBounds_toArray, List.set_cons_zero, List.set_cons_succ])
  refine Kr.seqS (fun K hK => ?_)
  go_simp
  obtain ⟨y5, hy⟩ : ∃ y, y4.alloc (.cells #[.slice none 0 0] 43) = y := ⟨_, rfl⟩
  obtain ⟨bi, hb⟩ : ∃ b, y4.heap.size = b := ⟨_, rfl⟩
  rw [hy, hb]
  replace H := H.alloc hy hb rfl
  clear hy hb
  refine hK.out _ _ ?_; clear hK K
  (try simp only [Act.put, List.getElem_toArray, List.getElem_cons_zero, List.getElem_cons_succ, List.setIfInBounds_toArray, List.set_cons_zero, List.set_cons_succ])
  have hk := H.c
  simp only [Kr.Cells] at hk
  refine Kr.seqS (fun K hK => ?_)
  go_simp
  clear hk
  obtain ⟨y6, hy⟩ : ∃ y, y5.setCell ⟨bi, 0, none⟩ (.slice p4 n4 c4) = y := ⟨_, rfl⟩
  rw [hy]
  replace H := H.store 0 hy rfl rfl
  dsimp only [List.set] at H
  clear hy
  refine hK.out _ _ ?_; clear hK K
  (try simp only [Act.put, List.getElem_toArray, List.getElem_cons_zero, List.getElem_cons_succ, List.setIfInBounds_toArray, List.set_cons_zero, List.set_cons_succ])
  refine Kr.seqDone ?_
  go_upto_region 2 with fail
  refine Kr.seqStart ?_
  refine Kr.seqS (fun K hK => ?_)
  go_simp
  obtain ⟨y7, hy⟩ : ∃ y, y6.alloc (.cells #[.slice none 0 0] 43) = y := ⟨_, rfl⟩
  obtain ⟨bo, hb⟩ : ∃ b, y6.heap.size = b := ⟨_, rfl⟩
  rw [hy, hb]
  replace H := H.alloc hy hb rfl
  clear hy hb
  refine hK.out _ _ ?_; clear hK K
  (try simp only [Act.put, List.getElem_toArray, List.getElem_cons_zero, List.getElem_cons_succ, List.setIfInBounds_toArray, List.set_cons_zero, List.set_cons_succ])
  refine Kr.seqDone ?_
  go_upto_region 3 with fail
  refine Kr.seqStart ?_
  have hk := H.c
  simp only [Kr.Cells] at hk
  iterate 2 (refine Kr.seqP (v := ?_) (by rfl) ?_ ?_; rotate_left; (focus (go_simp; first | done | rfl)); (try simp only [Act.put, List.getElem_toArray, List.getElem_cons_zero, List.getElem_cons_succ, List.setIfInBounds_toArray, List.set_cons_zero, List.set_cons_succ]))
  refine Kr.seqS (fun K hK => ?_)
  go_simp
  go_at_call 95
  refine (same3r_v (H.nw 1 rfl) (H.nw 0 rfl)).mono ?_
  rintro e y8 ⟨rfl, hg⟩
  rw [decide_eq_true rfl]
  clear hk
  replace H := H.grow hg
  clear hg
  refine hK.out _ _ ?_; clear hK K
  (try simp only [Act.put, List.getElem_toArray, List.getElem_cons_zero, List.getElem_cons_succ, List.setIfInBounds_toArray, List.set_cons_zero, List.set_cons_succ])
  refine Kr.seqDone ?_
  go_upto_region 4 with fail
  refine Kr.seqStart ?_
  have hk := H.c
  simp only [Kr.Cells] at hk
  (refine Kr.seqP (v := ?_) (by rfl) ?_ ?_; rotate_left; (focus (go_simp; first | done | rfl)); (try simp only [Act.put, List.getElem_toArray, List.getElem_cons_zero, List.getElem_cons_succ, List.setIfInBounds_toArray, List.set_cons_zero, List.set_cons_succ]))
  refine Kr.seqS (fun K hK => ?_)
  go_simp
  clear hk
  obtain ⟨y9, hy⟩ : ∃ y, y8.setCell ⟨br, 0, none⟩ (.slice none 0 0) = y := ⟨_, rfl⟩
  rw [hy]
  replace H := H.store 2 hy rfl rfl
  dsimp only [List.set] at H
  clear hy
  refine hK.out _ _ ?_; clear hK K
  (try simp only [Act.put, List.getElem_toArray, List.getElem_cons_zero, List.getElem_cons_succ, List.setIfInBounds_toArray, List.set_cons_zero, List.set_cons_succ])
  refine Kr.seqDone ?_
  have hk := H.c
  simp only [Kr.Cells] at hk
  go_wp2
  refine bodyPost_ret (v := .agg #[.slice none 0 0]) (by simp [results, Tryd.results72, go_sem, hk]) rfl ⟨none, 0, 0, rfl, by rw [Nat.mod_one]; exact nw_none _, H.g⟩
set_option linter.unusedSimpArgs false in
set_option maxRecDepth 100000 in
set_option maxHeartbeats 16000000 in
theorem rmod3_big {pa : Option Addr} {na ca : Nat} {pm : Option Addr} {nm cm : Nat} {x m : Nat} {w : World} (ha : Nw w pa na ca (digs x)) (hm : Nw w pm nm cm (digs m)) (vx : x < pw 1000) (h1 : 1 < m) (vm : m < pw 900) :
    Calls Tryd.prog 72 #[.agg #[.slice pa na ca], .agg #[.slice pm nm cm]] w (Has (x % m) w) := by
  have VX := Lib.hid vx
  have H1 := Lib.hid h1
  have VM := Lib.hid vm
  have M0 : Hid (0 < m) := Lib.hid (Nat.lt_trans Nat.zero_lt_one h1)
  clear vx h1 vm
  have H := Sta.start w
  replace H := H.num ha
  replace H := H.num hm
  go_enter Tryd.func72, Tryd.ntmps72
  go_upto_region 0 with fail
  refine Kr.seqStart ?_
  refine Kr.seqS (fun K hK => ?_)
  go_simp
  obtain ⟨y1, hy⟩ : ∃ y, w.alloc (.cells #[.slice pa na ca] 43) = y := ⟨_, rfl⟩
  obtain ⟨ba, hb⟩ : ∃ b, w.heap.size = b := ⟨_, rfl⟩
  rw [hy, hb]
  replace H := H.alloc hy hb rfl
  clear hy hb
  refine hK.out _ _ ?_; clear hK K
  (try simp only [Act.put, List.getElem_toArray, List.getElem_cons_zero, List.getElem_cons_succ, List.setIfInBounds_toArray, List.set_cons_zero, List.set_cons_succ])
  refine Kr.seqS (fun K hK => ?_)
  go_simp
  obtain ⟨y2, hy⟩ : ∃ y, y1.alloc (.cells #[.slice pm nm cm] 43) = y := ⟨_, rfl⟩
  obtain ⟨bm, hb⟩ : ∃ b, y1.heap.size = b := ⟨_, rfl⟩
  rw [hy, hb]
  replace H := H.alloc hy hb rfl
  clear hy hb
  refine hK.out _ _ ?_; clear hK K
  (try simp only [Act.put, List.getElem_toArray, List.getElem_cons_zero, List.getElem_cons_succ, List.setIfInBounds_toArray, List.set_cons_zero, List.set_cons_succ])
  refine Kr.seqS (fun K hK => ?_)
  go_simp
  obtain ⟨y3, hy⟩ : ∃ y, y2.alloc (.cells #[.slice none 0 0] 43) = y := ⟨_, rfl⟩
  obtain ⟨br, hb⟩ : ∃ b, y2.heap.size = b := ⟨_, rfl⟩
  rw [hy, hb]
  replace H := H.alloc hy hb rfl
  clear hy hb
  refine hK.out _ _ ?_; clear hK K
  (try simp only [Act.put, List.getElem_toArray, List.getElem_cons_zero, List.getElem_cons_succ, List.setIfInBounds_toArray, List.set_cons_zero, List.set_cons_succ])
  refine Kr.seqDone ?_
  go_upto_region 1 with fail
  refine Kr.seqStart ?_
  refine Kr.seqS (fun K hK => ?_)
  go_simp
  go_at_call 73
  refine (of3_v 1 (by decide) _).mono ?_
  rintro e y4 ⟨p4, n4, c4, rfl, hr, hg⟩
  replace H := H.grow hg
  replace H := H.num hr.toNw
  clear hr hg
  refine hK.out _ _ ?_; clear hK K
  (try simp only [Act.put, List.getElem_toArray, List.getElem_cons_zero, List.getElem_cons_succ, List.setIfInBounds_toArray, List.set_cons_zero, List.set_cons_succ])
  refine Kr.seqS (fun K hK => ?_)
  go_simp
  obtain ⟨y5, hy⟩ : ∃ y, y4.alloc (.cells #[.slice none 0 0] 43) = y := ⟨_, rfl⟩
  obtain ⟨bi, hb⟩ : ∃ b, y4.heap.size = b := ⟨_, rfl⟩
  rw [hy, hb]
  replace H := H.alloc hy hb rfl
  clear hy hb
  refine hK.out _ _ ?_; clear hK K
  (try simp only [Act.put, List.getElem_toArray, List.getElem_cons_zero, List.getElem_cons_succ, List.setIfInBounds_toArray, List.set_cons_zero, List.set_cons_succ])
  have hk := H.c
  simp only [Kr.Cells] at hk
  refine Kr.seqS (fun K hK => ?_)
  go_simp
  clear hk
  obtain ⟨y6, hy⟩ : ∃ y, y5.setCell ⟨bi, 0, none⟩ (.slice p4 n4 c4) = y := ⟨_, rfl⟩
  rw [hy]
  replace H := H.store 0 hy rfl rfl
  dsimp only [List.set] at H
  clear hy
  refine hK.out _ _ ?_; clear hK K
  (try simp only [Act.put, List.getElem_toArray, List.getElem_cons_zero, List.getElem_cons_succ, List.setIfInBounds_toArray, List.set_cons_zero, List.set_cons_succ])
  refine Kr.seqDone ?_
  go_upto_region 2 with fail
  refine Kr.seqStart ?_
  refine Kr.seqS (fun K hK => ?_)
  go_simp
  obtain ⟨y7, hy⟩ : ∃ y, y6.alloc (.cells #[.slice none 0 0] 43) = y := ⟨_, rfl⟩
  obtain ⟨bo, hb⟩ : ∃ b, y6.heap.size = b := ⟨_, rfl⟩
  rw [hy, hb]
  replace H := H.alloc hy hb rfl
  clear hy hb
  refine hK.out _ _ ?_; clear hK K
  (try simp only [Act.put, List.getElem_toArray, List.getElem_cons_zero, List.getElem_cons_succ, List.setIfInBounds_toArray, List.set_cons_zero, List.set_cons_succ])
  refine Kr.seqDone ?_
  go_upto_region 3 with fail
  refine Kr.seqStart ?_
  have hk := H.c
  simp only [Kr.Cells] at hk
  iterate 2 (refine Kr.seqP (v := ?_) (by rfl) ?_ ?_; rotate_left; (focus (go_simp; first | done | rfl)); (try simp only [Act.put, List.getElem_toArray, List.getElem_cons_zero, List.getElem_cons_succ, List.setIfInBounds_toArray, List.set_cons_zero, List.set_cons_succ]))
  refine Kr.seqS (fun K hK => ?_)
  go_simp
  go_at_call 95
  refine (same3r_v (H.nw 1 rfl) (H.nw 0 rfl)).mono ?_
  rintro e y8 ⟨rfl, hg⟩
  rw [decide_eq_false (Nat.ne_of_gt H1.out)]
  clear hk
  replace H := H.grow hg
  clear hg
  refine hK.out _ _ ?_; clear hK K
  (try simp only [Act.put, List.getElem_toArray, List.getElem_cons_zero, List.getElem_cons_succ, List.setIfInBounds_toArray, List.set_cons_zero, List.set_cons_succ])
  refine Kr.seqDone ?_
  obtain ⟨B, hB⟩ : ∃ B, Nv.nb (x) = B := ⟨_, rfl⟩
  have HNB := Lib.hid hB
  have hb : B ≤ 32 * 1000 := by rw [← hB]; exact nb_small VX.out
  have hW : IntKind.i64.wrap ((B : Int) - 1) = (B : Int) - 1 := IntWalk.i64_in _ (by omega)
  have HZ : Hid (x / 2 ^ B = 0) := Lib.hid (by rw [← hB]; exact nb_zero _)
  clear hB
  go_upto_region 5 with fail
  refine Kr.seqStart ?_
  have hk := H.c
  simp only [Kr.Cells] at hk
  (refine Kr.seqP (v := ?_) (by rfl) ?_ ?_; rotate_left; (focus (go_simp; first | done | rfl)); (try simp only [Act.put, List.getElem_toArray, List.getElem_cons_zero, List.getElem_cons_succ, List.setIfInBounds_toArray, List.set_cons_zero, List.set_cons_succ]))
  refine Kr.seqS (fun K hK => ?_)
  go_simp
  go_at_call 74
  refine (bits3_v _ _ _ _ _ (H.nw 2 rfl)).mono ?_
  rintro e y9 ⟨rfl, hg⟩
  rw [HNB.out]
  clear hk
  replace H := H.grow hg
  clear hg
  refine hK.out _ _ ?_; clear hK K
  (try simp only [Act.put, List.getElem_toArray, List.getElem_cons_zero, List.getElem_cons_succ, List.setIfInBounds_toArray, List.set_cons_zero, List.set_cons_succ])
  iterate 2 (refine Kr.seqP (v := ?_) (by rfl) ?_ ?_; rotate_left; (focus (go_simp; first | done | rfl)); (try simp only [Act.put, List.getElem_toArray, List.getElem_cons_zero, List.getElem_cons_succ, List.setIfInBounds_toArray, List.set_cons_zero, List.set_cons_succ]))
  refine Kr.seqDone ?_
  replace H := H.num (nw_none _)
  have H2 : Hid (Sta w y9 [(bo, 0, .slice none 0 0), (bi, 0, .slice p4 n4 c4), (br, 0, .slice none 0 0), (bm, 0, .slice pm nm cm), (ba, 0, .slice pa na ca)] [N none 0 0 (x / 2 ^ B % m), N pa na ca (x), N pm nm cm (m), N p4 n4 c4 (1)]) := Lib.hid (by rw [HZ.out, Nat.zero_mod]; exact H.pick [0, 3, 2, 1] rfl)
  go_wp2
  go_loopw [7] (fun i wr => ∃ (k : Nat) (pz0 : Option Addr) (nz0 cz0 : Nat), k ≤ B ∧ (k = 0 ∧ i = .int .i64 (-1) ∨ ∃ j : Nat, k = j + 1 ∧ i = .int .i64 (j : Int)) ∧ Hid (Sta w wr [(bo, 0, .slice pz0 nz0 cz0), (bi, 0, .slice p4 n4 c4), (br, 0, .slice none 0 0), (bm, 0, .slice pm nm cm), (ba, 0, .slice pa na ca)] [N pz0 nz0 cz0 (x / 2 ^ k % m), N pa na ca (x), N pm nm cm (m), N p4 n4 c4 (1)])) (fun i _ => (intOf i + 1).toNat)
  case atStart =>
    refine ⟨B, _, _, _, Nat.le_refl _, ?_, H2⟩
    rcases Nat.eq_zero_or_pos B with h0 | h0
    · exact .inl ⟨h0, by subst h0; rfl⟩
    · exact .inr ⟨B - 1, by omega, by congr 1; omega⟩
  case round =>
    clear H H2 hW
    obtain ⟨k, pz0, nz0, cz0, hk, hik, HH⟩ := hrel
    rcases hik with ⟨rfl, rfl⟩ | ⟨j, rfl, rfl⟩
    · have H := HH.out
      clear HH
      go_upto_region 11 with fail
      refine Kr.seqStart ?_
      have hk := H.c
      simp only [Kr.Cells] at hk
      (refine Kr.seqP (v := ?_) (by rfl) ?_ ?_; rotate_left; (focus (go_simp; first | done | rfl)); (try simp only [Act.put, List.getElem_toArray, List.getElem_cons_zero, List.getElem_cons_succ, List.setIfInBounds_toArray, List.set_cons_zero, List.set_cons_succ]))
      refine Kr.seqS (fun K hK => ?_)
      go_simp
      clear hk
      obtain ⟨y10, hy⟩ : ∃ y, wr.setCell ⟨br, 0, none⟩ (.slice pz0 nz0 cz0) = y := ⟨_, rfl⟩
      rw [hy]
      replace H := H.store 2 hy rfl rfl
      dsimp only [List.set] at H
      clear hy
      refine hK.out _ _ ?_; clear hK K
      (try simp only [Act.put, List.getElem_toArray, List.getElem_cons_zero, List.getElem_cons_succ, List.setIfInBounds_toArray, List.set_cons_zero, List.set_cons_succ])
      refine Kr.seqDone ?_
      have hk := H.c
      simp only [Kr.Cells] at hk
      go_wp2
      refine bodyPost_ret (v := .agg #[.slice pz0 nz0 cz0]) (by simp [results, Tryd.results72, go_sem, hk]) rfl ⟨pz0, nz0, cz0, rfl, by have h := (H.nw 0 rfl); rwa [Nat.pow_zero, Nat.div_one] at h, H.g⟩
    · have H := HH.out
      clear HH
      have hW : IntKind.i64.wrap ((j : Int) - 1) = (j : Int) - 1 := IntWalk.i64_in _ (by omega)
      have hj0 : (0 : Int) ≤ (j : Int) := by omega
      have HJ : Hid (j < 9223372036854775808) := Lib.hid (by omega)
      go_upto_region 8 with fail
      refine Kr.seqStart ?_
      have hk := H.c
      simp only [Kr.Cells] at hk
      iterate 3 (refine Kr.seqP (v := ?_) (by rfl) ?_ ?_; rotate_left; (focus (go_simp; first | done | rfl)); (try simp only [Act.put, List.getElem_toArray, List.getElem_cons_zero, List.getElem_cons_succ, List.setIfInBounds_toArray, List.set_cons_zero, List.set_cons_succ]))
      refine Kr.seqS (fun K hK => ?_)
      go_simp
      go_at_call 76
      refine (radd3_v (H.nw 0 rfl) (H.nw 0 rfl) (H.nw 2 rfl) (Nat.mod_lt _ M0.out) (Nat.mod_lt _ M0.out) VM.out).mono ?_
      rintro e y11 ⟨p11, n11, c11, rfl, hr, hg⟩
      clear hk
      replace H := H.grow hg
      replace H := H.num hr
      clear hr hg
      refine hK.out _ _ ?_; clear hK K
      (try simp only [Act.put, List.getElem_toArray, List.getElem_cons_zero, List.getElem_cons_succ, List.setIfInBounds_toArray, List.set_cons_zero, List.set_cons_succ])
      have hk := H.c
      simp only [Kr.Cells] at hk
      refine Kr.seqS (fun K hK => ?_)
      go_simp
      clear hk
      obtain ⟨y12, hy⟩ : ∃ y, y11.setCell ⟨bo, 0, none⟩ (.slice p11 n11 c11) = y := ⟨_, rfl⟩
      rw [hy]
      replace H := H.store 0 hy rfl rfl
      dsimp only [List.set] at H
      clear hy
      refine hK.out _ _ ?_; clear hK K
      (try simp only [Act.put, List.getElem_toArray, List.getElem_cons_zero, List.getElem_cons_succ, List.setIfInBounds_toArray, List.set_cons_zero, List.set_cons_succ])
      refine Kr.seqDone ?_
      cases hbt : x.testBit j with
      | false =>
        have HBT := Lib.hid hbt
        clear hbt
        go_upto_region 9 with fail
        refine Kr.seqStart ?_
        have hk := H.c
        simp only [Kr.Cells] at hk
        iterate 2 (refine Kr.seqP (v := ?_) (by rfl) ?_ ?_; rotate_left; (focus (go_simp; first | done | rfl)); (try simp only [Act.put, List.getElem_toArray, List.getElem_cons_zero, List.getElem_cons_succ, List.setIfInBounds_toArray, List.set_cons_zero, List.set_cons_succ]))
        refine Kr.seqS (fun K hK => ?_)
        go_simp
        go_at_call 75
        refine (bit3_v _ _ _ j _ _ HJ.out (H.nw 2 rfl)).mono ?_
        rintro e y13 ⟨rfl, hg⟩
        rw [HBT.out]
        clear hk
        replace H := H.grow hg
        clear hg
        refine hK.out _ _ ?_; clear hK K
        (try simp only [Act.put, List.getElem_toArray, List.getElem_cons_zero, List.getElem_cons_succ, List.setIfInBounds_toArray, List.set_cons_zero, List.set_cons_succ])
        refine Kr.seqDone ?_
        go_upto_region 7 with fail
        refine Kr.seqStart ?_
        iterate 3 (refine Kr.seqP (v := ?_) (by rfl) ?_ ?_; rotate_left; (focus (go_simp; first | done | rfl)); (try simp only [Act.put, List.getElem_toArray, List.getElem_cons_zero, List.getElem_cons_succ, List.setIfInBounds_toArray, List.set_cons_zero, List.set_cons_succ]))
        refine Kr.seqDone ?_
        go_wp2
        go_roundw
        case rel =>
          refine ⟨j, p11, n11, c11, by omega, ?_, Lib.hid (by rw [← modm_0 HBT.out]; exact H.pick [0, 2, 3, 4] rfl)⟩
          rcases Nat.eq_zero_or_pos j with h0 | h0
          · exact .inl ⟨h0, by subst h0; rfl⟩
          · exact .inr ⟨j - 1, by omega, by congr 1; omega⟩
        case measure => (simp [intOf] <;> omega)
      | true =>
        have HBT := Lib.hid hbt
        clear hbt
        go_upto_region 9 with fail
        refine Kr.seqStart ?_
        have hk := H.c
        simp only [Kr.Cells] at hk
        iterate 2 (refine Kr.seqP (v := ?_) (by rfl) ?_ ?_; rotate_left; (focus (go_simp; first | done | rfl)); (try simp only [Act.put, List.getElem_toArray, List.getElem_cons_zero, List.getElem_cons_succ, List.setIfInBounds_toArray, List.set_cons_zero, List.set_cons_succ]))
        refine Kr.seqS (fun K hK => ?_)
        go_simp
        go_at_call 75
        refine (bit3_v _ _ _ j _ _ HJ.out (H.nw 2 rfl)).mono ?_
        rintro e y14 ⟨rfl, hg⟩
        rw [HBT.out]
        clear hk
        replace H := H.grow hg
        clear hg
        refine hK.out _ _ ?_; clear hK K
        (try simp only [Act.put, List.getElem_toArray, List.getElem_cons_zero, List.getElem_cons_succ, List.setIfInBounds_toArray, List.set_cons_zero, List.set_cons_succ])
        refine Kr.seqDone ?_
        go_upto_region 10 with fail
        refine Kr.seqStart ?_
        have hk := H.c
        simp only [Kr.Cells] at hk
        iterate 3 (refine Kr.seqP (v := ?_) (by rfl) ?_ ?_; rotate_left; (focus (go_simp; first | done | rfl)); (try simp only [Act.put, List.getElem_toArray, List.getElem_cons_zero, List.getElem_cons_succ, List.setIfInBounds_toArray, List.set_cons_zero, List.set_cons_succ]))
        refine Kr.seqS (fun K hK => ?_)
        go_simp
        go_at_call 76
        refine (radd3_v (H.nw 0 rfl) (H.nw 4 rfl) (H.nw 3 rfl) (Nat.mod_lt _ M0.out) H1.out VM.out).mono ?_
        rintro e y15 ⟨p15, n15, c15, rfl, hr, hg⟩
        clear hk
        replace H := H.grow hg
        replace H := H.num hr
        clear hr hg
        refine hK.out _ _ ?_; clear hK K
        (try simp only [Act.put, List.getElem_toArray, List.getElem_cons_zero, List.getElem_cons_succ, List.setIfInBounds_toArray, List.set_cons_zero, List.set_cons_succ])
        have hk := H.c
        simp only [Kr.Cells] at hk
        refine Kr.seqS (fun K hK => ?_)
        go_simp
        clear hk
        obtain ⟨y16, hy⟩ : ∃ y, y15.setCell ⟨bo, 0, none⟩ (.slice p15 n15 c15) = y := ⟨_, rfl⟩
        rw [hy]
        replace H := H.store 0 hy rfl rfl
        dsimp only [List.set] at H
        clear hy
        refine hK.out _ _ ?_; clear hK K
        (try simp only [Act.put, List.getElem_toArray, List.getElem_cons_zero, List.getElem_cons_succ, List.setIfInBounds_toArray, List.set_cons_zero, List.set_cons_succ])
        refine Kr.seqDone ?_
        go_upto_region 7 with fail
        refine Kr.seqStart ?_
        iterate 3 (refine Kr.seqP (v := ?_) (by rfl) ?_ ?_; rotate_left; (focus (go_simp; first | done | rfl)); (try simp only [Act.put, List.getElem_toArray, List.getElem_cons_zero, List.getElem_cons_succ, List.setIfInBounds_toArray, List.set_cons_zero, List.set_cons_succ]))
        refine Kr.seqDone ?_
        go_wp2
        go_roundw
        case rel =>
          refine ⟨j, p15, n15, c15, by omega, ?_, Lib.hid (by rw [← modm_1 HBT.out]; exact H.pick [0, 3, 4, 5] rfl)⟩
          rcases Nat.eq_zero_or_pos j with h0 | h0
          · exact .inl ⟨h0, by subst h0; rfl⟩
          · exact .inr ⟨j - 1, by omega, by congr 1; omega⟩
        case measure => (simp [intOf] <;> omega)
theorem rmod3_v {pa : Option Addr} {na ca : Nat} {pm : Option Addr} {nm cm : Nat} {x m : Nat} {w : World} (ha : Nw w pa na ca (digs x)) (hm : Nw w pm nm cm (digs m)) (vx : x < pw 1000) (h0 : 0 < m) (vm : m < pw 900) :
    Calls Tryd.prog 72 #[.agg #[.slice pa na ca], .agg #[.slice pm nm cm]] w (Has (x % m) w) := by
  by_cases h1 : m = 1
  · subst h1; exact rmod3_one ha hm
  · exact rmod3_big ha hm vx (by omega) vm
set_option linter.unusedSimpArgs false in
set_option maxRecDepth 100000 in
set_option maxHeartbeats 16000000 in
theorem rpow3_v {pa : Option Addr} {na ca : Nat} {pe : Option Addr} {ne ce : Nat} {pm : Option Addr} {nm cm : Nat} {x e m : Nat} {w : World} (ha : Nw w pa na ca (digs x)) (he : Nw w pe ne ce (digs e)) (hm : Nw w pm nm cm (digs m)) (hx : x < m) (ve : e < pw 1000) (vm : m < pw 900) :
    Calls Tryd.prog 51 #[.agg #[.slice pa na ca], .agg #[.slice pe ne ce], .agg #[.slice pm nm cm]] w (Has (x ^ e % m) w) := by
  have HX := Lib.hid hx
  have VE := Lib.hid ve
  have VM := Lib.hid vm
  have M0 : Hid (0 < m) := Lib.hid (Nat.lt_of_le_of_lt (Nat.zero_le _) hx)
  clear hx ve vm
  have H := Sta.start w
  replace H := H.num ha
  replace H := H.num he
  replace H := H.num hm
  go_enter Tryd.func51, Tryd.ntmps51
  go_upto_region 0 with fail
  refine Kr.seqStart ?_
  refine Kr.seqS (fun K hK => ?_)
  go_simp
  obtain ⟨y1, hy⟩ : ∃ y, w.alloc (.cells #[.slice pa na ca] 43) = y := ⟨_, rfl⟩
  obtain ⟨ba, hb⟩ : ∃ b, w.heap.size = b := ⟨_, rfl⟩
  rw [hy, hb]
  replace H := H.alloc hy hb rfl
  clear hy hb
  refine hK.out _ _ ?_; clear hK K
  (try simp only [Act.put, List.getElem_toArray, List.getElem_cons_zero, List.getElem_cons_succ, List.setIfInBounds_toArray, List.set_cons_zero, List.set_cons_succ])
  refine Kr.seqS (fun K hK => ?_)
  go_simp
  obtain ⟨y2, hy⟩ : ∃ y, y1.alloc (.cells #[.slice pe ne ce] 43) = y := ⟨_, rfl⟩
  obtain ⟨be, hb⟩ : ∃ b, y1.heap.size = b := ⟨_, rfl⟩
  rw [hy, hb]
  replace H := H.alloc hy hb rfl
  clear hy hb
  refine hK.out _ _ ?_; clear hK K
  (try simp only [Act.put, List.getElem_toArray, List.getElem_cons_zero, List.getElem_cons_succ, List.setIfInBounds_toArray, List.set_cons_zero, List.set_cons_succ])
  refine Kr.seqS (fun K hK => ?_)
  go_simp
  obtain ⟨y3, hy⟩ : ∃ y, y2.alloc (.cells #[.slice pm nm cm] 43) = y := ⟨_, rfl⟩
  obtain ⟨bm, hb⟩ : ∃ b, y2.heap.size = b := ⟨_, rfl⟩
  rw [hy, hb]
  replace H := H.alloc hy hb rfl
  clear hy hb
  refine hK.out _ _ ?_; clear hK K
  (try simp only [Act.put, List.getElem_toArray, List.getElem_cons_zero, List.getElem_cons_succ, List.setIfInBounds_toArray, List.set_cons_zero, List.set_cons_succ])
  refine Kr.seqS (fun K hK => ?_)
  go_simp
  obtain ⟨y4, hy⟩ : ∃ y, y3.alloc (.cells #[.slice none 0 0] 43) = y := ⟨_, rfl⟩
  obtain ⟨br, hb⟩ : ∃ b, y3.heap.size = b := ⟨_, rfl⟩
  rw [hy, hb]
  replace H := H.alloc hy hb rfl
  clear hy hb
  refine hK.out _ _ ?_; clear hK K
  (try simp only [Act.put, List.getElem_toArray, List.getElem_cons_zero, List.getElem_cons_succ, List.setIfInBounds_toArray, List.set_cons_zero, List.set_cons_succ])
  refine Kr.seqDone ?_
  go_upto_region 1 with fail
  go_cut [7] from 9 to 11 (fun s7 W => ∃ (bo : Nat) (p15 : Option Addr) (n15 c15 : Nat) (p14 : Option Addr) (n14 c14 : Nat), s7 = .pointer (some ⟨bo, 0, none⟩) ∧ Hid (Sta w W [(bo, 0, .slice p15 n15 c15), (br, 0, .slice none 0 0), (bm, 0, .slice pm nm cm), (be, 0, .slice pe ne ce), (ba, 0, .slice pa na ca)] [N p15 n15 c15 (1 % m), N p14 n14 c14 (1), N pm nm cm (m), N pe ne ce (e), N pa na ca (x)]))
  case first =>
    refine Kr.startL (fun W' => Kr.Cells W' [(bm, 0, .slice pm nm cm)]) [] (by kernel_rfl) ?_
    have gd : Gr y4 y4.drew := (Gr.refl _).drew
    generalize y4.drew = d5 at gd ⊢
    replace H := H.grow gd
    clear gd
    (refine Kr.tS 1 [] (v := ?_) rfl (by kernel_rfl) (fun _ _ _ h => h) (by rfl) (H.sub [1] rfl) (fun wx hSx => ?_) ?_; rotate_left; (focus (simp only [Kr.Cells] at hSx; go_simp; first | done | rfl)); (try simp only [Act.put, List.getElem_toArray, List.getElem_cons_zero, List.getElem_cons_succ, List.setIfInBounds_toArray, List.set_cons_zero, List.set_cons_succ]))
    refine Kr.readyL (rs := [0, 3]) (by kernel_rfl) (by simp) ?_
    refine Kr.AllL.cons rfl (fun K hK => ?_) ?_
    · go_simp
      go_at_call 73
      refine (of3_v 1 (by decide) _).mono ?_
      rintro e y6 ⟨p6, n6, c6, rfl, hr, hg⟩
      replace H := H.grow hg
      replace H := H.num hr.toNw
      clear hr hg
      refine hK.out _ _ (fun _ => (H.sub [1] rfl)) ?_; clear hK K
      (try simp only [Act.put, List.getElem_toArray, List.getElem_cons_zero, List.getElem_cons_succ, List.setIfInBounds_toArray, List.set_cons_zero, List.set_cons_succ])
      refine Kr.readyL (rs := [2, 3]) (by kernel_rfl) (by simp) ?_
      refine Kr.AllL.cons rfl (fun K hK => ?_) ?_
      · go_simp
        go_at_call 72
        refine (rmod3_v (H.nw 0 rfl) (H.nw 1 rfl) (pw_pos' 999) M0.out VM.out).mono ?_
        rintro e y7 ⟨p7, n7, c7, rfl, hr, hg⟩
        replace H := H.grow hg
        replace H := H.num hr
        clear hr hg
        refine hK.out _ _ (fun _ => (H.sub [1] rfl)) ?_; clear hK K
        (try simp only [Act.put, List.getElem_toArray, List.getElem_cons_zero, List.getElem_cons_succ, List.setIfInBounds_toArray, List.set_cons_zero, List.set_cons_succ])
        refine Kr.readyL (rs := [3]) (by kernel_rfl) (by simp) ?_
        refine Kr.AllL.cons rfl (fun K hK => ?_) Kr.AllL.nil
        go_simp
        obtain ⟨y8, hy⟩ : ∃ y, y7.alloc (.cells #[.slice none 0 0] 43) = y := ⟨_, rfl⟩
        obtain ⟨bo, hb⟩ : ∃ b, y7.heap.size = b := ⟨_, rfl⟩
        rw [hy, hb]
        replace H := H.alloc hy hb rfl
        clear hy hb
        refine hK.out _ _ (fun _ => (H.sub [2] rfl)) ?_; clear hK K
        (try simp only [Act.put, List.getElem_toArray, List.getElem_cons_zero, List.getElem_cons_succ, List.setIfInBounds_toArray, List.set_cons_zero, List.set_cons_succ])
        refine Kr.readyL (rs := [4]) (by kernel_rfl) (by simp) ?_
        refine Kr.AllL.cons rfl (fun K hK => ?_) Kr.AllL.nil
        have hk := H.c
        simp only [Kr.Cells] at hk
        go_simp
        clear hk
        obtain ⟨y9, hy⟩ : ∃ y, y8.setCell ⟨bo, 0, none⟩ (.slice p7 n7 c7) = y := ⟨_, rfl⟩
        rw [hy]
        replace H := H.store 0 hy rfl rfl
        dsimp only [List.set] at H
        clear hy
        refine hK.out _ _ (fun _ => (H.sub [2] rfl)) ?_; clear hK K
        (try simp only [Act.put, List.getElem_toArray, List.getElem_cons_zero, List.getElem_cons_succ, List.setIfInBounds_toArray, List.set_cons_zero, List.set_cons_succ])
        refine Kr.doneL (by kernel_rfl) ?_ _
        go_wp2_with fail
        go_meet
        exact ⟨_, _, _, _, _, _, _, rfl, Lib.hid H⟩
      refine Kr.AllL.cons rfl (fun K hK => ?_) Kr.AllL.nil
      go_simp
      obtain ⟨y10, hy⟩ : ∃ y, y6.alloc (.cells #[.slice none 0 0] 43) = y := ⟨_, rfl⟩
      obtain ⟨bo, hb⟩ : ∃ b, y6.heap.size = b := ⟨_, rfl⟩
      rw [hy, hb]
      replace H := H.alloc hy hb rfl
      clear hy hb
      refine hK.out _ _ (fun _ => (H.sub [2] rfl)) ?_; clear hK K
      (try simp only [Act.put, List.getElem_toArray, List.getElem_cons_zero, List.getElem_cons_succ, List.setIfInBounds_toArray, List.set_cons_zero, List.set_cons_succ])
      refine Kr.readyL (rs := [2]) (by kernel_rfl) (by simp) ?_
      refine Kr.AllL.cons rfl (fun K hK => ?_) Kr.AllL.nil
      go_simp
      go_at_call 72
      refine (rmod3_v (H.nw 0 rfl) (H.nw 1 rfl) (pw_pos' 999) M0.out VM.out).mono ?_
      rintro e y11 ⟨p11, n11, c11, rfl, hr, hg⟩
      replace H := H.grow hg
      replace H := H.num hr
      clear hr hg
      refine hK.out _ _ (fun _ => (H.sub [2] rfl)) ?_; clear hK K
      (try simp only [Act.put, List.getElem_toArray, List.getElem_cons_zero, List.getElem_cons_succ, List.setIfInBounds_toArray, List.set_cons_zero, List.set_cons_succ])
      refine Kr.readyL (rs := [4]) (by kernel_rfl) (by simp) ?_
      refine Kr.AllL.cons rfl (fun K hK => ?_) Kr.AllL.nil
      have hk := H.c
      simp only [Kr.Cells] at hk
      go_simp
      clear hk
      obtain ⟨y12, hy⟩ : ∃ y, y11.setCell ⟨bo, 0, none⟩ (.slice p11 n11 c11) = y := ⟨_, rfl⟩
      rw [hy]
      replace H := H.store 0 hy rfl rfl
      dsimp only [List.set] at H
      clear hy
      refine hK.out _ _ (fun _ => (H.sub [2] rfl)) ?_; clear hK K
      (try simp only [Act.put, List.getElem_toArray, List.getElem_cons_zero, List.getElem_cons_succ, List.setIfInBounds_toArray, List.set_cons_zero, List.set_cons_succ])
      refine Kr.doneL (by kernel_rfl) ?_ _
      go_wp2_with fail
      go_meet
      exact ⟨_, _, _, _, _, _, _, rfl, Lib.hid H⟩
    refine Kr.AllL.cons rfl (fun K hK => ?_) Kr.AllL.nil
    go_simp
    obtain ⟨y13, hy⟩ : ∃ y, d5.alloc (.cells #[.slice none 0 0] 43) = y := ⟨_, rfl⟩
    obtain ⟨bo, hb⟩ : ∃ b, d5.heap.size = b := ⟨_, rfl⟩
    rw [hy, hb]
    replace H := H.alloc hy hb rfl
    clear hy hb
    refine hK.out _ _ (fun _ => (H.sub [2] rfl)) ?_; clear hK K
    (try simp only [Act.put, List.getElem_toArray, List.getElem_cons_zero, List.getElem_cons_succ, List.setIfInBounds_toArray, List.set_cons_zero, List.set_cons_succ])
    refine Kr.readyL (rs := [0]) (by kernel_rfl) (by simp) ?_
    refine Kr.AllL.cons rfl (fun K hK => ?_) Kr.AllL.nil
    go_simp
    go_at_call 73
    refine (of3_v 1 (by decide) _).mono ?_
    rintro e y14 ⟨p14, n14, c14, rfl, hr, hg⟩
    replace H := H.grow hg
    replace H := H.num hr.toNw
    clear hr hg
    refine hK.out _ _ (fun _ => (H.sub [2] rfl)) ?_; clear hK K
    (try simp only [Act.put, List.getElem_toArray, List.getElem_cons_zero, List.getElem_cons_succ, List.setIfInBounds_toArray, List.set_cons_zero, List.set_cons_succ])
    refine Kr.readyL (rs := [2]) (by kernel_rfl) (by simp) ?_
    refine Kr.AllL.cons rfl (fun K hK => ?_) Kr.AllL.nil
    go_simp
    go_at_call 72
    refine (rmod3_v (H.nw 0 rfl) (H.nw 1 rfl) (pw_pos' 999) M0.out VM.out).mono ?_
    rintro e y15 ⟨p15, n15, c15, rfl, hr, hg⟩
    replace H := H.grow hg
    replace H := H.num hr
    clear hr hg
    refine hK.out _ _ (fun _ => (H.sub [2] rfl)) ?_; clear hK K
    (try simp only [Act.put, List.getElem_toArray, List.getElem_cons_zero, List.getElem_cons_succ, List.setIfInBounds_toArray, List.set_cons_zero, List.set_cons_succ])
    refine Kr.readyL (rs := [4]) (by kernel_rfl) (by simp) ?_
    refine Kr.AllL.cons rfl (fun K hK => ?_) Kr.AllL.nil
    have hk := H.c
    simp only [Kr.Cells] at hk
    go_simp
    clear hk
    obtain ⟨y16, hy⟩ : ∃ y, y15.setCell ⟨bo, 0, none⟩ (.slice p15 n15 c15) = y := ⟨_, rfl⟩
    rw [hy]
    replace H := H.store 0 hy rfl rfl
    dsimp only [List.set] at H
    clear hy
    refine hK.out _ _ (fun _ => (H.sub [2] rfl)) ?_; clear hK K
    (try simp only [Act.put, List.getElem_toArray, List.getElem_cons_zero, List.getElem_cons_succ, List.setIfInBounds_toArray, List.set_cons_zero, List.set_cons_succ])
    refine Kr.doneL (by kernel_rfl) ?_ _
    go_wp2_with fail
    go_meet
    exact ⟨_, _, _, _, _, _, _, rfl, Lib.hid H⟩
  case rest =>
    clear H
    obtain ⟨bo, p15, n15, c15, p14, n14, c14, rfl, HH⟩ := hcut
    have H := HH.out
    clear HH
    obtain ⟨B, hB⟩ : ∃ B, Nv.nb (e) = B := ⟨_, rfl⟩
    have HNB := Lib.hid hB
    have hb : B ≤ 32 * 1000 := by rw [← hB]; exact nb_small VE.out
    have hW : IntKind.i64.wrap ((B : Int) - 1) = (B : Int) - 1 := IntWalk.i64_in _ (by omega)
    have HZ : Hid (e / 2 ^ B = 0) := Lib.hid (by rw [← hB]; exact nb_zero _)
    clear hB
    go_upto_region 2 with fail
    refine Kr.seqStart ?_
    have hk := H.c
    simp only [Kr.Cells] at hk
    (refine Kr.seqP (v := ?_) (by rfl) ?_ ?_; rotate_left; (focus (go_simp; first | done | rfl)); (try simp only [Act.put, List.getElem_toArray, List.getElem_cons_zero, List.getElem_cons_succ, List.setIfInBounds_toArray, List.set_cons_zero, List.set_cons_succ]))
    refine Kr.seqS (fun K hK => ?_)
    go_simp
    go_at_call 74
    refine (bits3_v _ _ _ _ _ (H.nw 3 rfl)).mono ?_
    rintro e y17 ⟨rfl, hg⟩
    rw [HNB.out]
    clear hk
    replace H := H.grow hg
    clear hg
    refine hK.out _ _ ?_; clear hK K
    (try simp only [Act.put, List.getElem_toArray, List.getElem_cons_zero, List.getElem_cons_succ, List.setIfInBounds_toArray, List.set_cons_zero, List.set_cons_succ])
    iterate 2 (refine Kr.seqP (v := ?_) (by rfl) ?_ ?_; rotate_left; (focus (go_simp; first | done | rfl)); (try simp only [Act.put, List.getElem_toArray, List.getElem_cons_zero, List.getElem_cons_succ, List.setIfInBounds_toArray, List.set_cons_zero, List.set_cons_succ]))
    refine Kr.seqDone ?_
    have H2 : Hid (Sta w y17 [(bo, 0, .slice p15 n15 c15), (br, 0, .slice none 0 0), (bm, 0, .slice pm nm cm), (be, 0, .slice pe ne ce), (ba, 0, .slice pa na ca)] [N p15 n15 c15 (x ^ (e / 2 ^ B) % m), N pa na ca (x), N pe ne ce (e), N pm nm cm (m)]) := Lib.hid (by rw [HZ.out, Nat.pow_zero]; exact H.pick [0, 4, 3, 2] rfl)
    go_wp2
    go_loopw [8] (fun i wr => ∃ (k : Nat) (pz0 : Option Addr) (nz0 cz0 : Nat), k ≤ B ∧ (k = 0 ∧ i = .int .i64 (-1) ∨ ∃ j : Nat, k = j + 1 ∧ i = .int .i64 (j : Int)) ∧ Hid (Sta w wr [(bo, 0, .slice pz0 nz0 cz0), (br, 0, .slice none 0 0), (bm, 0, .slice pm nm cm), (be, 0, .slice pe ne ce), (ba, 0, .slice pa na ca)] [N pz0 nz0 cz0 (x ^ (e / 2 ^ k) % m), N pa na ca (x), N pe ne ce (e), N pm nm cm (m)])) (fun i _ => (intOf i + 1).toNat)
    case atStart =>
      refine ⟨B, _, _, _, Nat.le_refl _, ?_, H2⟩
      rcases Nat.eq_zero_or_pos B with h0 | h0
      · exact .inl ⟨h0, by subst h0; rfl⟩
      · exact .inr ⟨B - 1, by omega, by congr 1; omega⟩
    case round =>
      clear H H2 hW
      obtain ⟨k, pz0, nz0, cz0, hk, hik, HH⟩ := hrel
      rcases hik with ⟨rfl, rfl⟩ | ⟨j, rfl, rfl⟩
      · have H := HH.out
        clear HH
        go_upto_region 8 with fail
        refine Kr.seqStart ?_
        have hk := H.c
        simp only [Kr.Cells] at hk
        (refine Kr.seqP (v := ?_) (by rfl) ?_ ?_; rotate_left; (focus (go_simp; first | done | rfl)); (try simp only [Act.put, List.getElem_toArray, List.getElem_cons_zero, List.getElem_cons_succ, List.setIfInBounds_toArray, List.set_cons_zero, List.set_cons_succ]))
        refine Kr.seqS (fun K hK => ?_)
        go_simp
        clear hk
        obtain ⟨y18, hy⟩ : ∃ y, wr.setCell ⟨br, 0, none⟩ (.slice pz0 nz0 cz0) = y := ⟨_, rfl⟩
        rw [hy]
        replace H := H.store 1 hy rfl rfl
        dsimp only [List.set] at H
        clear hy
        refine hK.out _ _ ?_; clear hK K
        (try simp only [Act.put, List.getElem_toArray, List.getElem_cons_zero, List.getElem_cons_succ, List.setIfInBounds_toArray, List.set_cons_zero, List.set_cons_succ])
        refine Kr.seqDone ?_
        have hk := H.c
        simp only [Kr.Cells] at hk
        go_wp2
        refine bodyPost_ret (v := .agg #[.slice pz0 nz0 cz0]) (by simp [results, Tryd.results51, go_sem, hk]) rfl ⟨pz0, nz0, cz0, rfl, by have h := (H.nw 0 rfl); rwa [Nat.pow_zero, Nat.div_one] at h, H.g⟩
      · have H := HH.out
        clear HH
        have hW : IntKind.i64.wrap ((j : Int) - 1) = (j : Int) - 1 := IntWalk.i64_in _ (by omega)
        have hj0 : (0 : Int) ≤ (j : Int) := by omega
        have HJ : Hid (j < 9223372036854775808) := Lib.hid (by omega)
        go_upto_region 5 with fail
        refine Kr.seqStart ?_
        have hk := H.c
        simp only [Kr.Cells] at hk
        iterate 3 (refine Kr.seqP (v := ?_) (by rfl) ?_ ?_; rotate_left; (focus (go_simp; first | done | rfl)); (try simp only [Act.put, List.getElem_toArray, List.getElem_cons_zero, List.getElem_cons_succ, List.setIfInBounds_toArray, List.set_cons_zero, List.set_cons_succ]))
        refine Kr.seqS (fun K hK => ?_)
        go_simp
        go_at_call 52
        refine (rmul3_v (H.nw 0 rfl) (H.nw 0 rfl) (H.nw 3 rfl) (Nat.mod_lt _ M0.out) (Nat.mod_lt _ M0.out) VM.out).mono ?_
        rintro e y19 ⟨p19, n19, c19, rfl, hr, hg⟩
        clear hk
        replace H := H.grow hg
        replace H := H.num hr
        clear hr hg
        refine hK.out _ _ ?_; clear hK K
        (try simp only [Act.put, List.getElem_toArray, List.getElem_cons_zero, List.getElem_cons_succ, List.setIfInBounds_toArray, List.set_cons_zero, List.set_cons_succ])
        have hk := H.c
        simp only [Kr.Cells] at hk
        refine Kr.seqS (fun K hK => ?_)
        go_simp
        clear hk
        obtain ⟨y20, hy⟩ : ∃ y, y19.setCell ⟨bo, 0, none⟩ (.slice p19 n19 c19) = y := ⟨_, rfl⟩
        rw [hy]
        replace H := H.store 0 hy rfl rfl
        dsimp only [List.set] at H
        clear hy
        refine hK.out _ _ ?_; clear hK K
        (try simp only [Act.put, List.getElem_toArray, List.getElem_cons_zero, List.getElem_cons_succ, List.setIfInBounds_toArray, List.set_cons_zero, List.set_cons_succ])
        refine Kr.seqDone ?_
        cases hbt : e.testBit j with
        | false =>
          have HBT := Lib.hid hbt
          clear hbt
          go_upto_region 6 with fail
          refine Kr.seqStart ?_
          have hk := H.c
          simp only [Kr.Cells] at hk
          iterate 2 (refine Kr.seqP (v := ?_) (by rfl) ?_ ?_; rotate_left; (focus (go_simp; first | done | rfl)); (try simp only [Act.put, List.getElem_toArray, List.getElem_cons_zero, List.getElem_cons_succ, List.setIfInBounds_toArray, List.set_cons_zero, List.set_cons_succ]))
          refine Kr.seqS (fun K hK => ?_)
          go_simp
          go_at_call 75
          refine (bit3_v _ _ _ j _ _ HJ.out (H.nw 3 rfl)).mono ?_
          rintro e y21 ⟨rfl, hg⟩
          rw [HBT.out]
          clear hk
          replace H := H.grow hg
          clear hg
          refine hK.out _ _ ?_; clear hK K
          (try simp only [Act.put, List.getElem_toArray, List.getElem_cons_zero, List.getElem_cons_succ, List.setIfInBounds_toArray, List.set_cons_zero, List.set_cons_succ])
          refine Kr.seqDone ?_
          go_upto_region 4 with fail
          refine Kr.seqStart ?_
          iterate 3 (refine Kr.seqP (v := ?_) (by rfl) ?_ ?_; rotate_left; (focus (go_simp; first | done | rfl)); (try simp only [Act.put, List.getElem_toArray, List.getElem_cons_zero, List.getElem_cons_succ, List.setIfInBounds_toArray, List.set_cons_zero, List.set_cons_succ]))
          refine Kr.seqDone ?_
          go_wp2
          go_roundw
          case rel =>
            refine ⟨j, p19, n19, c19, by omega, ?_, Lib.hid (by rw [← pow_0 HBT.out]; exact H.pick [0, 2, 3, 4] rfl)⟩
            rcases Nat.eq_zero_or_pos j with h0 | h0
            · exact .inl ⟨h0, by subst h0; rfl⟩
            · exact .inr ⟨j - 1, by omega, by congr 1; omega⟩
          case measure => (simp [intOf] <;> omega)
        | true =>
          have HBT := Lib.hid hbt
          clear hbt
          go_upto_region 6 with fail
          refine Kr.seqStart ?_
          have hk := H.c
          simp only [Kr.Cells] at hk
          iterate 2 (refine Kr.seqP (v := ?_) (by rfl) ?_ ?_; rotate_left; (focus (go_simp; first | done | rfl)); (try simp only [Act.put, List.getElem_toArray, List.getElem_cons_zero, List.getElem_cons_succ, List.setIfInBounds_toArray, List.set_cons_zero, List.set_cons_succ]))
          refine Kr.seqS (fun K hK => ?_)
          go_simp
          go_at_call 75
          refine (bit3_v _ _ _ j _ _ HJ.out (H.nw 3 rfl)).mono ?_
          rintro e y22 ⟨rfl, hg⟩
          rw [HBT.out]
          clear hk
          replace H := H.grow hg
          clear hg
          refine hK.out _ _ ?_; clear hK K
          (try simp only [Act.put, List.getElem_toArray, List.getElem_cons_zero, List.getElem_cons_succ, List.setIfInBounds_toArray, List.set_cons_zero, List.set_cons_succ])
          refine Kr.seqDone ?_
          go_upto_region 7 with fail
          refine Kr.seqStart ?_
          have hk := H.c
          simp only [Kr.Cells] at hk
          iterate 3 (refine Kr.seqP (v := ?_) (by rfl) ?_ ?_; rotate_left; (focus (go_simp; first | done | rfl)); (try simp only [Act.put, List.getElem_toArray, List.getElem_cons_zero, List.getElem_cons_succ, List.setIfInBounds_toArray, List.set_cons_zero, List.set_cons_succ]))
          refine Kr.seqS (fun K hK => ?_)
          go_simp
          go_at_call 52
          refine (rmul3_v (H.nw 0 rfl) (H.nw 2 rfl) (H.nw 4 rfl) (Nat.mod_lt _ M0.out) HX.out VM.out).mono ?_
          rintro e y23 ⟨p23, n23, c23, rfl, hr, hg⟩
          clear hk
          replace H := H.grow hg
          replace H := H.num hr
          clear hr hg
          refine hK.out _ _ ?_; clear hK K
          (try simp only [Act.put, List.getElem_toArray, List.getElem_cons_zero, List.getElem_cons_succ, List.setIfInBounds_toArray, List.set_cons_zero, List.set_cons_succ])
          have hk := H.c
          simp only [Kr.Cells] at hk
          refine Kr.seqS (fun K hK => ?_)
          go_simp
          clear hk
          obtain ⟨y24, hy⟩ : ∃ y, y23.setCell ⟨bo, 0, none⟩ (.slice p23 n23 c23) = y := ⟨_, rfl⟩
          rw [hy]
          replace H := H.store 0 hy rfl rfl
          dsimp only [List.set] at H
          clear hy
          refine hK.out _ _ ?_; clear hK K
          (try simp only [Act.put, List.getElem_toArray, List.getElem_cons_zero, List.getElem_cons_succ, List.setIfInBounds_toArray, List.set_cons_zero, List.set_cons_succ])
          refine Kr.seqDone ?_
          go_upto_region 4 with fail
          refine Kr.seqStart ?_
          iterate 3 (refine Kr.seqP (v := ?_) (by rfl) ?_ ?_; rotate_left; (focus (go_simp; first | done | rfl)); (try simp only [Act.put, List.getElem_toArray, List.getElem_cons_zero, List.getElem_cons_succ, List.setIfInBounds_toArray, List.set_cons_zero, List.set_cons_succ]))
          refine Kr.seqDone ?_
          go_wp2
          go_roundw
          case rel =>
            refine ⟨j, p23, n23, c23, by omega, ?_, Lib.hid (by rw [← pow_1 HBT.out]; exact H.pick [0, 3, 4, 5] rfl)⟩
            rcases Nat.eq_zero_or_pos j with h0 | h0
            · exact .inl ⟨h0, by subst h0; rfl⟩
            · exact .inr ⟨j - 1, by omega, by congr 1; omega⟩
          case measure => (simp [intOf] <;> omega)
end Go.Proofs.YtfompolklkehpaaDoor.Mr


/- The reference's test of a large number. -/
namespace Go.Proofs.YtfompolklkehpaaDoor.Pr
open Go.RowKit Go.Shelf Go.Proofs.YtfompolklkehpaaDoor.Nm Go.Proofs.YtfompolklkehpaaDoor.Ne Go.Proofs.YtfompolklkehpaaDoor.Nf Go.Proofs.YtfompolklkehpaaDoor.Nk Go.Proofs.YtfompolklkehpaaDoor.Nv Go.Proofs.YtfompolklkehpaaDoor.Nr2 Go.Proofs.YtfompolklkehpaaDoor.Mo Go.Proofs.YtfompolklkehpaaDoor.Mr Go.Proofs.YtfompolklkehpaaDoor.Kr

set_option linter.unusedSimpArgs false in
set_option maxRecDepth 100000 in
set_option maxHeartbeats 16000000 in
theorem large_v {n : Nat} {w : World} (h2 : 2 ≤ n) (h37 : 37 < n) (hodd : n % 2 = 1) (hn : n < 9223372036854775808) :
    Calls Tryd.prog 31 #[.int .i64 (n : Int)] w fun r w' => r = .returned (.bool (bases.all (pas n))) ∧ Gr w w' := by
  have HN2 := Lib.hid h2; have HODD := Lib.hid hodd; have HN := Lib.hid hn; clear h2 hodd hn
  have HN37 : Hid (37 < n) := Lib.hid h37; clear h37
  obtain ⟨a, ha⟩ : ∃ a, n - 1 = a := ⟨_, rfl⟩
  have HA := Lib.hid ha; have HA0 : Hid (a ≠ 0) := Lib.hid (by have := HN2.out; omega); have HA63 : Hid (a < 9223372036854775808) := Lib.hid (by have := HN.out; omega); have HAE : Hid (a % 2 = 0) := Lib.hid (by have := HODD.out; have := HN2.out; omega)
  have HSUB : Hid (IntKind.i64.wrap ((n : Int) - 1) = (a : Int)) := Lib.hid (wrap_nat (by have h1 := HN2.out; have h2 := HA.out; omega) HA63.out)
  clear ha
  have VM : Hid (n < pw 900) := Lib.hid (Nat.lt_of_lt_of_le (Nat.lt_trans HN.out (show 9223372036854775808 < pw 2 from by decide)) (pw_mono (by decide)))
  obtain ⟨QQ, hQ⟩ : ∃ Q, bases.all (pas n) = Q := ⟨_, rfl⟩
  rw [hQ]
  have HQ : Hid ((bases.drop 0).all (pas n) = QQ) := Lib.hid hQ; clear hQ
  have H := Sta.start w
  go_enter Tryd.func31, Tryd.ntmps31
  go_upto_region 0 with fail
  refine Kr.seqStartW ?_
  (refine Kr.seqQ (v := ?_) (a' := ?_) (by rfl) ?_ ?_ ?_; rotate_left 2; (focus (go_simp; first | done | rfl)); (focus ((try simp only [Kr.PT]); first | done | rfl)))
  refine Kr.seqDoneW ?_
  go_upto_region 1 with fail
  refine Kr.seqStartW ?_
  (refine Kr.seqQ (v := ?_) (a' := ?_) (by rfl) ?_ ?_ ?_; rotate_left 2; (focus (go_simp; first | done | rfl)); (focus ((try simp only [Kr.PT]); first | done | rfl)))
  refine Kr.seqR (by rfl) (fun K hK => ?_)
  go_simp
  go_at_call 26
  refine (rof_any n HN.out _).mono ?_
  rintro e y1 ⟨p1, n1, c1, rfl, hr, hg⟩
  replace H := H.grow hg
  replace H := H.num hr.toNw
  clear hr hg
  (refine Kr.outS hK (a' := ?_) ?_ ?_; rotate_left; (focus ((try simp only [Kr.PT]); first | done | rfl))); clear hK K
  refine Kr.seqR (by rfl) (fun K hK => ?_)
  go_simp
  obtain ⟨y2, hy⟩ : ∃ y, y1.alloc (.cells #[.slice none 0 0] 43) = y := ⟨_, rfl⟩
  obtain ⟨bm, hb⟩ : ∃ b, y1.heap.size = b := ⟨_, rfl⟩
  rw [hy, hb]
  replace H := H.alloc hy hb rfl
  clear hy hb
  (refine Kr.outS hK (a' := ?_) ?_ ?_; rotate_left; (focus ((try simp only [Kr.PT]); first | done | rfl))); clear hK K
  have hk := H.c
  simp only [Kr.Cells] at hk
  refine Kr.seqR (by rfl) (fun K hK => ?_)
  go_simp
  clear hk
  obtain ⟨y3, hy⟩ : ∃ y, y2.setCell ⟨bm, 0, none⟩ (.slice p1 n1 c1) = y := ⟨_, rfl⟩
  rw [hy]
  replace H := H.store 0 hy rfl rfl
  dsimp only [List.set] at H
  clear hy
  (refine Kr.outS hK (a' := ?_) ?_ ?_; rotate_left; (focus ((try simp only [Kr.PT]); first | done | rfl))); clear hK K
  refine Kr.seqDoneW ?_
  go_upto_region 2 with fail
  refine Kr.seqStartW ?_
  (refine Kr.seqQ (v := ?_) (a' := ?_) (by rfl) ?_ ?_ ?_; rotate_left 2; (focus (go_simp; first | done | rfl)); (focus ((try simp only [Kr.PT]); first | done | rfl)))
  (refine Kr.seqQ (v := .int .i64 (a : Int)) (a' := ?_) (by rfl) ?_ ?_ ?_; rotate_left 1; (focus (exact Kr.valOf rfl (subI HSUB.out))); (focus ((try simp only [Kr.PT]); first | done | rfl)))
  refine Kr.seqR (by rfl) (fun K hK => ?_)
  go_simp
  go_at_call 26
  refine (rof_any a HA63.out _).mono ?_
  rintro e y4 ⟨p4, n4, c4, rfl, hr, hg⟩
  replace H := H.grow hg
  replace H := H.num hr.toNw
  clear hr hg
  (refine Kr.outS hK (a' := ?_) ?_ ?_; rotate_left; (focus ((try simp only [Kr.PT]); first | done | rfl))); clear hK K
  refine Kr.seqR (by rfl) (fun K hK => ?_)
  go_simp
  obtain ⟨y5, hy⟩ : ∃ y, y4.alloc (.cells #[.slice none 0 0] 43) = y := ⟨_, rfl⟩
  obtain ⟨bl, hb⟩ : ∃ b, y4.heap.size = b := ⟨_, rfl⟩
  rw [hy, hb]
  replace H := H.alloc hy hb rfl
  clear hy hb
  (refine Kr.outS hK (a' := ?_) ?_ ?_; rotate_left; (focus ((try simp only [Kr.PT]); first | done | rfl))); clear hK K
  have hk := H.c
  simp only [Kr.Cells] at hk
  refine Kr.seqR (by rfl) (fun K hK => ?_)
  go_simp
  clear hk
  obtain ⟨y6, hy⟩ : ∃ y, y5.setCell ⟨bl, 0, none⟩ (.slice p4 n4 c4) = y := ⟨_, rfl⟩
  rw [hy]
  replace H := H.store 0 hy rfl rfl
  dsimp only [List.set] at H
  clear hy
  (refine Kr.outS hK (a' := ?_) ?_ ?_; rotate_left; (focus ((try simp only [Kr.PT]); first | done | rfl))); clear hK K
  refine Kr.seqDoneW ?_
  go_upto_region 3 with fail
  refine Kr.seqStartW ?_
  refine Kr.seqR (by rfl) (fun K hK => ?_)
  go_simp
  go_at_call 26
  refine (rof_any 1 (by decide) _).mono ?_
  rintro e y7 ⟨p7, n7, c7, rfl, hr, hg⟩
  replace H := H.grow hg
  replace H := H.num hr.toNw
  clear hr hg
  (refine Kr.outS hK (a' := ?_) ?_ ?_; rotate_left; (focus ((try simp only [Kr.PT]); first | done | rfl))); clear hK K
  refine Kr.seqR (by rfl) (fun K hK => ?_)
  go_simp
  obtain ⟨y8, hy⟩ : ∃ y, y7.alloc (.cells #[.slice none 0 0] 43) = y := ⟨_, rfl⟩
  obtain ⟨bo, hb⟩ : ∃ b, y7.heap.size = b := ⟨_, rfl⟩
  rw [hy, hb]
  replace H := H.alloc hy hb rfl
  clear hy hb
  (refine Kr.outS hK (a' := ?_) ?_ ?_; rotate_left; (focus ((try simp only [Kr.PT]); first | done | rfl))); clear hK K
  have hk := H.c
  simp only [Kr.Cells] at hk
  refine Kr.seqR (by rfl) (fun K hK => ?_)
  go_simp
  clear hk
  obtain ⟨y9, hy⟩ : ∃ y, y8.setCell ⟨bo, 0, none⟩ (.slice p7 n7 c7) = y := ⟨_, rfl⟩
  rw [hy]
  replace H := H.store 0 hy rfl rfl
  dsimp only [List.set] at H
  clear hy
  (refine Kr.outS hK (a' := ?_) ?_ ?_; rotate_left; (focus ((try simp only [Kr.PT]); first | done | rfl))); clear hK K
  refine Kr.seqDoneW ?_
  go_upto_region 4 with fail
  refine Kr.seqStartW ?_
  (refine Kr.seqQ (v := ?_) (a' := ?_) (by rfl) ?_ ?_ ?_; rotate_left 2; (focus (go_simp; first | done | rfl)); (focus ((try simp only [Kr.PT]); first | done | rfl)))
  (refine Kr.seqQ (v := .int .i64 (a : Int)) (a' := ?_) (by rfl) ?_ ?_ ?_; rotate_left 1; (focus (exact Kr.valOf rfl (subI HSUB.out))); (focus ((try simp only [Kr.PT]); first | done | rfl)))
  iterate 2 (refine Kr.seqQ (v := ?_) (a' := ?_) (by rfl) ?_ ?_ ?_; rotate_left 2; (focus (go_simp; first | done | rfl)); (focus ((try simp only [Kr.PT]); first | done | rfl)))
  refine Kr.seqDoneW ?_
  replace H := H.pick [0, 1, 2] rfl
  have H2 := Lib.hid H
  clear H
  go_wp2_with fail
  go_loopw [6, 7] (fun dv sv wr => ∃ d k : Nat, dv = .int .i64 (d : Int) ∧ sv = .int .i64 (k : Int) ∧ 0 < d ∧ d ≤ a ∧ Hid (2 ^ k * d = a) ∧ Hid (Sta w wr [(bo, 0, .slice p7 n7 c7), (bl, 0, .slice p4 n4 c4), (bm, 0, .slice p1 n1 c1)] [N p7 n7 c7 (1), N p4 n4 c4 (a), N p1 n1 c1 (n)])) (fun dv _ _ => (intOf dv).toNat)
  case atStart => exact ⟨a, 0, rfl, rfl, Nat.pos_of_ne_zero HA0.out, Nat.le_refl _, Lib.hid (by rw [Nat.pow_zero, Nat.one_mul]), H2⟩
  case round =>
    clear H2
    obtain ⟨d, k, rfl, rfl, hd0, hda, HPD, HH⟩ := hrel
    have H := HH.out; have HD0 := Lib.hid hd0; have HDA := Lib.hid hda; clear HH hd0 hda
    have HD63 : Hid (d < 9223372036854775808) := Lib.hid (Nat.lt_of_le_of_lt HDA.out HA63.out)
    have HK64 : Hid (k < 64) := Lib.hid (pow_small_exp HPD.out HD0.out HA63.out)
    by_cases hod : d % 2 = 1
    · have HOD := Lib.hid hod; have HR0 : Hid (decide (((1 : Nat) : Int) = 0) = false) := Lib.hid (by decide)
      clear hod
      go_upto_region 5 with fail
      refine Kr.seqStartW ?_
      (refine Kr.seqQ (v := ?_) (a' := ?_) (by rfl) ?_ ?_ ?_; rotate_left 2; (focus (go_simp; first | done | rfl)); (focus ((try simp only [Kr.PT]); first | done | rfl)))
      (refine Kr.seqQ (v := .int .i64 ((1 : Nat) : Int)) (a' := ?_) (by rfl) ?_ ?_ ?_; rotate_left 1; (focus (exact Kr.valOf rfl (remI (by decide) HOD.out (by decide)))); (focus ((try simp only [Kr.PT]); first | done | rfl)))
      (refine Kr.seqQ (v := .bool false) (a' := ?_) (by rfl) ?_ ?_ ?_; rotate_left 1; (focus (exact Kr.valOf rfl (eqlI HR0.out))); (focus ((try simp only [Kr.PT]); first | done | rfl)))
      refine Kr.seqDoneW ?_
      have HK1 : Hid (1 ≤ k) := Lib.hid (even_of HPD.out HOD.out HAE.out)
      go_upto_region 8 with fail
      refine Kr.seqStartW ?_
      refine Kr.seqR (by rfl) (fun K hK => ?_)
      go_simp
      obtain ⟨y10, hy⟩ : ∃ y, wr.alloc (.cells #[.int .i64 2, .int .i64 3, .int .i64 5, .int .i64 7, .int .i64 11, .int .i64 13, .int .i64 17, .int .i64 19, .int .i64 23, .int .i64 29, .int .i64 31, .int .i64 37] 3) = y := ⟨_, rfl⟩
      obtain ⟨bb, hb⟩ : ∃ b, wr.heap.size = b := ⟨_, rfl⟩
      rw [hy, hb]
      replace H := Sta_row (l := bases) H hy hb
      dsimp only [List.cons_append, List.nil_append] at H
      clear hy hb
      (refine Kr.outS hK (a' := ?_) ?_ ?_; rotate_left; (focus ((try simp only [Kr.PT]); first | done | rfl))); clear hK K
      (refine Kr.seqQ (v := ?_) (a' := ?_) (by rfl) ?_ ?_ ?_; rotate_left 2; (focus (go_simp; first | done | rfl)); (focus ((try simp only [Kr.PT]); first | done | rfl)))
      refine Kr.seqDoneW ?_
      go_upto_region 9 with fail
      refine Kr.seqStartW ?_
      (refine Kr.seqQ (v := ?_) (a' := ?_) (by rfl) ?_ ?_ ?_; rotate_left 2; (focus (go_simp; first | done | rfl)); (focus ((try simp only [Kr.PT]); first | done | rfl)))
      refine Kr.seqDoneW ?_
      have H2 := Lib.hid H
      clear H
      go_wp2_with fail
      go_loopw [9] (fun i wr => ∃ j : Nat, j ≤ 12 ∧ i = .int .i64 (j : Int) ∧ Hid ((bases.drop j).all (pas n) = QQ) ∧ Hid (Sta w wr ((bo, 0, .slice p7 n7 c7) :: (bl, 0, .slice p4 n4 c4) :: (bm, 0, .slice p1 n1 c1) :: rowC bb 0 bases) [N p7 n7 c7 (1), N p4 n4 c4 (a), N p1 n1 c1 (n)])) (fun i _ => 12 - (intOf i).toNat)
      case atStart => exact ⟨0, Nat.zero_le _, rfl, HQ, H2⟩
      case round =>
        clear H2 HQ
        obtain ⟨j, hj, rfl, HP, HH⟩ := hrel
        have H := HH.out; clear HH
        by_cases hjt : j = 12
        · have HL : Hid (decide ((j : Int) < 12) = false) := Lib.hid (decide_eq_false (by omega))
          obtain rfl : true = QQ := by rw [← HP.out, hjt]; rfl
          clear hjt
          go_upto_region 10 with fail
          refine Kr.seqStartW ?_
          iterate 3 (refine Kr.seqQ (v := ?_) (a' := ?_) (by rfl) ?_ ?_ ?_; rotate_left 2; (focus (go_simp; first | done | rfl)); (focus ((try simp only [Kr.PT]); first | done | rfl)))
          (refine Kr.seqQ (v := .bool false) (a' := ?_) (by rfl) ?_ ?_ ?_; rotate_left 1; (focus (exact Kr.valOf rfl (lssT HL.out))); (focus ((try simp only [Kr.PT]); first | done | rfl)))
          refine Kr.seqDoneW ?_
          go_upto_region 21 with fail
          refine Kr.seqStartW ?_
          (refine Kr.seqQ (v := ?_) (a' := ?_) (by rfl) ?_ ?_ ?_; rotate_left 2; (focus (go_simp; first | done | rfl)); (focus ((try simp only [Kr.PT]); first | done | rfl)))
          refine Kr.seqDoneW ?_
          have hk := H.c
          simp only [Kr.Cells] at hk
          go_wp2
          refine bodyPost_ret (v := .bool true) (by simp [results, Tryd.results31, go_sem, hk]) rfl ⟨rfl, H.g⟩
        · have HJ : Hid (j < 12) := Lib.hid (by omega)
          have HL : Hid (decide ((j : Int) < 12) = true) := Lib.hid (decide_eq_true (by omega))
          clear hjt
          go_upto_region 10 with fail
          refine Kr.seqStartW ?_
          iterate 3 (refine Kr.seqQ (v := ?_) (a' := ?_) (by rfl) ?_ ?_ ?_; rotate_left 2; (focus (go_simp; first | done | rfl)); (focus ((try simp only [Kr.PT]); first | done | rfl)))
          (refine Kr.seqQ (v := .bool true) (a' := ?_) (by rfl) ?_ ?_ ?_; rotate_left 1; (focus (exact Kr.valOf rfl (lssT HL.out))); (focus ((try simp only [Kr.PT]); first | done | rfl)))
          refine Kr.seqDoneW ?_
          obtain ⟨hb0, hb1, hb2⟩ := bases_at j HJ.out
          obtain ⟨b, hb⟩ : ∃ b, bases.getD j 0 = b := ⟨_, rfl⟩
          have HJR : (rowC bb 0 bases)[j]? = some (bb, j, .int .i64 (b : Int)) := by have h := rowC_get (b := bb) (o := 0) (bases_get HJ.out hb); rwa [Nat.zero_add] at h
          have HJROW := Lib.hid HJR; clear HJR
          rw [hb] at hb0 hb2
          rw [hb0] at HP
          have HBL : Hid (b < 9223372036854775808) := Lib.hid (by omega); have HBN : Hid (b < n) := Lib.hid (Nat.lt_of_le_of_lt hb2 HN37.out)
          clear hb hb0 hb1 hb2
          obtain ⟨x0, hx0⟩ : ∃ x0, b ^ d % n = x0 := ⟨_, rfl⟩
          have HX0 := Lib.hid hx0; have HX0L : Hid (x0 < n) := Lib.hid (hx0 ▸ Nat.mod_lt _ (Nat.lt_of_le_of_lt (Nat.zero_le _) HBN.out))
          obtain ⟨Q, hQ⟩ : ∃ Q, pas n b = Q := ⟨_, rfl⟩
          have HQ2 : Hid (Q = (decide (x0 = 1) || pasFrom n x0 k)) := Lib.hid (by rw [← hQ, pas_eq HOD.out (by rw [HA.out]; exact HPD.out) (Nat.lt_trans HN.out (by decide)), hx0])
          have HQB : Hid ((Q && (bases.drop (j + 1)).all (pas n)) = QQ) := Lib.hid (by rw [← HP.out, List.all_cons, hQ])
          clear hQ hx0 HP
          have hj1 : j < 12 := HJ.out; have hj2 : (j : Int) < 12 := by omega
          go_upto_region 12 with fail
          refine Kr.startL (fun W' => Kr.Cells W' [(bb, j, .int .i64 (b : Int)), (bm, 0, .slice p1 n1 c1)]) [] (by kernel_rfl) ?_
          have gd : Gr wr wr.drew := (Gr.refl _).drew
          generalize wr.drew = d11 at gd ⊢
          replace H := H.grow gd
          clear gd
          refine have nd12_8 : ∀ (Wd8 : World) (bx : Nat) (p12 : Option Addr) (n12 : Nat) (c12 : Nat) (p14 : Option Addr) (n14 : Nat) (c14 : Nat) (p17 : Option Addr) (n17 : Nat) (c17 : Nat), Sta w Wd8 ((bx, 0, .slice p17 n17 c17) :: (bo, 0, .slice p7 n7 c7) :: (bl, 0, .slice p4 n4 c4) :: (bm, 0, .slice p1 n1 c1) :: rowC bb 0 bases) [N p17 n17 c17 (x0), N p14 n14 c14 (d), N p12 n12 c12 (b), N p7 n7 c7 (1), N p4 n4 c4 (a), N p1 n1 c1 (n)] → (?Q12_8 : World → Nat → Option Addr → Nat → Nat → Option Addr → Nat → Nat → Option Addr → Nat → Nat → Prop) Wd8 bx p12 n12 c12 p14 n14 c14 p17 n17 c17 := ?pf12_8; ?mn12_8
          case' mn12_8 => refine have nd12_7 : ∀ (Wd7 : World) (bx : Nat) (p12 : Option Addr) (n12 : Nat) (c12 : Nat) (p14 : Option Addr) (n14 : Nat) (c14 : Nat) (p17 : Option Addr) (n17 : Nat) (c17 : Nat), Sta w Wd7 ((bx, 0, .slice none 0 0) :: (bo, 0, .slice p7 n7 c7) :: (bl, 0, .slice p4 n4 c4) :: (bm, 0, .slice p1 n1 c1) :: rowC bb 0 bases) [N p17 n17 c17 (x0), N p14 n14 c14 (d), N p12 n12 c12 (b), N p7 n7 c7 (1), N p4 n4 c4 (a), N p1 n1 c1 (n)] → (?Q12_7 : World → Nat → Option Addr → Nat → Nat → Option Addr → Nat → Nat → Option Addr → Nat → Nat → Prop) Wd7 bx p12 n12 c12 p14 n14 c14 p17 n17 c17 := ?pf12_7; ?mn12_7
          case' mn12_7 => refine have nd12_6 : ∀ (Wd6 : World) (bx : Nat) (p12 : Option Addr) (n12 : Nat) (c12 : Nat) (p14 : Option Addr) (n14 : Nat) (c14 : Nat), Sta w Wd6 ((bx, 0, .slice none 0 0) :: (bo, 0, .slice p7 n7 c7) :: (bl, 0, .slice p4 n4 c4) :: (bm, 0, .slice p1 n1 c1) :: rowC bb 0 bases) [N p14 n14 c14 (d), N p12 n12 c12 (b), N p7 n7 c7 (1), N p4 n4 c4 (a), N p1 n1 c1 (n)] → (?Q12_6 : World → Nat → Option Addr → Nat → Nat → Option Addr → Nat → Nat → Prop) Wd6 bx p12 n12 c12 p14 n14 c14 := ?pf12_6; ?mn12_6
          case' mn12_6 => refine have nd12_5 : ∀ (Wd5 : World) (p12 : Option Addr) (n12 : Nat) (c12 : Nat) (p14 : Option Addr) (n14 : Nat) (c14 : Nat) (p17 : Option Addr) (n17 : Nat) (c17 : Nat), Sta w Wd5 ((bo, 0, .slice p7 n7 c7) :: (bl, 0, .slice p4 n4 c4) :: (bm, 0, .slice p1 n1 c1) :: rowC bb 0 bases) [N p17 n17 c17 (x0), N p14 n14 c14 (d), N p12 n12 c12 (b), N p7 n7 c7 (1), N p4 n4 c4 (a), N p1 n1 c1 (n)] → (?Q12_5 : World → Option Addr → Nat → Nat → Option Addr → Nat → Nat → Option Addr → Nat → Nat → Prop) Wd5 p12 n12 c12 p14 n14 c14 p17 n17 c17 := ?pf12_5; ?mn12_5
          case' mn12_5 => refine have nd12_4 : ∀ (Wd4 : World) (bx : Nat) (p12 : Option Addr) (n12 : Nat) (c12 : Nat), Sta w Wd4 ((bx, 0, .slice none 0 0) :: (bo, 0, .slice p7 n7 c7) :: (bl, 0, .slice p4 n4 c4) :: (bm, 0, .slice p1 n1 c1) :: rowC bb 0 bases) [N p12 n12 c12 (b), N p7 n7 c7 (1), N p4 n4 c4 (a), N p1 n1 c1 (n)] → (?Q12_4 : World → Nat → Option Addr → Nat → Nat → Prop) Wd4 bx p12 n12 c12 := ?pf12_4; ?mn12_4
          case' mn12_4 => refine have nd12_3 : ∀ (Wd3 : World) (p12 : Option Addr) (n12 : Nat) (c12 : Nat) (p14 : Option Addr) (n14 : Nat) (c14 : Nat), Sta w Wd3 ((bo, 0, .slice p7 n7 c7) :: (bl, 0, .slice p4 n4 c4) :: (bm, 0, .slice p1 n1 c1) :: rowC bb 0 bases) [N p14 n14 c14 (d), N p12 n12 c12 (b), N p7 n7 c7 (1), N p4 n4 c4 (a), N p1 n1 c1 (n)] → (?Q12_3 : World → Option Addr → Nat → Nat → Option Addr → Nat → Nat → Prop) Wd3 p12 n12 c12 p14 n14 c14 := ?pf12_3; ?mn12_3
          case' mn12_3 => refine have nd12_2 : ∀ (Wd2 : World) (bx : Nat), Sta w Wd2 ((bx, 0, .slice none 0 0) :: (bo, 0, .slice p7 n7 c7) :: (bl, 0, .slice p4 n4 c4) :: (bm, 0, .slice p1 n1 c1) :: rowC bb 0 bases) [N p7 n7 c7 (1), N p4 n4 c4 (a), N p1 n1 c1 (n)] → (?Q12_2 : World → Nat → Prop) Wd2 bx := ?pf12_2; ?mn12_2
          case' mn12_2 => refine have nd12_1 : ∀ (Wd1 : World) (p12 : Option Addr) (n12 : Nat) (c12 : Nat), Sta w Wd1 ((bo, 0, .slice p7 n7 c7) :: (bl, 0, .slice p4 n4 c4) :: (bm, 0, .slice p1 n1 c1) :: rowC bb 0 bases) [N p12 n12 c12 (b), N p7 n7 c7 (1), N p4 n4 c4 (a), N p1 n1 c1 (n)] → (?Q12_1 : World → Option Addr → Nat → Nat → Prop) Wd1 p12 n12 c12 := ?pf12_1; ?mn12_1
          case mn12_1 =>
            (refine Kr.tPQ 0 (v := ?_) (a' := ?_) rfl (by kernel_rfl) (fun _ _ _ h => h) (by rfl) (fun _ => ⟨H.c.get (j + 1 + 1 + 1) HJROW.out, (H.sub [2] rfl)⟩) (fun wx => ?_) ?_ ?_; rotate_left 2; (focus (go_simp; first | done | rfl)); (focus ((try simp only [Kr.PT]); first | done | rfl)))
            (refine Kr.tPQ 1 (v := ?_) (a' := ?_) rfl (by kernel_rfl) (fun _ _ _ h => h) (by rfl) (fun _ => ⟨H.c.get (j + 1 + 1 + 1) HJROW.out, (H.sub [2] rfl)⟩) (fun wx => ?_) ?_ ?_; rotate_left 2; (focus (go_simp; first | done | rfl)); (focus ((try simp only [Kr.PT]); first | done | rfl)))
            (refine Kr.tPQ 2 (v := ?_) (a' := ?_) rfl (by kernel_rfl) (fun _ _ _ h => h) (by rfl) (fun _ => ⟨H.c.get (j + 1 + 1 + 1) HJROW.out, (H.sub [2] rfl)⟩) (fun wx => ?_) ?_ ?_; rotate_left 2; (focus (go_simp; first | done | rfl)); (focus ((try simp only [Kr.PT]); first | done | rfl)))
            (refine Kr.tSQ 3 [] (v := ?_) (a' := ?_) rfl (by kernel_rfl) (fun _ _ _ h => h) (by rfl) ⟨H.c.get (j + 1 + 1 + 1) HJROW.out, (H.sub [2] rfl)⟩ (fun wx hSx => ?_) ?_ ?_; rotate_left 2; (focus (simp only [Kr.Cells] at hSx; go_simp; first | done | rfl)); (focus ((try simp only [Kr.PT]); first | done | rfl)))
            (refine Kr.tPQ 5 (v := ?_) (a' := ?_) rfl (by kernel_rfl) (fun _ _ _ h => h) (by rfl) (fun _ => ⟨H.c.get (j + 1 + 1 + 1) HJROW.out, (H.sub [2] rfl)⟩) (fun wx => ?_) ?_ ?_; rotate_left 2; (focus (go_simp; first | done | rfl)); (focus ((try simp only [Kr.PT]); first | done | rfl)))
            (refine Kr.tSQ 7 [] (v := ?_) (a' := ?_) rfl (by kernel_rfl) (fun _ _ _ h => h) (by rfl) ⟨H.c.get (j + 1 + 1 + 1) HJROW.out, (H.sub [2] rfl)⟩ (fun wx hSx => ?_) ?_ ?_; rotate_left 2; (focus (simp only [Kr.Cells] at hSx; go_simp; first | done | rfl)); (focus ((try simp only [Kr.PT]); first | done | rfl)))
            refine Kr.readyL (rs := [4, 9]) (by kernel_rfl) (by simp) ?_
            refine Kr.AllL.cons rfl (fun K hK => ?_) ?_
            · go_simp
              go_at_call 26
              refine (rof_any b HBL.out _).mono ?_
              rintro e y12 ⟨p12, n12, c12, rfl, hr, hg⟩
              replace H := H.grow hg
              replace H := H.num hr.toNw
              clear hr hg
              (refine Kr.outL hK (a' := ?_) ?_ (fun _ => ⟨H.c.get (j + 1 + 1 + 1) HJROW.out, (H.sub [2] rfl)⟩) ?_; rotate_left; (focus ((try simp only [Kr.PT]); first | done | rfl))); clear hK K
              refine Kr.relistL (l2 := #[true, true, true, true, true, true, false, true, false, false, false]) (by kernel_rfl) ?_
              exact nd12_1 y12 p12 n12 c12 H
            refine Kr.AllL.cons rfl (fun K hK => ?_) Kr.AllL.nil
            go_simp
            obtain ⟨y13, hy⟩ : ∃ y, d11.alloc (.cells #[.slice none 0 0] 43) = y := ⟨_, rfl⟩
            obtain ⟨bx, hb⟩ : ∃ b, d11.heap.size = b := ⟨_, rfl⟩
            rw [hy, hb]
            replace H := H.alloc hy hb rfl
            clear hy hb
            (refine Kr.outL hK (a' := ?_) ?_ (fun _ => ⟨H.c.get (j + 1 + 1 + 1 + 1) HJROW.out, (H.sub [3] rfl)⟩) ?_; rotate_left; (focus ((try simp only [Kr.PT]); first | done | rfl))); clear hK K
            refine Kr.relistL (l2 := #[true, true, true, true, false, true, false, true, false, true, false]) (by kernel_rfl) ?_
            exact nd12_2 y13 bx H
          case pf12_1 =>
            intro Wd1 p12 n12 c12 H
            refine Kr.readyL (rs := [6, 9]) (by kernel_rfl) (by simp) ?_
            refine Kr.AllL.cons rfl (fun K hK => ?_) ?_
            · go_simp
              go_at_call 26
              refine (rof_any d HD63.out _).mono ?_
              rintro e y14 ⟨p14, n14, c14, rfl, hr, hg⟩
              replace H := H.grow hg
              replace H := H.num hr.toNw
              clear hr hg
              (refine Kr.outL hK (a' := ?_) ?_ (fun _ => ⟨H.c.get (j + 1 + 1 + 1) HJROW.out, (H.sub [2] rfl)⟩) ?_; rotate_left; (focus ((try simp only [Kr.PT]); first | done | rfl))); clear hK K
              refine Kr.relistL (l2 := #[true, true, true, true, true, true, true, true, false, false, false]) (by kernel_rfl) ?_
              exact nd12_3 y14 p12 n12 c12 p14 n14 c14 H
            refine Kr.AllL.cons rfl (fun K hK => ?_) Kr.AllL.nil
            go_simp
            obtain ⟨y15, hy⟩ : ∃ y, Wd1.alloc (.cells #[.slice none 0 0] 43) = y := ⟨_, rfl⟩
            obtain ⟨bx, hb⟩ : ∃ b, Wd1.heap.size = b := ⟨_, rfl⟩
            rw [hy, hb]
            replace H := H.alloc hy hb rfl
            clear hy hb
            (refine Kr.outL hK (a' := ?_) ?_ (fun _ => ⟨H.c.get (j + 1 + 1 + 1 + 1) HJROW.out, (H.sub [3] rfl)⟩) ?_; rotate_left; (focus ((try simp only [Kr.PT]); first | done | rfl))); clear hK K
            refine Kr.relistL (l2 := #[true, true, true, true, true, true, false, true, false, true, false]) (by kernel_rfl) ?_
            exact nd12_4 y15 bx p12 n12 c12 H
          case pf12_2 =>
            intro Wd2 bx H
            refine Kr.readyL (rs := [4]) (by kernel_rfl) (by simp) ?_
            refine Kr.AllL.cons rfl (fun K hK => ?_) Kr.AllL.nil
            go_simp
            go_at_call 26
            refine (rof_any b HBL.out _).mono ?_
            rintro e y16 ⟨p16, n16, c16, rfl, hr, hg⟩
            replace H := H.grow hg
            replace H := H.num hr.toNw
            clear hr hg
            (refine Kr.outL hK (a' := ?_) ?_ (fun _ => ⟨H.c.get (j + 1 + 1 + 1 + 1) HJROW.out, (H.sub [3] rfl)⟩) ?_; rotate_left; (focus ((try simp only [Kr.PT]); first | done | rfl))); clear hK K
            refine Kr.relistL (l2 := #[true, true, true, true, true, true, false, true, false, true, false]) (by kernel_rfl) ?_
            exact nd12_4 y16 bx p16 n16 c16 H
          case pf12_3 =>
            intro Wd3 p12 n12 c12 p14 n14 c14 H
            refine Kr.readyL (rs := [8, 9]) (by kernel_rfl) (by simp) ?_
            refine Kr.AllL.cons rfl (fun K hK => ?_) ?_
            · go_simp
              go_at_call 51
              have hP := rpow3_v (H.nw 1 rfl) (H.nw 0 rfl) (H.nw 4 rfl) HBN.out (Nat.lt_of_lt_of_le (Nat.lt_trans HD63.out (show 9223372036854775808 < pw 2 from by decide)) (pw_mono (by decide))) VM.out
              rw [HX0.out] at hP
              refine (hP).mono ?_
              rintro e y17 ⟨p17, n17, c17, rfl, hr, hg⟩
              replace H := H.grow hg
              replace H := H.num hr
              clear hr hg
              clear hP
              (refine Kr.outL hK (a' := ?_) ?_ (fun _ => ⟨H.c.get (j + 1 + 1 + 1) HJROW.out, (H.sub [2] rfl)⟩) ?_; rotate_left; (focus ((try simp only [Kr.PT]); first | done | rfl))); clear hK K
              refine Kr.relistL (l2 := #[true, true, true, true, true, true, true, true, true, false, false]) (by kernel_rfl) ?_
              exact nd12_5 y17 p12 n12 c12 p14 n14 c14 p17 n17 c17 H
            refine Kr.AllL.cons rfl (fun K hK => ?_) Kr.AllL.nil
            go_simp
            obtain ⟨y18, hy⟩ : ∃ y, Wd3.alloc (.cells #[.slice none 0 0] 43) = y := ⟨_, rfl⟩
            obtain ⟨bx, hb⟩ : ∃ b, Wd3.heap.size = b := ⟨_, rfl⟩
            rw [hy, hb]
            replace H := H.alloc hy hb rfl
            clear hy hb
            (refine Kr.outL hK (a' := ?_) ?_ (fun _ => ⟨H.c.get (j + 1 + 1 + 1 + 1) HJROW.out, (H.sub [3] rfl)⟩) ?_; rotate_left; (focus ((try simp only [Kr.PT]); first | done | rfl))); clear hK K
            refine Kr.relistL (l2 := #[true, true, true, true, true, true, true, true, false, true, false]) (by kernel_rfl) ?_
            exact nd12_6 y18 bx p12 n12 c12 p14 n14 c14 H
          case pf12_4 =>
            intro Wd4 bx p12 n12 c12 H
            refine Kr.readyL (rs := [6]) (by kernel_rfl) (by simp) ?_
            refine Kr.AllL.cons rfl (fun K hK => ?_) Kr.AllL.nil
            go_simp
            go_at_call 26
            refine (rof_any d HD63.out _).mono ?_
            rintro e y19 ⟨p19, n19, c19, rfl, hr, hg⟩
            replace H := H.grow hg
            replace H := H.num hr.toNw
            clear hr hg
            (refine Kr.outL hK (a' := ?_) ?_ (fun _ => ⟨H.c.get (j + 1 + 1 + 1 + 1) HJROW.out, (H.sub [3] rfl)⟩) ?_; rotate_left; (focus ((try simp only [Kr.PT]); first | done | rfl))); clear hK K
            refine Kr.relistL (l2 := #[true, true, true, true, true, true, true, true, false, true, false]) (by kernel_rfl) ?_
            exact nd12_6 y19 bx p12 n12 c12 p19 n19 c19 H
          case pf12_5 =>
            intro Wd5 p12 n12 c12 p14 n14 c14 p17 n17 c17 H
            refine Kr.readyL (rs := [9]) (by kernel_rfl) (by simp) ?_
            refine Kr.AllL.cons rfl (fun K hK => ?_) Kr.AllL.nil
            go_simp
            obtain ⟨y20, hy⟩ : ∃ y, Wd5.alloc (.cells #[.slice none 0 0] 43) = y := ⟨_, rfl⟩
            obtain ⟨bx, hb⟩ : ∃ b, Wd5.heap.size = b := ⟨_, rfl⟩
            rw [hy, hb]
            replace H := H.alloc hy hb rfl
            clear hy hb
            (refine Kr.outL hK (a' := ?_) ?_ (fun _ => ⟨H.c.get (j + 1 + 1 + 1 + 1) HJROW.out, (H.sub [3] rfl)⟩) ?_; rotate_left; (focus ((try simp only [Kr.PT]); first | done | rfl))); clear hK K
            refine Kr.relistL (l2 := #[true, true, true, true, true, true, true, true, true, true, false]) (by kernel_rfl) ?_
            exact nd12_7 y20 bx p12 n12 c12 p14 n14 c14 p17 n17 c17 H
          case pf12_6 =>
            intro Wd6 bx p12 n12 c12 p14 n14 c14 H
            refine Kr.readyL (rs := [8]) (by kernel_rfl) (by simp) ?_
            refine Kr.AllL.cons rfl (fun K hK => ?_) Kr.AllL.nil
            go_simp
            go_at_call 51
            have hP := rpow3_v (H.nw 1 rfl) (H.nw 0 rfl) (H.nw 4 rfl) HBN.out (Nat.lt_of_lt_of_le (Nat.lt_trans HD63.out (show 9223372036854775808 < pw 2 from by decide)) (pw_mono (by decide))) VM.out
            rw [HX0.out] at hP
            refine (hP).mono ?_
            rintro e y21 ⟨p21, n21, c21, rfl, hr, hg⟩
            replace H := H.grow hg
            replace H := H.num hr
            clear hr hg
            clear hP
            (refine Kr.outL hK (a' := ?_) ?_ (fun _ => ⟨H.c.get (j + 1 + 1 + 1 + 1) HJROW.out, (H.sub [3] rfl)⟩) ?_; rotate_left; (focus ((try simp only [Kr.PT]); first | done | rfl))); clear hK K
            refine Kr.relistL (l2 := #[true, true, true, true, true, true, true, true, true, true, false]) (by kernel_rfl) ?_
            exact nd12_7 y21 bx p12 n12 c12 p14 n14 c14 p21 n21 c21 H
          case pf12_7 =>
            intro Wd7 bx p12 n12 c12 p14 n14 c14 p17 n17 c17 H
            refine Kr.readyL (rs := [10]) (by kernel_rfl) (by simp) ?_
            refine Kr.AllL.cons rfl (fun K hK => ?_) Kr.AllL.nil
            have hk := H.c
            simp only [Kr.Cells] at hk
            have hk_row := H.c.get (j + 1 + 1 + 1 + 1) HJROW.out
            dsimp only at hk_row
            go_simp
            clear hk hk_row
            obtain ⟨y22, hy⟩ : ∃ y, Wd7.setCell ⟨bx, 0, none⟩ (.slice p17 n17 c17) = y := ⟨_, rfl⟩
            rw [hy]
            replace H := H.store 0 hy rfl rfl
            dsimp only [List.set] at H
            clear hy
            (refine Kr.outL hK (a' := ?_) ?_ (fun _ => ⟨H.c.get (j + 1 + 1 + 1 + 1) HJROW.out, (H.sub [3] rfl)⟩) ?_; rotate_left; (focus ((try simp only [Kr.PT]); first | done | rfl))); clear hK K
            refine Kr.relistL (l2 := #[true, true, true, true, true, true, true, true, true, true, true]) (by kernel_rfl) ?_
            exact nd12_8 y22 bx p12 n12 c12 p14 n14 c14 p17 n17 c17 H
          case pf12_8 =>
            intro Wd8 bx p12 n12 c12 p14 n14 c14 p17 n17 c17 H
            refine Kr.doneL (by kernel_rfl) ?_ _
            clear hj1 hj2
            replace H := H.pick [0, 3, 4, 5] rfl
            obtain ⟨k1, hk1⟩ : ∃ k1, k = k1 + 1 := ⟨k - 1, by have := HK1.out; omega⟩
            have HK2 := Lib.hid hk1; clear hk1
            have HQ3 : Hid ((decide (x0 = 1) || decide (x0 = a) || pasFrom n (x0 * x0 % n) (k - 1)) = Q) := Lib.hid (by rw [HQ2.out, HK2.out, pasFrom_succ, HA.out, Bool.or_assoc]; rfl)
            clear HQ2
            by_cases h1 : x0 = 1
            · have HOK : Hid (Q = true) := Lib.hid (by rw [← HQ3.out, decide_eq_true h1]; rfl)
              have HS1 : Hid (decide (x0 = 1) = true) := Lib.hid (decide_eq_true h1)
              clear h1 HQ3
              go_upto_region 13 with fail
              refine Kr.seqStartW ?_
              have hk := H.c
              simp only [Kr.Cells] at hk
              iterate 2 (refine Kr.seqQ (v := ?_) (a' := ?_) (by rfl) ?_ ?_ ?_; rotate_left 2; (focus (go_simp; first | done | rfl)); (focus ((try simp only [Kr.PT]); first | done | rfl)))
              refine Kr.seqR (by rfl) (fun K hK => ?_)
              go_simp
              go_at_call 25
              refine (Same_v (H.nw 0 rfl) (H.nw 1 rfl)).mono ?_
              rintro e y23 ⟨rfl, hg⟩
              rw [HS1.out]
              clear hk
              replace H := H.grow hg
              clear hg
              (refine Kr.outS hK (a' := ?_) ?_ ?_; rotate_left; (focus ((try simp only [Kr.PT]); first | done | rfl))); clear hK K
              (refine Kr.seqQ (v := ?_) (a' := ?_) (by rfl) ?_ ?_ ?_; rotate_left 2; (focus (go_simp; first | done | rfl)); (focus ((try simp only [Kr.PT]); first | done | rfl)))
              (refine Kr.seqSkipQ (a' := ?_) (by rfl) ?_ ?_; rotate_left; (focus ((try simp only [Kr.PT]); first | done | rfl)))
              (refine Kr.seqSkipQ (a' := ?_) (by rfl) ?_ ?_; rotate_left; (focus ((try simp only [Kr.PT]); first | done | rfl)))
              (refine Kr.seqSkipQ (a' := ?_) (by rfl) ?_ ?_; rotate_left; (focus ((try simp only [Kr.PT]); first | done | rfl)))
              iterate 2 (refine Kr.seqQ (v := ?_) (a' := ?_) (by rfl) ?_ ?_ ?_; rotate_left 2; (focus (go_simp; first | done | rfl)); (focus ((try simp only [Kr.PT]); first | done | rfl)))
              refine Kr.seqDoneW ?_
              have HI : Hid ((true || pasFrom n (x0 * x0 % n) (k - 1)) = Q) := Lib.hid (by rw [HOK.out]; rfl)
              go_upto_region 14 with fail
              refine Kr.seqStartW ?_
              (refine Kr.seqQ (v := ?_) (a' := ?_) (by rfl) ?_ ?_ ?_; rotate_left 2; (focus (go_simp; first | done | rfl)); (focus ((try simp only [Kr.PT]); first | done | rfl)))
              refine Kr.seqDoneW ?_
              have H2 := Lib.hid H
              clear H
              go_wp2_with fail
              go_loopw [11, 12] (fun ov i wi => ∃ (g z : Nat) (q : Bool) (pz : Option Addr) (nz cz : Nat), g ≤ k ∧ 1 ≤ g ∧ ov = .bool q ∧ i = .int .i64 (g : Int) ∧ z < n ∧ Hid ((q || pasFrom n (z * z % n) (k - g)) = Q) ∧ Hid (Sta w wi ((bx, 0, .slice pz nz cz) :: (bo, 0, .slice p7 n7 c7) :: (bl, 0, .slice p4 n4 c4) :: (bm, 0, .slice p1 n1 c1) :: rowC bb 0 bases) [N pz nz cz (z), N p7 n7 c7 (1), N p4 n4 c4 (a), N p1 n1 c1 (n)])) (fun _ i _ => k - (intOf i).toNat)
              case atStart => exact ⟨1, x0, true, _, _, _, HK1.out, Nat.le_refl _, rfl, rfl, HX0L.out, HI, H2⟩
              case round =>
                clear H2 HI
                obtain ⟨g, z, q, pz, nz, cz, hg, hg1, rfl, rfl, hz, HI, HH⟩ := hrel
                have H := HH.out; have HZ := Lib.hid hz; have HG1 := Lib.hid hg1; clear HH hz hg1
                skip
                by_cases hgk : g = k
                · have HL2 : Hid (decide ((g : Int) < (k : Int)) = false) := Lib.hid (decide_eq_false (by omega))
                  have HQV : Hid (Q = q) := Lib.hid (by rw [← HI.out, hgk, Nat.sub_self]; cases q <;> rfl)
                  clear hgk
                  go_upto_region 15 with fail
                  refine Kr.seqStartW ?_
                  iterate 2 (refine Kr.seqQ (v := ?_) (a' := ?_) (by rfl) ?_ ?_ ?_; rotate_left 2; (focus (go_simp; first | done | rfl)); (focus ((try simp only [Kr.PT]); first | done | rfl)))
                  (refine Kr.seqQ (v := .bool false) (a' := ?_) (by rfl) ?_ ?_ ?_; rotate_left 1; (focus (exact Kr.valOf rfl (lssT HL2.out))); (focus ((try simp only [Kr.PT]); first | done | rfl)))
                  (refine Kr.seqQ (v := ?_) (a' := ?_) (by rfl) ?_ ?_ ?_; rotate_left 2; (focus (go_simp; first | done | rfl)); (focus ((try simp only [Kr.PT]); first | done | rfl)))
                  (refine Kr.seqSkipQ (a' := ?_) (by rfl) ?_ ?_; rotate_left; (focus ((try simp only [Kr.PT]); first | done | rfl)))
                  (refine Kr.seqSkipQ (a' := ?_) (by rfl) ?_ ?_; rotate_left; (focus ((try simp only [Kr.PT]); first | done | rfl)))
                  (refine Kr.seqQ (v := ?_) (a' := ?_) (by rfl) ?_ ?_ ?_; rotate_left 2; (focus (go_simp; first | done | rfl)); (focus ((try simp only [Kr.PT]); first | done | rfl)))
                  refine Kr.seqDoneW ?_
                  cases q
                  · have HV : Hid (Q = false) := Lib.hid HQV.out
                    go_upto_region 19 with fail
                    refine Kr.seqStartW ?_
                    iterate 2 (refine Kr.seqQ (v := ?_) (a' := ?_) (by rfl) ?_ ?_ ?_; rotate_left 2; (focus (go_simp; first | done | rfl)); (focus ((try simp only [Kr.PT]); first | done | rfl)))
                    refine Kr.seqDoneW ?_
                    obtain rfl : false = QQ := by rw [← HQB.out, HV.out]; rfl
                    go_upto_region 20 with fail
                    refine Kr.seqStartW ?_
                    (refine Kr.seqQ (v := ?_) (a' := ?_) (by rfl) ?_ ?_ ?_; rotate_left 2; (focus (go_simp; first | done | rfl)); (focus ((try simp only [Kr.PT]); first | done | rfl)))
                    refine Kr.seqDoneW ?_
                    have hk := H.c
                    simp only [Kr.Cells] at hk
                    go_wp2
                    refine bodyPost_ret (v := .bool false) (by simp [results, Tryd.results31, go_sem, hk]) rfl ⟨rfl, H.g⟩
                  · have HV : Hid (Q = true) := Lib.hid HQV.out
                    go_upto_region 19 with fail
                    refine Kr.seqStartW ?_
                    iterate 2 (refine Kr.seqQ (v := ?_) (a' := ?_) (by rfl) ?_ ?_ ?_; rotate_left 2; (focus (go_simp; first | done | rfl)); (focus ((try simp only [Kr.PT]); first | done | rfl)))
                    refine Kr.seqDoneW ?_
                    have HADD : Hid (IntKind.i64.wrap ((j : Int) + 1) = ((j + 1 : Nat) : Int)) := Lib.hid (wrap_nat (by omega) (by have h1 := HJ.out; omega))
                    go_upto_region 11 with fail
                    refine Kr.seqStartW ?_
                    (refine Kr.seqQ (v := ?_) (a' := ?_) (by rfl) ?_ ?_ ?_; rotate_left 2; (focus (go_simp; first | done | rfl)); (focus ((try simp only [Kr.PT]); first | done | rfl)))
                    (refine Kr.seqQ (v := .int .i64 ((j + 1 : Nat) : Int)) (a' := ?_) (by rfl) ?_ ?_ ?_; rotate_left 1; (focus (exact Kr.valOf rfl (addI HADD.out))); (focus ((try simp only [Kr.PT]); first | done | rfl)))
                    (refine Kr.seqQ (v := ?_) (a' := ?_) (by rfl) ?_ ?_ ?_; rotate_left 2; (focus (go_simp; first | done | rfl)); (focus ((try simp only [Kr.PT]); first | done | rfl)))
                    refine Kr.seqDoneW ?_
                    go_wp2
                    go_roundw
                    case rel => exact ⟨j + 1, HJ.out, rfl, Lib.hid (by rw [← HQB.out, HV.out]; rfl), Lib.hid ((H.drop 1).pick [1, 2, 3] rfl)⟩
                    case measure => simp [intOf]; have := HJ.out; omega
                · have HG : Hid (g < k) := Lib.hid (by omega)
                  have HL2 : Hid (decide ((g : Int) < (k : Int)) = true) := Lib.hid (decide_eq_true (by omega))
                  clear hgk
                  cases q
                  · obtain ⟨z2, hz2⟩ : ∃ z2, z * z % n = z2 := ⟨_, rfl⟩
                    have HZ2 := Lib.hid hz2; have HZ2L : Hid (z2 < n) := Lib.hid (hz2 ▸ Nat.mod_lt _ (Nat.lt_of_le_of_lt (Nat.zero_le _) HZ.out)); clear hz2
                    obtain ⟨q2, hq2⟩ : ∃ q2, decide (z2 = a) = q2 := ⟨_, rfl⟩
                    have HS3 := Lib.hid hq2; clear hq2
                    have HI2 : Hid ((q2 || pasFrom n (z2 * z2 % n) (k - (g + 1))) = Q) := Lib.hid (by have h := HI.out; rw [HZ2.out, show k - g = (k - (g + 1)) + 1 by have := HG.out; omega, pasFrom_succ, HA.out, HS3.out, Bool.false_or] at h; exact h)
                    clear HI
                    go_upto_region 15 with fail
                    refine Kr.seqStartW ?_
                    iterate 2 (refine Kr.seqQ (v := ?_) (a' := ?_) (by rfl) ?_ ?_ ?_; rotate_left 2; (focus (go_simp; first | done | rfl)); (focus ((try simp only [Kr.PT]); first | done | rfl)))
                    (refine Kr.seqQ (v := .bool true) (a' := ?_) (by rfl) ?_ ?_ ?_; rotate_left 1; (focus (exact Kr.valOf rfl (lssT HL2.out))); (focus ((try simp only [Kr.PT]); first | done | rfl)))
                    iterate 4 (refine Kr.seqQ (v := ?_) (a' := ?_) (by rfl) ?_ ?_ ?_; rotate_left 2; (focus (go_simp; first | done | rfl)); (focus ((try simp only [Kr.PT]); first | done | rfl)))
                    refine Kr.seqDoneW ?_
                    go_upto_region 17 with fail
                    refine Kr.seqStartW ?_
                    have hk := H.c
                    simp only [Kr.Cells] at hk
                    iterate 3 (refine Kr.seqQ (v := ?_) (a' := ?_) (by rfl) ?_ ?_ ?_; rotate_left 2; (focus (go_simp; first | done | rfl)); (focus ((try simp only [Kr.PT]); first | done | rfl)))
                    refine Kr.seqR (by rfl) (fun K hK => ?_)
                    go_simp
                    go_at_call 52
                    have hP := rmul3_v (H.nw 0 rfl) (H.nw 0 rfl) (H.nw 3 rfl) HZ.out HZ.out VM.out
                    rw [HZ2.out] at hP
                    refine (hP).mono ?_
                    rintro e y24 ⟨p24, n24, c24, rfl, hr, hg⟩
                    clear hk
                    replace H := H.grow hg
                    replace H := H.num hr
                    clear hr hg
                    clear hP
                    (refine Kr.outS hK (a' := ?_) ?_ ?_; rotate_left; (focus ((try simp only [Kr.PT]); first | done | rfl))); clear hK K
                    have hk := H.c
                    simp only [Kr.Cells] at hk
                    refine Kr.seqR (by rfl) (fun K hK => ?_)
                    go_simp
                    clear hk
                    obtain ⟨y25, hy⟩ : ∃ y, y24.setCell ⟨bx, 0, none⟩ (.slice p24 n24 c24) = y := ⟨_, rfl⟩
                    rw [hy]
                    replace H := H.store 0 hy rfl rfl
                    dsimp only [List.set] at H
                    clear hy
                    (refine Kr.outS hK (a' := ?_) ?_ ?_; rotate_left; (focus ((try simp only [Kr.PT]); first | done | rfl))); clear hK K
                    refine Kr.seqDoneW ?_
                    go_upto_region 18 with fail
                    refine Kr.seqStartW ?_
                    have hk := H.c
                    simp only [Kr.Cells] at hk
                    iterate 2 (refine Kr.seqQ (v := ?_) (a' := ?_) (by rfl) ?_ ?_ ?_; rotate_left 2; (focus (go_simp; first | done | rfl)); (focus ((try simp only [Kr.PT]); first | done | rfl)))
                    refine Kr.seqR (by rfl) (fun K hK => ?_)
                    go_simp
                    go_at_call 25
                    refine (Same_v (H.nw 0 rfl) (H.nw 3 rfl)).mono ?_
                    rintro e y26 ⟨rfl, hg⟩
                    rw [HS3.out]
                    clear hk
                    replace H := H.grow hg
                    clear hg
                    (refine Kr.outS hK (a' := ?_) ?_ ?_; rotate_left; (focus ((try simp only [Kr.PT]); first | done | rfl))); clear hK K
                    (refine Kr.seqQ (v := ?_) (a' := ?_) (by rfl) ?_ ?_ ?_; rotate_left 2; (focus (go_simp; first | done | rfl)); (focus ((try simp only [Kr.PT]); first | done | rfl)))
                    refine Kr.seqDoneW ?_
                    have HADD : Hid (IntKind.i64.wrap ((g : Int) + 1) = ((g + 1 : Nat) : Int)) := Lib.hid (wrap_nat (by omega) (by have h1 := HG.out; have h2 := HK64.out; omega))
                    go_upto_region 16 with fail
                    refine Kr.seqStartW ?_
                    (refine Kr.seqQ (v := ?_) (a' := ?_) (by rfl) ?_ ?_ ?_; rotate_left 2; (focus (go_simp; first | done | rfl)); (focus ((try simp only [Kr.PT]); first | done | rfl)))
                    (refine Kr.seqQ (v := .int .i64 ((g + 1 : Nat) : Int)) (a' := ?_) (by rfl) ?_ ?_ ?_; rotate_left 1; (focus (exact Kr.valOf rfl (addI HADD.out))); (focus ((try simp only [Kr.PT]); first | done | rfl)))
                    (refine Kr.seqQ (v := ?_) (a' := ?_) (by rfl) ?_ ?_ ?_; rotate_left 2; (focus (go_simp; first | done | rfl)); (focus ((try simp only [Kr.PT]); first | done | rfl)))
                    refine Kr.seqDoneW ?_
                    go_wp2
                    go_roundw
                    case rel => exact ⟨g + 1, z2, q2, _, _, _, HG.out, Nat.succ_pos _, rfl, rfl, HZ2L.out, HI2, Lib.hid (H.pick [0, 2, 3, 4] rfl)⟩
                    case measure => simp [intOf]; have := HG.out; omega
                  · have HQV : Hid (Q = true) := Lib.hid (by rw [← HI.out]; rfl)
                    go_upto_region 15 with fail
                    refine Kr.seqStartW ?_
                    iterate 2 (refine Kr.seqQ (v := ?_) (a' := ?_) (by rfl) ?_ ?_ ?_; rotate_left 2; (focus (go_simp; first | done | rfl)); (focus ((try simp only [Kr.PT]); first | done | rfl)))
                    (refine Kr.seqQ (v := .bool true) (a' := ?_) (by rfl) ?_ ?_ ?_; rotate_left 1; (focus (exact Kr.valOf rfl (lssT HL2.out))); (focus ((try simp only [Kr.PT]); first | done | rfl)))
                    iterate 4 (refine Kr.seqQ (v := ?_) (a' := ?_) (by rfl) ?_ ?_ ?_; rotate_left 2; (focus (go_simp; first | done | rfl)); (focus ((try simp only [Kr.PT]); first | done | rfl)))
                    refine Kr.seqDoneW ?_
                    go_upto_region 19 with fail
                    refine Kr.seqStartW ?_
                    iterate 2 (refine Kr.seqQ (v := ?_) (a' := ?_) (by rfl) ?_ ?_ ?_; rotate_left 2; (focus (go_simp; first | done | rfl)); (focus ((try simp only [Kr.PT]); first | done | rfl)))
                    refine Kr.seqDoneW ?_
                    have HADD : Hid (IntKind.i64.wrap ((j : Int) + 1) = ((j + 1 : Nat) : Int)) := Lib.hid (wrap_nat (by omega) (by have h1 := HJ.out; omega))
                    go_upto_region 11 with fail
                    refine Kr.seqStartW ?_
                    (refine Kr.seqQ (v := ?_) (a' := ?_) (by rfl) ?_ ?_ ?_; rotate_left 2; (focus (go_simp; first | done | rfl)); (focus ((try simp only [Kr.PT]); first | done | rfl)))
                    (refine Kr.seqQ (v := .int .i64 ((j + 1 : Nat) : Int)) (a' := ?_) (by rfl) ?_ ?_ ?_; rotate_left 1; (focus (exact Kr.valOf rfl (addI HADD.out))); (focus ((try simp only [Kr.PT]); first | done | rfl)))
                    (refine Kr.seqQ (v := ?_) (a' := ?_) (by rfl) ?_ ?_ ?_; rotate_left 2; (focus (go_simp; first | done | rfl)); (focus ((try simp only [Kr.PT]); first | done | rfl)))
                    refine Kr.seqDoneW ?_
                    go_wp2
                    go_roundw
                    case rel => exact ⟨j + 1, HJ.out, rfl, Lib.hid (by rw [← HQB.out, HQV.out]; rfl), Lib.hid ((H.drop 1).pick [1, 2, 3] rfl)⟩
                    case measure => simp [intOf]; have := HJ.out; omega
            · have HS1 : Hid (decide (x0 = 1) = false) := Lib.hid (decide_eq_false h1)
              clear h1
              obtain ⟨ok, hok⟩ : ∃ ok, decide (x0 = a) = ok := ⟨_, rfl⟩
              have HS2 := Lib.hid hok; clear hok
              have HI : Hid ((ok || pasFrom n (x0 * x0 % n) (k - 1)) = Q) := Lib.hid (by rw [← HQ3.out, HS1.out, HS2.out, Bool.false_or])
              clear HQ3
              go_upto_region 13 with fail
              refine Kr.seqStartW ?_
              have hk := H.c
              simp only [Kr.Cells] at hk
              iterate 2 (refine Kr.seqQ (v := ?_) (a' := ?_) (by rfl) ?_ ?_ ?_; rotate_left 2; (focus (go_simp; first | done | rfl)); (focus ((try simp only [Kr.PT]); first | done | rfl)))
              refine Kr.seqR (by rfl) (fun K hK => ?_)
              go_simp
              go_at_call 25
              refine (Same_v (H.nw 0 rfl) (H.nw 1 rfl)).mono ?_
              rintro e y27 ⟨rfl, hg⟩
              rw [HS1.out]
              clear hk
              replace H := H.grow hg
              clear hg
              (refine Kr.outS hK (a' := ?_) ?_ ?_; rotate_left; (focus ((try simp only [Kr.PT]); first | done | rfl))); clear hK K
              (refine Kr.seqQ (v := ?_) (a' := ?_) (by rfl) ?_ ?_ ?_; rotate_left 2; (focus (go_simp; first | done | rfl)); (focus ((try simp only [Kr.PT]); first | done | rfl)))
              have hk := H.c
              simp only [Kr.Cells] at hk
              iterate 2 (refine Kr.seqQ (v := ?_) (a' := ?_) (by rfl) ?_ ?_ ?_; rotate_left 2; (focus (go_simp; first | done | rfl)); (focus ((try simp only [Kr.PT]); first | done | rfl)))
              refine Kr.seqR (by rfl) (fun K hK => ?_)
              go_simp
              go_at_call 25
              refine (Same_v (H.nw 0 rfl) (H.nw 2 rfl)).mono ?_
              rintro e y28 ⟨rfl, hg⟩
              rw [HS2.out]
              clear hk
              replace H := H.grow hg
              clear hg
              (refine Kr.outS hK (a' := ?_) ?_ ?_; rotate_left; (focus ((try simp only [Kr.PT]); first | done | rfl))); clear hK K
              iterate 2 (refine Kr.seqQ (v := ?_) (a' := ?_) (by rfl) ?_ ?_ ?_; rotate_left 2; (focus (go_simp; first | done | rfl)); (focus ((try simp only [Kr.PT]); first | done | rfl)))
              refine Kr.seqDoneW ?_
              go_upto_region 14 with fail
              refine Kr.seqStartW ?_
              (refine Kr.seqQ (v := ?_) (a' := ?_) (by rfl) ?_ ?_ ?_; rotate_left 2; (focus (go_simp; first | done | rfl)); (focus ((try simp only [Kr.PT]); first | done | rfl)))
              refine Kr.seqDoneW ?_
              have H2 := Lib.hid H
              clear H
              go_wp2_with fail
              go_loopw [11, 12] (fun ov i wi => ∃ (g z : Nat) (q : Bool) (pz : Option Addr) (nz cz : Nat), g ≤ k ∧ 1 ≤ g ∧ ov = .bool q ∧ i = .int .i64 (g : Int) ∧ z < n ∧ Hid ((q || pasFrom n (z * z % n) (k - g)) = Q) ∧ Hid (Sta w wi ((bx, 0, .slice pz nz cz) :: (bo, 0, .slice p7 n7 c7) :: (bl, 0, .slice p4 n4 c4) :: (bm, 0, .slice p1 n1 c1) :: rowC bb 0 bases) [N pz nz cz (z), N p7 n7 c7 (1), N p4 n4 c4 (a), N p1 n1 c1 (n)])) (fun _ i _ => k - (intOf i).toNat)
              case atStart => exact ⟨1, x0, ok, _, _, _, HK1.out, Nat.le_refl _, rfl, rfl, HX0L.out, HI, H2⟩
              case round =>
                clear H2 HI
                obtain ⟨g, z, q, pz, nz, cz, hg, hg1, rfl, rfl, hz, HI, HH⟩ := hrel
                have H := HH.out; have HZ := Lib.hid hz; have HG1 := Lib.hid hg1; clear HH hz hg1
                skip
                by_cases hgk : g = k
                · have HL2 : Hid (decide ((g : Int) < (k : Int)) = false) := Lib.hid (decide_eq_false (by omega))
                  have HQV : Hid (Q = q) := Lib.hid (by rw [← HI.out, hgk, Nat.sub_self]; cases q <;> rfl)
                  clear hgk
                  go_upto_region 15 with fail
                  refine Kr.seqStartW ?_
                  iterate 2 (refine Kr.seqQ (v := ?_) (a' := ?_) (by rfl) ?_ ?_ ?_; rotate_left 2; (focus (go_simp; first | done | rfl)); (focus ((try simp only [Kr.PT]); first | done | rfl)))
                  (refine Kr.seqQ (v := .bool false) (a' := ?_) (by rfl) ?_ ?_ ?_; rotate_left 1; (focus (exact Kr.valOf rfl (lssT HL2.out))); (focus ((try simp only [Kr.PT]); first | done | rfl)))
                  (refine Kr.seqQ (v := ?_) (a' := ?_) (by rfl) ?_ ?_ ?_; rotate_left 2; (focus (go_simp; first | done | rfl)); (focus ((try simp only [Kr.PT]); first | done | rfl)))
                  (refine Kr.seqSkipQ (a' := ?_) (by rfl) ?_ ?_; rotate_left; (focus ((try simp only [Kr.PT]); first | done | rfl)))
                  (refine Kr.seqSkipQ (a' := ?_) (by rfl) ?_ ?_; rotate_left; (focus ((try simp only [Kr.PT]); first | done | rfl)))
                  (refine Kr.seqQ (v := ?_) (a' := ?_) (by rfl) ?_ ?_ ?_; rotate_left 2; (focus (go_simp; first | done | rfl)); (focus ((try simp only [Kr.PT]); first | done | rfl)))
                  refine Kr.seqDoneW ?_
                  cases q
                  · have HV : Hid (Q = false) := Lib.hid HQV.out
                    go_upto_region 19 with fail
                    refine Kr.seqStartW ?_
                    iterate 2 (refine Kr.seqQ (v := ?_) (a' := ?_) (by rfl) ?_ ?_ ?_; rotate_left 2; (focus (go_simp; first | done | rfl)); (focus ((try simp only [Kr.PT]); first | done | rfl)))
                    refine Kr.seqDoneW ?_
                    obtain rfl : false = QQ := by rw [← HQB.out, HV.out]; rfl
                    go_upto_region 20 with fail
                    refine Kr.seqStartW ?_
                    (refine Kr.seqQ (v := ?_) (a' := ?_) (by rfl) ?_ ?_ ?_; rotate_left 2; (focus (go_simp; first | done | rfl)); (focus ((try simp only [Kr.PT]); first | done | rfl)))
                    refine Kr.seqDoneW ?_
                    have hk := H.c
                    simp only [Kr.Cells] at hk
                    go_wp2
                    refine bodyPost_ret (v := .bool false) (by simp [results, Tryd.results31, go_sem, hk]) rfl ⟨rfl, H.g⟩
                  · have HV : Hid (Q = true) := Lib.hid HQV.out
                    go_upto_region 19 with fail
                    refine Kr.seqStartW ?_
                    iterate 2 (refine Kr.seqQ (v := ?_) (a' := ?_) (by rfl) ?_ ?_ ?_; rotate_left 2; (focus (go_simp; first | done | rfl)); (focus ((try simp only [Kr.PT]); first | done | rfl)))
                    refine Kr.seqDoneW ?_
                    have HADD : Hid (IntKind.i64.wrap ((j : Int) + 1) = ((j + 1 : Nat) : Int)) := Lib.hid (wrap_nat (by omega) (by have h1 := HJ.out; omega))
                    go_upto_region 11 with fail
                    refine Kr.seqStartW ?_
                    (refine Kr.seqQ (v := ?_) (a' := ?_) (by rfl) ?_ ?_ ?_; rotate_left 2; (focus (go_simp; first | done | rfl)); (focus ((try simp only [Kr.PT]); first | done | rfl)))
                    (refine Kr.seqQ (v := .int .i64 ((j + 1 : Nat) : Int)) (a' := ?_) (by rfl) ?_ ?_ ?_; rotate_left 1; (focus (exact Kr.valOf rfl (addI HADD.out))); (focus ((try simp only [Kr.PT]); first | done | rfl)))
                    (refine Kr.seqQ (v := ?_) (a' := ?_) (by rfl) ?_ ?_ ?_; rotate_left 2; (focus (go_simp; first | done | rfl)); (focus ((try simp only [Kr.PT]); first | done | rfl)))
                    refine Kr.seqDoneW ?_
                    go_wp2
                    go_roundw
                    case rel => exact ⟨j + 1, HJ.out, rfl, Lib.hid (by rw [← HQB.out, HV.out]; rfl), Lib.hid ((H.drop 1).pick [1, 2, 3] rfl)⟩
                    case measure => simp [intOf]; have := HJ.out; omega
                · have HG : Hid (g < k) := Lib.hid (by omega)
                  have HL2 : Hid (decide ((g : Int) < (k : Int)) = true) := Lib.hid (decide_eq_true (by omega))
                  clear hgk
                  cases q
                  · obtain ⟨z2, hz2⟩ : ∃ z2, z * z % n = z2 := ⟨_, rfl⟩
                    have HZ2 := Lib.hid hz2; have HZ2L : Hid (z2 < n) := Lib.hid (hz2 ▸ Nat.mod_lt _ (Nat.lt_of_le_of_lt (Nat.zero_le _) HZ.out)); clear hz2
                    obtain ⟨q2, hq2⟩ : ∃ q2, decide (z2 = a) = q2 := ⟨_, rfl⟩
                    have HS3 := Lib.hid hq2; clear hq2
                    have HI2 : Hid ((q2 || pasFrom n (z2 * z2 % n) (k - (g + 1))) = Q) := Lib.hid (by have h := HI.out; rw [HZ2.out, show k - g = (k - (g + 1)) + 1 by have := HG.out; omega, pasFrom_succ, HA.out, HS3.out, Bool.false_or] at h; exact h)
                    clear HI
                    go_upto_region 15 with fail
                    refine Kr.seqStartW ?_
                    iterate 2 (refine Kr.seqQ (v := ?_) (a' := ?_) (by rfl) ?_ ?_ ?_; rotate_left 2; (focus (go_simp; first | done | rfl)); (focus ((try simp only [Kr.PT]); first | done | rfl)))
                    (refine Kr.seqQ (v := .bool true) (a' := ?_) (by rfl) ?_ ?_ ?_; rotate_left 1; (focus (exact Kr.valOf rfl (lssT HL2.out))); (focus ((try simp only [Kr.PT]); first | done | rfl)))
                    iterate 4 (refine Kr.seqQ (v := ?_) (a' := ?_) (by rfl) ?_ ?_ ?_; rotate_left 2; (focus (go_simp; first | done | rfl)); (focus ((try simp only [Kr.PT]); first | done | rfl)))
                    refine Kr.seqDoneW ?_
                    go_upto_region 17 with fail
                    refine Kr.seqStartW ?_
                    have hk := H.c
                    simp only [Kr.Cells] at hk
                    iterate 3 (refine Kr.seqQ (v := ?_) (a' := ?_) (by rfl) ?_ ?_ ?_; rotate_left 2; (focus (go_simp; first | done | rfl)); (focus ((try simp only [Kr.PT]); first | done | rfl)))
                    refine Kr.seqR (by rfl) (fun K hK => ?_)
                    go_simp
                    go_at_call 52
                    have hP := rmul3_v (H.nw 0 rfl) (H.nw 0 rfl) (H.nw 3 rfl) HZ.out HZ.out VM.out
                    rw [HZ2.out] at hP
                    refine (hP).mono ?_
                    rintro e y29 ⟨p29, n29, c29, rfl, hr, hg⟩
                    clear hk
                    replace H := H.grow hg
                    replace H := H.num hr
                    clear hr hg
                    clear hP
                    (refine Kr.outS hK (a' := ?_) ?_ ?_; rotate_left; (focus ((try simp only [Kr.PT]); first | done | rfl))); clear hK K
                    have hk := H.c
                    simp only [Kr.Cells] at hk
                    refine Kr.seqR (by rfl) (fun K hK => ?_)
                    go_simp
                    clear hk
                    obtain ⟨y30, hy⟩ : ∃ y, y29.setCell ⟨bx, 0, none⟩ (.slice p29 n29 c29) = y := ⟨_, rfl⟩
                    rw [hy]
                    replace H := H.store 0 hy rfl rfl
                    dsimp only [List.set] at H
                    clear hy
                    (refine Kr.outS hK (a' := ?_) ?_ ?_; rotate_left; (focus ((try simp only [Kr.PT]); first | done | rfl))); clear hK K
                    refine Kr.seqDoneW ?_
                    go_upto_region 18 with fail
                    refine Kr.seqStartW ?_
                    have hk := H.c
                    simp only [Kr.Cells] at hk
                    iterate 2 (refine Kr.seqQ (v := ?_) (a' := ?_) (by rfl) ?_ ?_ ?_; rotate_left 2; (focus (go_simp; first | done | rfl)); (focus ((try simp only [Kr.PT]); first | done | rfl)))
                    refine Kr.seqR (by rfl) (fun K hK => ?_)
                    go_simp
                    go_at_call 25
                    refine (Same_v (H.nw 0 rfl) (H.nw 3 rfl)).mono ?_
                    rintro e y31 ⟨rfl, hg⟩
                    rw [HS3.out]
                    clear hk
                    replace H := H.grow hg
                    clear hg
                    (refine Kr.outS hK (a' := ?_) ?_ ?_; rotate_left; (focus ((try simp only [Kr.PT]); first | done | rfl))); clear hK K
                    (refine Kr.seqQ (v := ?_) (a' := ?_) (by rfl) ?_ ?_ ?_; rotate_left 2; (focus (go_simp; first | done | rfl)); (focus ((try simp only [Kr.PT]); first | done | rfl)))
                    refine Kr.seqDoneW ?_
                    have HADD : Hid (IntKind.i64.wrap ((g : Int) + 1) = ((g + 1 : Nat) : Int)) := Lib.hid (wrap_nat (by omega) (by have h1 := HG.out; have h2 := HK64.out; omega))
                    go_upto_region 16 with fail
                    refine Kr.seqStartW ?_
                    (refine Kr.seqQ (v := ?_) (a' := ?_) (by rfl) ?_ ?_ ?_; rotate_left 2; (focus (go_simp; first | done | rfl)); (focus ((try simp only [Kr.PT]); first | done | rfl)))
                    (refine Kr.seqQ (v := .int .i64 ((g + 1 : Nat) : Int)) (a' := ?_) (by rfl) ?_ ?_ ?_; rotate_left 1; (focus (exact Kr.valOf rfl (addI HADD.out))); (focus ((try simp only [Kr.PT]); first | done | rfl)))
                    (refine Kr.seqQ (v := ?_) (a' := ?_) (by rfl) ?_ ?_ ?_; rotate_left 2; (focus (go_simp; first | done | rfl)); (focus ((try simp only [Kr.PT]); first | done | rfl)))
                    refine Kr.seqDoneW ?_
                    go_wp2
                    go_roundw
                    case rel => exact ⟨g + 1, z2, q2, _, _, _, HG.out, Nat.succ_pos _, rfl, rfl, HZ2L.out, HI2, Lib.hid (H.pick [0, 2, 3, 4] rfl)⟩
                    case measure => simp [intOf]; have := HG.out; omega
                  · have HQV : Hid (Q = true) := Lib.hid (by rw [← HI.out]; rfl)
                    go_upto_region 15 with fail
                    refine Kr.seqStartW ?_
                    iterate 2 (refine Kr.seqQ (v := ?_) (a' := ?_) (by rfl) ?_ ?_ ?_; rotate_left 2; (focus (go_simp; first | done | rfl)); (focus ((try simp only [Kr.PT]); first | done | rfl)))
                    (refine Kr.seqQ (v := .bool true) (a' := ?_) (by rfl) ?_ ?_ ?_; rotate_left 1; (focus (exact Kr.valOf rfl (lssT HL2.out))); (focus ((try simp only [Kr.PT]); first | done | rfl)))
                    iterate 4 (refine Kr.seqQ (v := ?_) (a' := ?_) (by rfl) ?_ ?_ ?_; rotate_left 2; (focus (go_simp; first | done | rfl)); (focus ((try simp only [Kr.PT]); first | done | rfl)))
                    refine Kr.seqDoneW ?_
                    go_upto_region 19 with fail
                    refine Kr.seqStartW ?_
                    iterate 2 (refine Kr.seqQ (v := ?_) (a' := ?_) (by rfl) ?_ ?_ ?_; rotate_left 2; (focus (go_simp; first | done | rfl)); (focus ((try simp only [Kr.PT]); first | done | rfl)))
                    refine Kr.seqDoneW ?_
                    have HADD : Hid (IntKind.i64.wrap ((j : Int) + 1) = ((j + 1 : Nat) : Int)) := Lib.hid (wrap_nat (by omega) (by have h1 := HJ.out; omega))
                    go_upto_region 11 with fail
                    refine Kr.seqStartW ?_
                    (refine Kr.seqQ (v := ?_) (a' := ?_) (by rfl) ?_ ?_ ?_; rotate_left 2; (focus (go_simp; first | done | rfl)); (focus ((try simp only [Kr.PT]); first | done | rfl)))
                    (refine Kr.seqQ (v := .int .i64 ((j + 1 : Nat) : Int)) (a' := ?_) (by rfl) ?_ ?_ ?_; rotate_left 1; (focus (exact Kr.valOf rfl (addI HADD.out))); (focus ((try simp only [Kr.PT]); first | done | rfl)))
                    (refine Kr.seqQ (v := ?_) (a' := ?_) (by rfl) ?_ ?_ ?_; rotate_left 2; (focus (go_simp; first | done | rfl)); (focus ((try simp only [Kr.PT]); first | done | rfl)))
                    refine Kr.seqDoneW ?_
                    go_wp2
                    go_roundw
                    case rel => exact ⟨j + 1, HJ.out, rfl, Lib.hid (by rw [← HQB.out, HQV.out]; rfl), Lib.hid ((H.drop 1).pick [1, 2, 3] rfl)⟩
                    case measure => simp [intOf]; have := HJ.out; omega
    · have hev : d % 2 = 0 := by omega
      have HEV := Lib.hid hev; have HR0 : Hid (decide (((0 : Nat) : Int) = 0) = true) := Lib.hid (by decide)
      clear hod hev
      obtain ⟨h, hh⟩ : ∃ h, d / 2 = h := ⟨_, rfl⟩
      have HHF := Lib.hid hh; have HH0 : Hid (0 < h ∧ h < d) := Lib.hid (by have h1 := HD0.out; have h2 := HEV.out; omega)
      clear hh
      have HPD2 : Hid (2 ^ (k + 1) * h = a) := Lib.hid (by rw [← HPD.out, Nat.pow_succ, Nat.mul_assoc, show 2 * h = d by have h1 := HHF.out; have h2 := HEV.out; omega])
      go_upto_region 5 with fail
      refine Kr.seqStartW ?_
      (refine Kr.seqQ (v := ?_) (a' := ?_) (by rfl) ?_ ?_ ?_; rotate_left 2; (focus (go_simp; first | done | rfl)); (focus ((try simp only [Kr.PT]); first | done | rfl)))
      (refine Kr.seqQ (v := .int .i64 ((0 : Nat) : Int)) (a' := ?_) (by rfl) ?_ ?_ ?_; rotate_left 1; (focus (exact Kr.valOf rfl (remI (by decide) HEV.out (by decide)))); (focus ((try simp only [Kr.PT]); first | done | rfl)))
      (refine Kr.seqQ (v := .bool true) (a' := ?_) (by rfl) ?_ ?_ ?_; rotate_left 1; (focus (exact Kr.valOf rfl (eqlI HR0.out))); (focus ((try simp only [Kr.PT]); first | done | rfl)))
      refine Kr.seqDoneW ?_
      go_upto_region 6 with fail
      refine Kr.seqStartW ?_
      (refine Kr.seqQ (v := ?_) (a' := ?_) (by rfl) ?_ ?_ ?_; rotate_left 2; (focus (go_simp; first | done | rfl)); (focus ((try simp only [Kr.PT]); first | done | rfl)))
      (refine Kr.seqQ (v := .int .i64 (h : Int)) (a' := ?_) (by rfl) ?_ ?_ ?_; rotate_left 1; (focus (exact Kr.valOf rfl (quoI (by decide) HHF.out HD63.out))); (focus ((try simp only [Kr.PT]); first | done | rfl)))
      (refine Kr.seqQ (v := ?_) (a' := ?_) (by rfl) ?_ ?_ ?_; rotate_left 2; (focus (go_simp; first | done | rfl)); (focus ((try simp only [Kr.PT]); first | done | rfl)))
      refine Kr.seqDoneW ?_
      have HADD : Hid (IntKind.i64.wrap ((k : Int) + 1) = ((k + 1 : Nat) : Int)) := Lib.hid (wrap_nat (by omega) (by have h1 := HK64.out; omega))
      go_upto_region 7 with fail
      refine Kr.seqStartW ?_
      (refine Kr.seqQ (v := ?_) (a' := ?_) (by rfl) ?_ ?_ ?_; rotate_left 2; (focus (go_simp; first | done | rfl)); (focus ((try simp only [Kr.PT]); first | done | rfl)))
      (refine Kr.seqQ (v := .int .i64 ((k + 1 : Nat) : Int)) (a' := ?_) (by rfl) ?_ ?_ ?_; rotate_left 1; (focus (exact Kr.valOf rfl (addI HADD.out))); (focus ((try simp only [Kr.PT]); first | done | rfl)))
      (refine Kr.seqQ (v := ?_) (a' := ?_) (by rfl) ?_ ?_ ?_; rotate_left 2; (focus (go_simp; first | done | rfl)); (focus ((try simp only [Kr.PT]); first | done | rfl)))
      refine Kr.seqDoneW ?_
      go_wp2
      go_roundw
      case rel => exact ⟨h, k + 1, rfl, rfl, HH0.out.1, Nat.le_trans (Nat.le_of_lt HH0.out.2) HDA.out, HPD2, Lib.hid H⟩
      case measure => simp [intOf]; have := HH0.out; omega
end Go.Proofs.YtfompolklkehpaaDoor.Pr


/- The reference's Is. -/
namespace Go.Proofs.YtfompolklkehpaaDoor.Pr
open Go.RowKit Go.Shelf Go.Proofs.YtfompolklkehpaaDoor.Nm Go.Proofs.YtfompolklkehpaaDoor.Ne Go.Proofs.YtfompolklkehpaaDoor.Nf Go.Proofs.YtfompolklkehpaaDoor.Nk Go.Proofs.YtfompolklkehpaaDoor.Nv Go.Proofs.YtfompolklkehpaaDoor.Nr2 Go.Proofs.YtfompolklkehpaaDoor.Mo Go.Proofs.YtfompolklkehpaaDoor.Mr Go.Proofs.YtfompolklkehpaaDoor.Kr

theorem geqI {w : World} {x y : Int} {b : Bool} (h : decide (y ≤ x) = b) : (binOp .geq 3 (.int .i64 x) (.int .i64 y)).run Tryd.prog w = .ok (.bool b) w := by
  go_simp
set_option linter.unusedSimpArgs false in
set_option maxRecDepth 100000 in
set_option maxHeartbeats 16000000 in
theorem rIs_low {n : Int} {w : World} (h : n < 2) :
    Calls Tryd.prog 13 #[.int .i64 n] w fun r w' => r = .returned (.bool false) ∧ Gr w w' := by
  have HL : Hid (decide (n < 2) = true) := Lib.hid (decide_eq_true h); clear h
  have H := Sta.start w
  go_enter Tryd.func13, Tryd.ntmps13
  go_upto_region 0 with fail
  refine Kr.seqStartW ?_
  (refine Kr.seqQ (v := ?_) (a' := ?_) (by rfl) ?_ ?_ ?_; rotate_left 2; (focus (go_simp; first | done | rfl)); (focus ((try simp only [Kr.PT]); first | done | rfl)))
  refine Kr.seqDoneW ?_
  go_upto_region 1 with fail
  refine Kr.seqStartW ?_
  (refine Kr.seqQ (v := ?_) (a' := ?_) (by rfl) ?_ ?_ ?_; rotate_left 2; (focus (go_simp; first | done | rfl)); (focus ((try simp only [Kr.PT]); first | done | rfl)))
  (refine Kr.seqQ (v := .bool true) (a' := ?_) (by rfl) ?_ ?_ ?_; rotate_left 1; (focus (exact Kr.valOf rfl (lssT HL.out))); (focus ((try simp only [Kr.PT]); first | done | rfl)))
  refine Kr.seqDoneW ?_
  go_upto_region 2 with fail
  refine Kr.seqStartW ?_
  (refine Kr.seqQ (v := ?_) (a' := ?_) (by rfl) ?_ ?_ ?_; rotate_left 2; (focus (go_simp; first | done | rfl)); (focus ((try simp only [Kr.PT]); first | done | rfl)))
  refine Kr.seqDoneW ?_
  have hk : True := trivial
  go_wp2
  refine bodyPost_ret (v := .bool false) (by simp [results, Tryd.results13, go_sem, hk]) rfl ⟨rfl, H.g⟩
set_option linter.unusedSimpArgs false in
set_option maxRecDepth 100000 in
set_option maxHeartbeats 16000000 in
theorem rIs_ge {n : Nat} {w : World} (h2 : 2 ≤ n) (hn : n < 9223372036854775808) :
    Calls Tryd.prog 13 #[.int .i64 (n : Int)] w fun r w' => r = .returned (.bool (isP n)) ∧ Gr w w' := by
  have HN := Lib.hid hn; have HN2 := Lib.hid h2; clear hn h2
  have HL : Hid (decide ((n : Int) < 2) = false) := Lib.hid (decide_eq_false (by have := HN2.out; omega))
  obtain ⟨Q, hQ⟩ : ∃ Q, isP n = Q := ⟨_, rfl⟩
  rw [hQ]
  have HQ : Hid (tryL n (bases.drop 0) = Q) := Lib.hid (by rw [← hQ]; unfold isP; rw [if_neg (by have := HN2.out; omega)]; rfl)
  clear hQ
  have H := Sta.start w
  go_enter Tryd.func13, Tryd.ntmps13
  go_upto_region 0 with fail
  refine Kr.seqStartW ?_
  (refine Kr.seqQ (v := ?_) (a' := ?_) (by rfl) ?_ ?_ ?_; rotate_left 2; (focus (go_simp; first | done | rfl)); (focus ((try simp only [Kr.PT]); first | done | rfl)))
  refine Kr.seqDoneW ?_
  go_upto_region 1 with fail
  refine Kr.seqStartW ?_
  (refine Kr.seqQ (v := ?_) (a' := ?_) (by rfl) ?_ ?_ ?_; rotate_left 2; (focus (go_simp; first | done | rfl)); (focus ((try simp only [Kr.PT]); first | done | rfl)))
  (refine Kr.seqQ (v := .bool false) (a' := ?_) (by rfl) ?_ ?_ ?_; rotate_left 1; (focus (exact Kr.valOf rfl (lssT HL.out))); (focus ((try simp only [Kr.PT]); first | done | rfl)))
  refine Kr.seqDoneW ?_
  go_upto_region 3 with fail
  refine Kr.seqStartW ?_
  refine Kr.seqR (by rfl) (fun K hK => ?_)
  go_simp
  obtain ⟨y1, hy⟩ : ∃ y, w.alloc (.cells #[.int .i64 2, .int .i64 3, .int .i64 5, .int .i64 7, .int .i64 11, .int .i64 13, .int .i64 17, .int .i64 19, .int .i64 23, .int .i64 29, .int .i64 31, .int .i64 37] 3) = y := ⟨_, rfl⟩
  obtain ⟨bb, hb⟩ : ∃ b, w.heap.size = b := ⟨_, rfl⟩
  rw [hy, hb]
  replace H := Sta_row (l := bases) H hy hb
  dsimp only [List.cons_append, List.nil_append] at H
  clear hy hb
  (refine Kr.outS hK (a' := ?_) ?_ ?_; rotate_left; (focus ((try simp only [Kr.PT]); first | done | rfl))); clear hK K
  (refine Kr.seqQ (v := ?_) (a' := ?_) (by rfl) ?_ ?_ ?_; rotate_left 2; (focus (go_simp; first | done | rfl)); (focus ((try simp only [Kr.PT]); first | done | rfl)))
  refine Kr.seqDoneW ?_
  go_upto_region 4 with fail
  refine Kr.seqStartW ?_
  (refine Kr.seqQ (v := ?_) (a' := ?_) (by rfl) ?_ ?_ ?_; rotate_left 2; (focus (go_simp; first | done | rfl)); (focus ((try simp only [Kr.PT]); first | done | rfl)))
  refine Kr.seqDoneW ?_
  have H2 := Lib.hid H
  clear H
  go_wp2_with fail
  go_loopw [4] (fun i wr => ∃ j : Nat, j ≤ 12 ∧ i = .int .i64 (j : Int) ∧ Hid (tryL n (bases.drop j) = Q) ∧ Hid (∀ i, i < j → n % bases.getD i 0 ≠ 0) ∧ Hid (Sta w wr (rowC bb 0 bases) [])) (fun i _ => 12 - (intOf i).toNat)
  case atStart => exact ⟨0, Nat.zero_le _, rfl, HQ, Lib.hid (fun i hi => absurd hi (Nat.not_lt_zero _)), H2⟩
  case round =>
    clear H2 HQ
    obtain ⟨j, hj, rfl, HP, HD, HH⟩ := hrel
    have H := HH.out; clear HH
    by_cases hjt : j = 12
    · have HLL : Hid (decide ((j : Int) < 12) = false) := Lib.hid (decide_eq_false (by omega))
      have HD12 : Hid (∀ i, i < 12 → n % bases.getD i 0 ≠ 0) := Lib.hid (hjt ▸ HD.out)
      have HGT : Hid (37 < n) := Lib.hid (bases_great HN2.out HD12.out)
      have HODD : Hid (n % 2 = 1) := Lib.hid (by have h := HD12.out 0 (by decide); have e : bases.getD 0 0 = 2 := rfl; rw [e] at h; omega)
      have HQ2 : Hid (bases.all (pas n) = Q) := Lib.hid (by rw [← HP.out, hjt]; rfl)
      clear HP HD hjt hj HD12
      go_upto_region 5 with fail
      refine Kr.seqStartW ?_
      iterate 3 (refine Kr.seqQ (v := ?_) (a' := ?_) (by rfl) ?_ ?_ ?_; rotate_left 2; (focus (go_simp; first | done | rfl)); (focus ((try simp only [Kr.PT]); first | done | rfl)))
      (refine Kr.seqQ (v := .bool false) (a' := ?_) (by rfl) ?_ ?_ ?_; rotate_left 1; (focus (exact Kr.valOf rfl (lssT HLL.out))); (focus ((try simp only [Kr.PT]); first | done | rfl)))
      refine Kr.seqDoneW ?_
      by_cases hbig : 2305843009213693952 ≤ n
      · have HG : Hid (decide ((2305843009213693952 : Int) ≤ (n : Int)) = true) := Lib.hid (decide_eq_true (by omega))
        clear hbig
        go_upto_region 9 with fail
        refine Kr.seqStartW ?_
        (refine Kr.seqQ (v := ?_) (a' := ?_) (by rfl) ?_ ?_ ?_; rotate_left 2; (focus (go_simp; first | done | rfl)); (focus ((try simp only [Kr.PT]); first | done | rfl)))
        (refine Kr.seqQ (v := .bool true) (a' := ?_) (by rfl) ?_ ?_ ?_; rotate_left 1; (focus (exact Kr.valOf rfl (geqI HG.out))); (focus ((try simp only [Kr.PT]); first | done | rfl)))
        refine Kr.seqDoneW ?_
        go_upto_region 10 with fail
        refine Kr.seqStartW ?_
        (refine Kr.seqQ (v := ?_) (a' := ?_) (by rfl) ?_ ?_ ?_; rotate_left 2; (focus (go_simp; first | done | rfl)); (focus ((try simp only [Kr.PT]); first | done | rfl)))
        refine Kr.seqR (by rfl) (fun K hK => ?_)
        go_simp
        go_at_call 31
        have hP := large_v (w := wr) HN2.out HGT.out HODD.out HN.out
        rw [HQ2.out] at hP
        refine (hP).mono ?_
        rintro e y2 ⟨rfl, hg⟩
        replace H := H.grow hg
        clear hg
        clear hP
        (refine Kr.outS hK (a' := ?_) ?_ ?_; rotate_left; (focus ((try simp only [Kr.PT]); first | done | rfl))); clear hK K
        (refine Kr.seqQ (v := ?_) (a' := ?_) (by rfl) ?_ ?_ ?_; rotate_left 2; (focus (go_simp; first | done | rfl)); (focus ((try simp only [Kr.PT]); first | done | rfl)))
        refine Kr.seqDoneW ?_
        have hk : True := trivial
        go_wp2
        refine bodyPost_ret (v := .bool Q) (by simp [results, Tryd.results13, go_sem, hk]) rfl ⟨rfl, H.g⟩
      · have HG : Hid (decide ((2305843009213693952 : Int) ≤ (n : Int)) = false) := Lib.hid (decide_eq_false (by omega))
        have HM : Hid (n < 2305843009213693952) := Lib.hid (by omega)
        clear hbig
        go_upto_region 9 with fail
        refine Kr.seqStartW ?_
        (refine Kr.seqQ (v := ?_) (a' := ?_) (by rfl) ?_ ?_ ?_; rotate_left 2; (focus (go_simp; first | done | rfl)); (focus ((try simp only [Kr.PT]); first | done | rfl)))
        (refine Kr.seqQ (v := .bool false) (a' := ?_) (by rfl) ?_ ?_ ?_; rotate_left 1; (focus (exact Kr.valOf rfl (geqI HG.out))); (focus ((try simp only [Kr.PT]); first | done | rfl)))
        refine Kr.seqDoneW ?_
        go_upto_region 11 with fail
        refine Kr.seqStartW ?_
        (refine Kr.seqQ (v := ?_) (a' := ?_) (by rfl) ?_ ?_ ?_; rotate_left 2; (focus (go_simp; first | done | rfl)); (focus ((try simp only [Kr.PT]); first | done | rfl)))
        refine Kr.seqDoneW ?_
        have HQ3 : Hid ((bases.drop 0).all (pas n) = Q) := HQ2
        have H2 := Lib.hid H
        clear H
        go_wp2_with fail
        go_loopw [5] (fun i wr => ∃ j : Nat, j ≤ 12 ∧ i = .int .i64 (j : Int) ∧ Hid ((bases.drop j).all (pas n) = Q) ∧ Hid (Sta w wr (rowC bb 0 bases) [])) (fun i _ => 12 - (intOf i).toNat)
        case atStart => exact ⟨0, Nat.zero_le _, rfl, HQ3, H2⟩
        case round =>
          clear H2 HQ2 HQ3 HLL HG
          obtain ⟨j, hj, rfl, HP, HH⟩ := hrel
          have H := HH.out; clear HH
          by_cases hjt : j = 12
          · obtain rfl : true = Q := by rw [← HP.out, hjt]; rfl
            have HLL : Hid (decide ((j : Int) < 12) = false) := Lib.hid (decide_eq_false (by omega))
            clear hjt
            go_upto_region 12 with fail
            refine Kr.seqStartW ?_
            iterate 3 (refine Kr.seqQ (v := ?_) (a' := ?_) (by rfl) ?_ ?_ ?_; rotate_left 2; (focus (go_simp; first | done | rfl)); (focus ((try simp only [Kr.PT]); first | done | rfl)))
            (refine Kr.seqQ (v := .bool false) (a' := ?_) (by rfl) ?_ ?_ ?_; rotate_left 1; (focus (exact Kr.valOf rfl (lssT HLL.out))); (focus ((try simp only [Kr.PT]); first | done | rfl)))
            refine Kr.seqDoneW ?_
            go_upto_region 16 with fail
            refine Kr.seqStartW ?_
            (refine Kr.seqQ (v := ?_) (a' := ?_) (by rfl) ?_ ?_ ?_; rotate_left 2; (focus (go_simp; first | done | rfl)); (focus ((try simp only [Kr.PT]); first | done | rfl)))
            refine Kr.seqDoneW ?_
            have hk : True := trivial
            go_wp2
            refine bodyPost_ret (v := .bool true) (by simp [results, Tryd.results13, go_sem, hk]) rfl ⟨rfl, H.g⟩
          · have HJ : Hid (j < 12) := Lib.hid (by omega)
            have HLL : Hid (decide ((j : Int) < 12) = true) := Lib.hid (decide_eq_true (by omega))
            clear hjt
            obtain ⟨hb0, hb1, hb2⟩ := bases_at j HJ.out
            obtain ⟨b, hb⟩ : ∃ b, bases.getD j 0 = b := ⟨_, rfl⟩
            have HJROW : Hid ((rowC bb 0 bases)[j]? = some (bb, j, .int .i64 (b : Int))) := Lib.hid (by have h := rowC_get (b := bb) (o := 0) (bases_get HJ.out hb); rwa [Nat.zero_add] at h)
            rw [hb] at hb0 hb1 hb2
            have HB := Lib.hid hb; have HB1 := Lib.hid hb1; have HB2 := Lib.hid hb2
            clear hb hb1 hb2
            rw [hb0] at HP
            clear hb0
            have hj1 : j < 12 := HJ.out; have hj2 : (j : Int) < 12 := by omega
            have HBN : Hid (b < n) := Lib.hid (Nat.lt_of_le_of_lt HB2.out HGT.out)
            go_upto_region 12 with fail
            refine Kr.seqStartW ?_
            iterate 3 (refine Kr.seqQ (v := ?_) (a' := ?_) (by rfl) ?_ ?_ ?_; rotate_left 2; (focus (go_simp; first | done | rfl)); (focus ((try simp only [Kr.PT]); first | done | rfl)))
            (refine Kr.seqQ (v := .bool true) (a' := ?_) (by rfl) ?_ ?_ ?_; rotate_left 1; (focus (exact Kr.valOf rfl (lssT HLL.out))); (focus ((try simp only [Kr.PT]); first | done | rfl)))
            refine Kr.seqDoneW ?_
            cases hpb : pas n b
            · have HPB : Hid (pas n b = false) := Lib.hid hpb
              clear hpb
              go_upto_region 14 with fail
              refine Kr.seqStartW ?_
              iterate 4 (refine Kr.seqQ (v := ?_) (a' := ?_) (by rfl) ?_ ?_ ?_; rotate_left 2; (focus (go_simp; first | done | rfl)); (focus ((try simp only [Kr.PT]); first | done | rfl)))
              have hk_row := H.c.get (j) HJROW.out
              dsimp only at hk_row
              (refine Kr.seqQ (v := ?_) (a' := ?_) (by rfl) ?_ ?_ ?_; rotate_left 2; (focus (go_simp; first | done | rfl)); (focus ((try simp only [Kr.PT]); first | done | rfl)))
              refine Kr.seqR (by rfl) (fun K hK => ?_)
              go_simp
              go_at_call 32
              have hP := strong_v (w := wr) HBN.out HN2.out HODD.out HM.out
              rw [HPB.out] at hP
              refine (hP).mono ?_
              rintro e y3 ⟨rfl, hg⟩
              clear hk_row
              replace H := H.grow hg
              clear hg
              clear hP
              (refine Kr.outS hK (a' := ?_) ?_ ?_; rotate_left; (focus ((try simp only [Kr.PT]); first | done | rfl))); clear hK K
              (refine Kr.seqQ (v := ?_) (a' := ?_) (by rfl) ?_ ?_ ?_; rotate_left 2; (focus (go_simp; first | done | rfl)); (focus ((try simp only [Kr.PT]); first | done | rfl)))
              refine Kr.seqDoneW ?_
              obtain rfl : false = Q := by rw [← HP.out, List.all_cons, HPB.out]; rfl
              go_upto_region 15 with fail
              refine Kr.seqStartW ?_
              (refine Kr.seqQ (v := ?_) (a' := ?_) (by rfl) ?_ ?_ ?_; rotate_left 2; (focus (go_simp; first | done | rfl)); (focus ((try simp only [Kr.PT]); first | done | rfl)))
              refine Kr.seqDoneW ?_
              have hk_row := H.c.get (j) HJROW.out
              dsimp only at hk_row
              have hk : True := trivial
              go_wp2
              refine bodyPost_ret (v := .bool false) (by simp [results, Tryd.results13, go_sem, hk]) rfl ⟨rfl, H.g⟩
            · have HPB : Hid (pas n b = true) := Lib.hid hpb
              clear hpb
              go_upto_region 14 with fail
              refine Kr.seqStartW ?_
              iterate 4 (refine Kr.seqQ (v := ?_) (a' := ?_) (by rfl) ?_ ?_ ?_; rotate_left 2; (focus (go_simp; first | done | rfl)); (focus ((try simp only [Kr.PT]); first | done | rfl)))
              have hk_row := H.c.get (j) HJROW.out
              dsimp only at hk_row
              (refine Kr.seqQ (v := ?_) (a' := ?_) (by rfl) ?_ ?_ ?_; rotate_left 2; (focus (go_simp; first | done | rfl)); (focus ((try simp only [Kr.PT]); first | done | rfl)))
              refine Kr.seqR (by rfl) (fun K hK => ?_)
              go_simp
              go_at_call 32
              have hP := strong_v (w := wr) HBN.out HN2.out HODD.out HM.out
              rw [HPB.out] at hP
              refine (hP).mono ?_
              rintro e y4 ⟨rfl, hg⟩
              clear hk_row
              replace H := H.grow hg
              clear hg
              clear hP
              (refine Kr.outS hK (a' := ?_) ?_ ?_; rotate_left; (focus ((try simp only [Kr.PT]); first | done | rfl))); clear hK K
              (refine Kr.seqQ (v := ?_) (a' := ?_) (by rfl) ?_ ?_ ?_; rotate_left 2; (focus (go_simp; first | done | rfl)); (focus ((try simp only [Kr.PT]); first | done | rfl)))
              refine Kr.seqDoneW ?_
              have HP2 : Hid ((bases.drop (j + 1)).all (pas n) = Q) := Lib.hid (by rw [← HP.out, List.all_cons, HPB.out]; rfl)
              clear HP
              have HADD : Hid (IntKind.i64.wrap ((j : Int) + 1) = ((j + 1 : Nat) : Int)) := Lib.hid (wrap_nat (by omega) (by have h1 := HJ.out; omega))
              go_upto_region 13 with fail
              refine Kr.seqStartW ?_
              (refine Kr.seqQ (v := ?_) (a' := ?_) (by rfl) ?_ ?_ ?_; rotate_left 2; (focus (go_simp; first | done | rfl)); (focus ((try simp only [Kr.PT]); first | done | rfl)))
              (refine Kr.seqQ (v := .int .i64 ((j + 1 : Nat) : Int)) (a' := ?_) (by rfl) ?_ ?_ ?_; rotate_left 1; (focus (exact Kr.valOf rfl (addI HADD.out))); (focus ((try simp only [Kr.PT]); first | done | rfl)))
              (refine Kr.seqQ (v := ?_) (a' := ?_) (by rfl) ?_ ?_ ?_; rotate_left 2; (focus (go_simp; first | done | rfl)); (focus ((try simp only [Kr.PT]); first | done | rfl)))
              refine Kr.seqDoneW ?_
              go_wp2
              go_roundw
              case rel => exact ⟨j + 1, HJ.out, rfl, HP2, Lib.hid H⟩
              case measure => simp [intOf]; have := HJ.out; omega
    · have HJ : Hid (j < 12) := Lib.hid (by omega)
      have HLL : Hid (decide ((j : Int) < 12) = true) := Lib.hid (decide_eq_true (by omega))
      clear hjt
      obtain ⟨hb0, hb1, hb2⟩ := bases_at j HJ.out
      obtain ⟨b, hb⟩ : ∃ b, bases.getD j 0 = b := ⟨_, rfl⟩
      have HJROW : Hid ((rowC bb 0 bases)[j]? = some (bb, j, .int .i64 (b : Int))) := Lib.hid (by have h := rowC_get (b := bb) (o := 0) (bases_get HJ.out hb); rwa [Nat.zero_add] at h)
      rw [hb] at hb0 hb1 hb2
      have HB := Lib.hid hb; have HB1 := Lib.hid hb1; have HB2 := Lib.hid hb2
      clear hb hb1 hb2
      rw [hb0] at HP
      clear hb0
      have hj1 : j < 12 := HJ.out; have hj2 : (j : Int) < 12 := by omega
      obtain ⟨r, hr⟩ : ∃ r, n % b = r := ⟨_, rfl⟩
      have HR := Lib.hid hr; clear hr
      have HB0 : Hid (0 < b) := Lib.hid (by have := HB1.out; omega); have HB63 : Hid (b < 9223372036854775808) := Lib.hid (by have := HB2.out; omega)
      go_upto_region 5 with fail
      refine Kr.seqStartW ?_
      iterate 3 (refine Kr.seqQ (v := ?_) (a' := ?_) (by rfl) ?_ ?_ ?_; rotate_left 2; (focus (go_simp; first | done | rfl)); (focus ((try simp only [Kr.PT]); first | done | rfl)))
      (refine Kr.seqQ (v := .bool true) (a' := ?_) (by rfl) ?_ ?_ ?_; rotate_left 1; (focus (exact Kr.valOf rfl (lssT HLL.out))); (focus ((try simp only [Kr.PT]); first | done | rfl)))
      refine Kr.seqDoneW ?_
      by_cases hr0 : r = 0
      · subst hr0
        have HE : Hid (decide (((0 : Nat) : Int) = 0) = true) := Lib.hid (by decide)
        have HQE : Hid (decide ((n : Int) = (b : Int)) = Q) := Lib.hid (by rw [← HP.out]; unfold tryL; rw [if_pos HR.out]; rw [Bool.eq_iff_iff]; simp; omega)
        clear HP
        go_upto_region 7 with fail
        refine Kr.seqStartW ?_
        iterate 4 (refine Kr.seqQ (v := ?_) (a' := ?_) (by rfl) ?_ ?_ ?_; rotate_left 2; (focus (go_simp; first | done | rfl)); (focus ((try simp only [Kr.PT]); first | done | rfl)))
        have hk_row := H.c.get (j) HJROW.out
        dsimp only at hk_row
        (refine Kr.seqQ (v := ?_) (a' := ?_) (by rfl) ?_ ?_ ?_; rotate_left 2; (focus (go_simp; first | done | rfl)); (focus ((try simp only [Kr.PT]); first | done | rfl)))
        (refine Kr.seqQ (v := .int .i64 ((0 : Nat) : Int)) (a' := ?_) (by rfl) ?_ ?_ ?_; rotate_left 1; (focus (exact Kr.valOf rfl (remI HB0.out HR.out HB63.out))); (focus ((try simp only [Kr.PT]); first | done | rfl)))
        (refine Kr.seqQ (v := .bool true) (a' := ?_) (by rfl) ?_ ?_ ?_; rotate_left 1; (focus (exact Kr.valOf rfl (eqlI HE.out))); (focus ((try simp only [Kr.PT]); first | done | rfl)))
        clear hk_row
        refine Kr.seqDoneW ?_
        go_upto_region 8 with fail
        refine Kr.seqStartW ?_
        iterate 4 (refine Kr.seqQ (v := ?_) (a' := ?_) (by rfl) ?_ ?_ ?_; rotate_left 2; (focus (go_simp; first | done | rfl)); (focus ((try simp only [Kr.PT]); first | done | rfl)))
        have hk_row := H.c.get (j) HJROW.out
        dsimp only at hk_row
        (refine Kr.seqQ (v := ?_) (a' := ?_) (by rfl) ?_ ?_ ?_; rotate_left 2; (focus (go_simp; first | done | rfl)); (focus ((try simp only [Kr.PT]); first | done | rfl)))
        (refine Kr.seqQ (v := .bool Q) (a' := ?_) (by rfl) ?_ ?_ ?_; rotate_left 1; (focus (exact Kr.valOf rfl (eqlI HQE.out))); (focus ((try simp only [Kr.PT]); first | done | rfl)))
        (refine Kr.seqQ (v := ?_) (a' := ?_) (by rfl) ?_ ?_ ?_; rotate_left 2; (focus (go_simp; first | done | rfl)); (focus ((try simp only [Kr.PT]); first | done | rfl)))
        clear hk_row
        refine Kr.seqDoneW ?_
        have hk_row := H.c.get (j) HJROW.out
        dsimp only at hk_row
        have hk : True := trivial
        go_wp2
        refine bodyPost_ret (v := .bool Q) (by simp [results, Tryd.results13, go_sem, hk]) rfl ⟨rfl, H.g⟩
      · have HE : Hid (decide ((r : Int) = 0) = false) := Lib.hid (decide_eq_false (by omega))
        have HP2 : Hid (tryL n (bases.drop (j + 1)) = Q) := Lib.hid (by rw [← HP.out]; conv => rhs; unfold tryL; rw [if_neg (by rw [HR.out]; exact hr0)])
        clear HP
        have HD2 : Hid (∀ i, i < j + 1 → n % bases.getD i 0 ≠ 0) := Lib.hid (fun i hi => by rcases Nat.lt_succ_iff_lt_or_eq.1 hi with h | h; exact HD.out i h; subst h; rw [HB.out, HR.out]; exact hr0)
        clear hr0 HD
        go_upto_region 7 with fail
        refine Kr.seqStartW ?_
        iterate 4 (refine Kr.seqQ (v := ?_) (a' := ?_) (by rfl) ?_ ?_ ?_; rotate_left 2; (focus (go_simp; first | done | rfl)); (focus ((try simp only [Kr.PT]); first | done | rfl)))
        have hk_row := H.c.get (j) HJROW.out
        dsimp only at hk_row
        (refine Kr.seqQ (v := ?_) (a' := ?_) (by rfl) ?_ ?_ ?_; rotate_left 2; (focus (go_simp; first | done | rfl)); (focus ((try simp only [Kr.PT]); first | done | rfl)))
        (refine Kr.seqQ (v := .int .i64 (r : Int)) (a' := ?_) (by rfl) ?_ ?_ ?_; rotate_left 1; (focus (exact Kr.valOf rfl (remI HB0.out HR.out HB63.out))); (focus ((try simp only [Kr.PT]); first | done | rfl)))
        (refine Kr.seqQ (v := .bool false) (a' := ?_) (by rfl) ?_ ?_ ?_; rotate_left 1; (focus (exact Kr.valOf rfl (eqlI HE.out))); (focus ((try simp only [Kr.PT]); first | done | rfl)))
        clear hk_row
        refine Kr.seqDoneW ?_
        have HADD : Hid (IntKind.i64.wrap ((j : Int) + 1) = ((j + 1 : Nat) : Int)) := Lib.hid (wrap_nat (by omega) (by have h1 := HJ.out; omega))
        go_upto_region 6 with fail
        refine Kr.seqStartW ?_
        (refine Kr.seqQ (v := ?_) (a' := ?_) (by rfl) ?_ ?_ ?_; rotate_left 2; (focus (go_simp; first | done | rfl)); (focus ((try simp only [Kr.PT]); first | done | rfl)))
        (refine Kr.seqQ (v := .int .i64 ((j + 1 : Nat) : Int)) (a' := ?_) (by rfl) ?_ ?_ ?_; rotate_left 1; (focus (exact Kr.valOf rfl (addI HADD.out))); (focus ((try simp only [Kr.PT]); first | done | rfl)))
        (refine Kr.seqQ (v := ?_) (a' := ?_) (by rfl) ?_ ?_ ?_; rotate_left 2; (focus (go_simp; first | done | rfl)); (focus ((try simp only [Kr.PT]); first | done | rfl)))
        refine Kr.seqDoneW ?_
        go_wp2
        go_roundw
        case rel => exact ⟨j + 1, HJ.out, rfl, HP2, HD2, Lib.hid H⟩
        case measure => simp [intOf]; have := HJ.out; omega
theorem rIs_v {n : Nat} {w : World} (hn : n < 9223372036854775808) :
    Calls Tryd.prog 13 #[.int .i64 (n : Int)] w fun r w' => r = .returned (.bool (isP n)) ∧ Gr w w' := by
  rcases Nat.lt_or_ge n 2 with h | h
  · rw [show isP n = false from if_pos h]
    exact rIs_low (by omega)
  · exact rIs_ge h hn
end Go.Proofs.YtfompolklkehpaaDoor.Pr
