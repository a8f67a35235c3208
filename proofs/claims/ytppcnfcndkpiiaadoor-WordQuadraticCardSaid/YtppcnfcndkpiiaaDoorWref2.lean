/- The contracts of the reference of layer 1, second part: Gcd, Inverse, Solve, Jacobi. -/
import Derived.Test.YtppcnfcndkpiiaaDoorWref
import Derived.Test.YtppcnfcndkpiiaaDoorWinv
namespace Go.Proofs.YtppcnfcndkpiiaaDoor.Wr
open Go.RowKit Go.Proofs.YtppcnfcndkpiiaaDoor.Wb Go.Proofs.YtppcnfcndkpiiaaDoor.Ww

theorem w64_nat (n : Nat) (h : n ≤ 9223372036854775807) : wrap64 (n : Int) = (n : Int) := IntWalk.wrap64_in _ ⟨by omega, by omega⟩

theorem size_any (a : Int) (h0 : -9223372036854775808 ≤ a) (h1 : a ≤ 9223372036854775807) (w : World) :
    Calls Tryd.prog 35 #[.int .i64 a] w fun x w' => x = .returned (.int .u64 (a.natAbs : Int)) ∧ w' = w := by
  by_cases h : a < 0
  · have e : -(a + 1) + 1 = (a.natAbs : Int) := by omega
    have E := Lib.hid e
    clear e
    go_enter Tryd.func35, Tryd.ntmps35
    go_wp2
    go_ret
    refine ⟨?_, rfl⟩
    rw [← E.out]
    simp
  · have E : Hid ((a.natAbs : Int) = a) := Lib.hid (by omega)
    go_enter Tryd.func35, Tryd.ntmps35
    go_wp2
    go_ret
    refine ⟨?_, rfl⟩
    rw [E.out]
    rfl

theorem Gcd_any (a b : Int) (h0 : -9223372036854775808 ≤ a) (h1 : a ≤ 9223372036854775807) (h2 : -9223372036854775808 ≤ b) (h3 : b ≤ 9223372036854775807) (w : World) :
    Calls Tryd.prog 26 #[.int .i64 a, .int .i64 b] w fun x w' => x = .returned (.int .i64 (gcdOf a b)) ∧ ∃ n, w' = w.drewN n := by
  obtain ⟨A, HA⟩ : ∃ A, Hid (a.natAbs = A) := ⟨_, Lib.hid rfl⟩
  obtain ⟨B, HB⟩ : ∃ B, Hid (b.natAbs = B) := ⟨_, Lib.hid rfl⟩
  have hA : A ≤ 9223372036854775808 := by have := HA.out; omega
  have hB : B ≤ 9223372036854775808 := by have := HB.out; omega
  unfold gcdOf
  rw [HA.out, HB.out]
  obtain ⟨D, HD⟩ : ∃ D, Hid (Nat.gcd A B = D) := ⟨_, Lib.hid rfl⟩
  rw [HD.out]
  obtain ⟨G, HG⟩ : ∃ G : Int, Hid ((if D = 9223372036854775808 then 0 else (D : Int)) = G) := ⟨_, Lib.hid rfl⟩
  rw [HG.out]
  go_enter Tryd.func26, Tryd.ntmps26
  go_wp2_with fail
  refine (size_any a h0 h1 _).mono ?_
  rintro x w' ⟨rfl, rfl⟩
  rw [HA.out]
  go_wp2_with fail
  refine (size_any b h2 h3 _).mono ?_
  rintro x w' ⟨rfl, rfl⟩
  rw [HB.out]
  go_wp2_with fail
  go_loopw [5, 6] (fun s5 s6 wr => ∃ x y n : Nat, s5 = .int .u64 x ∧ s6 = .int .u64 y ∧ wr = w'.drewN n ∧ x ≤ 9223372036854775808 ∧ y ≤ 9223372036854775808 ∧ Hid (Nat.gcd x y = D)) (fun _ s6 _ => (intOf s6).toNat)
  case atStart => exact ⟨A, B, 0, rfl, rfl, rfl, hA, hB, HD⟩
  case round =>
    obtain ⟨x, y, n, rfl, rfl, rfl, hx, hy, HI⟩ := hrel
    by_cases h : y = 0
    · have hxd : x = D := by have := HI.out; rw [h, Nat.gcd_zero_right] at this; exact this
      clear HI HD
      subst hxd
      have hyb : ¬ 0 < (y : Int) := by omega
      by_cases hb : x = 9223372036854775808
      · have HG2 : Hid (0 = G) := Lib.hid (by rw [← HG.out, if_pos hb])
        have hb2 : ((x : Int) == 9223372036854775808) = true := by rw [hb]; rfl
        clear hb h
        go_wp2
        go_ret
        exact ⟨ret_i HG2.out, n, rfl⟩
      · have HG2 : Hid ((x : Int) = G) := Lib.hid (by rw [← HG.out, if_neg hb])
        have hb2 : ((x : Int) == 9223372036854775808) = false := by rw [beq_eq_false_iff_ne]; omega
        have hxb : (x : Int) ≤ 9223372036854775807 := by omega
        clear hb h
        go_wp2
        go_ret
        exact ⟨ret_i HG2.out, n, rfl⟩
    · have hyb : 0 < (y : Int) := by omega
      have hyb2 : ((y : Int) == 0) = false := by simp; omega
      have hr : x % y < y := Nat.mod_lt _ (by omega)
      have HI2 : Hid (Nat.gcd y (x % y) = D) := Lib.hid (by rw [Nat.gcd_comm, ← Nat.gcd_rec, Nat.gcd_comm]; exact HI.out)
      have HE := Lib.hid (mod_nat x y)
      generalize x % y = r at *
      go_wp2
      go_quiet (fail)
      go_wp2
      go_roundw
      case rel => exact ⟨y, r, n + nq, rfl, by rw [HE.out], by rw [World.drewN_drewN], hy, by omega, HI2⟩
      case measure => rw [HE.out]; simp [intOf]; omega

theorem gcd_nat (a m : Nat) (ha : a < m) (hm : m < 2305843009213693952) : gcdOf (a : Int) (m : Int) = ((Nat.gcd a m : Nat) : Int) := by
  have h : Nat.gcd a m ≤ m := Nat.gcd_le_right _ (by omega)
  unfold gcdOf
  rw [Int.natAbs_natCast, Int.natAbs_natCast, if_neg (by omega)]

/-- What the reference's Inverse returns. -/
def RInv (a m : Nat) (w : World) (e : Ending) (w' : World) : Prop := ∃ x : Nat, x < m ∧ a * x % m = 1 % m ∧ e = .returned (.tuple #[.int .i64 x, .bool true]) ∧ ∃ n, w' = w.drewN n

set_option maxHeartbeats 2000000 in
theorem Inverse_any (a m : Nat) (ha : a < m) (hm : m < 2305843009213693952) (hg : Nat.gcd a m = 1) (w : World) :
    Calls Tryd.prog 37 #[.int .i64 a, .int .i64 m] w (RInv a m w) := by
  have Hg : Hid (gcdOf (a : Int) (m : Int) = 1) := Lib.hid (by rw [gcd_nat a m ha hm, hg]; rfl)
  have Hgcd := Lib.hid hg
  clear hg
  obtain ⟨one, h1⟩ : ∃ one, one = 1 % m := ⟨_, rfl⟩
  have e1 : (1 : Int) % (m : Int) = (one : Int) := by rw [h1, Int.natCast_emod]; rfl
  have hst := Wm.Iv.start ha
  rw [← h1] at hst
  clear h1
  go_enter Tryd.func37, Tryd.ntmps37
  go_wp2_with fail
  refine (Gcd_any a m (by omega) (by omega) (by omega) (by omega) _).mono ?_
  rintro x w' ⟨rfl, n0, rfl⟩
  rw [Hg.out]
  go_wp2_with fail
  go_loop [6, 7, 8, 9] (fun s6 s7 s8 s9 => ∃ u v x y : Nat, s6 = .int .i64 u ∧ s7 = .int .i64 v ∧ s8 = .int .i64 x ∧ s9 = .int .i64 y ∧ Wm.Iv a m u v x y) (fun _ s7 _ _ => (intOf s7).toNat)
  case atStart => exact ⟨a, m, one, 0, rfl, rfl, by rw [e1], rfl, hst⟩
  case round =>
    clear hst e1
    obtain ⟨u, v, x, y, rfl, rfl, rfl, rfl, hI⟩ := hrel
    by_cases h : v = 0
    · have hb : ((v : Int) != 0) = false := by rw [h]; rfl
      subst h
      obtain ⟨o1, o2⟩ := hI.stop Hgcd.out
      have HO := Lib.hid o2
      clear hI o2
      go_wp2
      go_ret2
      exact ⟨x, o1, HO.out, rfl, n0, rfl⟩
    · have hb : ((v : Int) != 0) = true := by simp; omega
      obtain ⟨y', hy', hI2⟩ := hI.step h
      have hu := hI.ul
      have hv := hI.vl
      have hxl := hI.xl
      have hyl := hI.yl
      have hvm : u % v < v := Nat.mod_lt _ (by omega)
      have hql : u / v ≤ u := Nat.div_le_self _ _
      have hqm : (u / v) % m < m := Nat.mod_lt _ (by omega)
      have htm : (u / v % m) * y % m < m := Nat.mod_lt _ (by omega)
      have HI2 := Lib.hid hI2
      have E0 : Hid (wrap64 ((u : Int) / (v : Int)) = ((u / v : Nat) : Int)) := Lib.hid (by rw [div_nat]; exact w64_nat _ (by omega))
      have E1 : Hid (wrap64 ((u : Int) - wrap64 (((u / v : Nat) : Int) * (v : Int))) = ((u % v : Nat) : Int)) := Lib.hid (by
        have := (euclid_arith u v m 0 0 (by omega) hm (by simp) (by simp) (by simp) (by simp)).1
        rw [E0.out] at this; exact this)
      have Hy := Lib.hid hy'
      have Hq : Hid (((u / v : Nat) : Int) % (m : Int) = ((u / v % m : Nat) : Int)) := Lib.hid (mod_nat _ _)
      have HM := Lib.hid (fun w => Mul_any (u / v % m) y m hqm hyl hm w)
      have Hvm := Lib.hid hvm
      clear hI hI2 hy' hvm
      generalize u / v % m * y % m = t at *
      generalize u / v % m = qm at *
      generalize u / v = q at *
      generalize u % v = r at *
      go_wp2_with fail
      rw [E0.out, E1.out]
      refine (Reduce_any q m (by omega) (by omega) _).mono ?_
      rintro x w' ⟨rfl, rfl⟩
      rw [Hq.out]
      go_wp2_with fail
      refine (HM.out _).mono ?_
      rintro x w' ⟨rfl, rfl⟩
      go_wp2_with fail
      refine (Reduce_any _ m (by omega) (by omega) _).mono ?_
      rintro x w' ⟨rfl, rfl⟩
      rw [Hy.out]
      go_wp2
      go_round
      case rel => exact ⟨v, r, y, y', rfl, rfl, rfl, rfl, HI2.out⟩
      case measure => simp [intOf]; exact Hvm.out

theorem Solve_none (a b m : Nat) (ha : a < m) (hb : b < m) (hm : m < 2305843009213693952) (hg : b % Nat.gcd a m ≠ 0) (w : World) :
    Calls Tryd.prog 29 #[.int .i64 a, .int .i64 b, .int .i64 m] w fun x w' => x = .returned (.tuple #[.int .i64 0, .int .i64 0, .int .i64 7]) ∧ ∃ n, w' = w.drewN n := by
  have Hg := Lib.hid (gcd_nat a m ha hm)
  have hgp : 0 < Nat.gcd a m := Nat.gcd_pos_of_pos_right _ (by omega)
  have hgm : Nat.gcd a m ≤ m := Nat.gcd_le_right _ (by omega)
  generalize Nat.gcd a m = g at *
  have hgb : ((b : Int) % (g : Int) != 0) = true := by
    rw [mod_nat]; simp; omega
  clear hg
  go_enter Tryd.func29, Tryd.ntmps29
  go_wp2_with fail
  refine (Gcd_any a m (by omega) (by omega) (by omega) (by omega) _).mono ?_
  rintro x w' ⟨rfl, n, rfl⟩
  rw [Hg.out]
  go_wp2
  go_ret3
  exact ⟨rfl, n, rfl⟩

theorem Solve_ok (a b m : Nat) (ha : a < m) (hb : b < m) (hm : m < 2305843009213693952) (hg : b % Nat.gcd a m = 0) (w : World) :
    Calls Tryd.prog 29 #[.int .i64 a, .int .i64 b, .int .i64 m] w (SolPost a b m w) := by
  have Hg := Lib.hid (gcd_nat a m ha hm)
  have hgp : 0 < Nat.gcd a m := Nat.gcd_pos_of_pos_right _ (by omega)
  have hgm : Nat.gcd a m ≤ m := Nat.gcd_le_right _ (by omega)
  have hsp : 0 < m / Nat.gcd a m := Nat.div_pos hgm hgp
  have hsm : m / Nat.gcd a m ≤ m := Nat.div_le_self _ _
  have hq : b / Nat.gcd a m ≤ b := Nat.div_le_self _ _
  have hqa : a / Nat.gcd a m ≤ a := Nat.div_le_self _ _
  have hcop : Nat.gcd (a / Nat.gcd a m % (m / Nat.gcd a m)) (m / Nat.gcd a m) = 1 := by
    rw [← Nat.gcd_rec, Nat.gcd_comm]
    exact Nat.coprime_div_gcd_div_gcd hgp
  have Hsol := fun x hx => Lib.hid (Wm.ref_sol (a := a) (b := b) (m := m) (x := x) hb hg hx)
  have HM := fun x (hx : x < m / Nat.gcd a m) => Lib.hid (fun w => Mul_any x (b / Nat.gcd a m % (m / Nat.gcd a m)) (m / Nat.gcd a m) hx (Nat.mod_lt _ hsp) (by omega) w)
  have HI := Lib.hid (fun w => Inverse_any (a / Nat.gcd a m % (m / Nat.gcd a m)) (m / Nat.gcd a m) (Nat.mod_lt _ hsp) (by omega) hcop w)
  unfold SolPost
  clear hcop
  generalize Nat.gcd a m = g at *
  have E1 : Hid (wrap64 ((b : Int) / (g : Int)) = ((b / g : Nat) : Int)) := Lib.hid (by rw [div_nat]; exact w64_nat _ (by omega))
  have E2 : Hid (wrap64 ((m : Int) / (g : Int)) = ((m / g : Nat) : Int)) := Lib.hid (by rw [div_nat]; exact w64_nat _ (by omega))
  have E3 : Hid (wrap64 ((a : Int) / (g : Int)) = ((a / g : Nat) : Int)) := Lib.hid (by rw [div_nat]; exact w64_nat _ (by omega))
  have E4 : Hid (((a / g : Nat) : Int).tmod ((m / g : Nat) : Int) = ((a / g % (m / g) : Nat) : Int)) := Lib.hid rfl
  have E5 : Hid (((b / g : Nat) : Int).tmod ((m / g : Nat) : Int) = ((b / g % (m / g) : Nat) : Int)) := Lib.hid rfl
  have hgb : ((b : Int) % (g : Int) != 0) = false := by
    rw [mod_nat]; simp; omega
  have Hres := Lib.hid hsp
  clear hg
  generalize m / g = st at *
  generalize b / g % st = bq at *
  generalize a / g % st = aq at *
  generalize a / g = a0 at *
  generalize b / g = b0 at *
  go_enter Tryd.func29, Tryd.ntmps29
  go_wp2_with fail
  refine (Gcd_any a m (by omega) (by omega) (by omega) (by omega) _).mono ?_
  rintro x w' ⟨rfl, n, rfl⟩
  rw [Hg.out]
  go_upto_region 5 with fail
  rw [E2.out]
  go_wp2_with fail
  rw [E3.out, E4.out]
  refine (HI.out _).mono ?_
  rintro x w' ⟨y, hy, hc, rfl, n2, rfl⟩
  have H3 := HM y hy
  have H4 := Hsol y hc
  clear hc HM Hsol
  go_wp2_with fail
  rw [E1.out, E5.out]
  refine (H3.out _).mono ?_
  rintro x w' ⟨rfl, rfl⟩
  go_wp2
  go_ret3
  exact ⟨_, H4.out.1, H4.out.2, rfl, _, rfl⟩

set_option maxHeartbeats 4000000 in
theorem Jacobi_any (a n : Nat) (ha : a < 2305843009213693952) (hn : n < 2305843009213693952) (hn1 : 1 ≤ n) (w : World) :
    Calls Tryd.prog 31 #[.int .i64 a, .int .i64 n] w fun e w' => e = .returned (.int .i64 (Wm.jac a n)) ∧ w' = w := by
  obtain ⟨J, HJ⟩ : ∃ J, Hid (Wm.jac a n = J) := ⟨_, Lib.hid rfl⟩
  rw [HJ.out]
  go_enter Tryd.func31, Tryd.ntmps31
  go_wp2_with fail
  go_loop [0, 1, 5] (fun s0 s1 s5 => ∃ (a n : Nat) (s : Int), s0 = .int .i64 a ∧ s1 = .int .i64 n ∧ s5 = .int .i64 s ∧ a < 2305843009213693952 ∧ n < 2305843009213693952 ∧ 1 ≤ n ∧ -1 ≤ s ∧ s ≤ 1 ∧ Hid (s * Wm.jac a n = J)) (fun s0 _ _ => (intOf s0).toNat)
  case atStart => exact ⟨a, n, 1, rfl, rfl, rfl, ha, hn, hn1, by omega, by omega, Lib.hid (by rw [Int.one_mul]; exact HJ.out)⟩
  case round =>
    clear HJ ha hn hn1
    obtain ⟨a, n, s, rfl, rfl, rfl, ha, hn, hn1, hs1, hs2, HI⟩ := hrel
    by_cases h : a = 0
    · have hb : ((a : Int) != 0) = false := by rw [h]; rfl
      by_cases h1 : n = 1
      · have HR : Hid (s = J) := Lib.hid (by rw [← HI.out, h, Wm.jac_zero, if_pos h1]; simp)
        have hb1 : ((n : Int) != 1) = false := by rw [h1]; rfl
        clear h h1
        go_wp2
        go_ret
        exact ⟨ret_i HR.out, rfl⟩
      · have HR : Hid (0 = J) := Lib.hid (by rw [← HI.out, h, Wm.jac_zero, if_neg h1]; simp)
        have hb1 : ((n : Int) != 1) = true := by simp; omega
        clear h h1
        go_wp2
        go_ret
        exact ⟨ret_i HR.out, rfl⟩
    · have hb : ((a : Int) != 0) = true := by simp; omega
      have HA := Lib.hid h
      clear h
      go_wp2_with fail
      go_loop [0, 5] (fun s0 s5 => ∃ (b : Nat) (s' : Int), s0 = .int .i64 b ∧ s5 = .int .i64 s' ∧ b ≤ a ∧ 1 ≤ b ∧ -1 ≤ s' ∧ s' ≤ 1 ∧ Hid (s' * Wm.jac b n = J)) (fun s0 _ => (intOf s0).toNat)
      case atStart => exact ⟨a, s, rfl, rfl, Nat.le_refl _, Nat.pos_of_ne_zero HA.out, hs1, hs2, HI⟩
      case round =>
        clear HI hs1 hs2
        obtain ⟨b, s', rfl, rfl, hba, hb1, hs1, hs2, HI⟩ := hrel
        have B2 : ((n : Int) % 8 == 3) = decide (n % 8 = 3) := by rw [Bool.eq_iff_iff]; simp; omega
        have B3 : ((n : Int) % 8 == 5) = decide (n % 8 = 5) := by rw [Bool.eq_iff_iff]; simp; omega
        have B4 : ((b : Int) % 4 == 3) = decide (b % 4 = 3) := by rw [Bool.eq_iff_iff]; simp; omega
        have B5 : ((n : Int) % 4 == 3) = decide (n % 4 = 3) := by rw [Bool.eq_iff_iff]; simp; omega
        by_cases h2 : b % 2 = 0
        · have hp : ((b : Int) % 2 == 0) = true := by simp; omega
          have E3 : Hid ((b : Int) / 2 = ((b / 2 : Nat) : Int)) := Lib.hid (by omega)
          have hb2 : 1 ≤ b / 2 := by omega
          have HI2 := HI.out
          rw [Wm.jac_even (by omega) h2] at HI2
          unfold Wm.s2 at HI2
          clear B4 B5 HI h2
          by_cases h3 : n % 8 = 3 <;> by_cases h4 : n % 8 = 5
          all_goals
            simp only [h3, h4, decide_true, decide_false] at B2 B3
            simp only [h3, h4, or_true, true_or, or_self, if_true, if_false, Int.one_mul] at HI2
            have HI4 := Lib.hid HI2
            clear HI2 h3 h4
            go_wp2
            go_round
            case rel => exact ⟨b / 2, _, by rw [E3.out], rfl, by omega, by omega, by omega, by omega, Lib.hid (by first | (rw [← HI4.out]; done) | (rw [← HI4.out]; simp; done) | (rw [← HI4.out]; simp [Int.neg_mul, Int.mul_neg]; done))⟩
            case measure => rw [E3.out]; simp [intOf]; omega
        · have hp : ((b : Int) % 2 == 0) = false := by simp; omega
          have hrb : n % b < b := Nat.mod_lt _ (by omega)
          have Hm := Lib.hid (mod_nat n b)
          have HI2 := HI.out
          rw [Wm.jac_odd (by omega)] at HI2
          unfold Wm.s4 at HI2
          clear B2 B3 HI h2
          generalize n % b = r at *
          by_cases h3 : b % 4 = 3 <;> by_cases h4 : n % 4 = 3
          all_goals
            simp only [h3, h4, decide_true, decide_false] at B4 B5
            simp only [h3, h4, and_true, and_false, and_self, if_true, if_false, Int.one_mul] at HI2
            have HI4 := Lib.hid HI2
            clear HI2 h3 h4
            go_wp2
            go_round
            case rel => exact ⟨r, b, _, by rw [Hm.out], rfl, rfl, by omega, by omega, by omega, by omega, by omega, Lib.hid (by first | (rw [← HI4.out]; done) | (rw [← HI4.out]; simp; done) | (rw [← HI4.out]; simp [Int.neg_mul, Int.mul_neg]; done))⟩
            case measure => rw [Hm.out]; simp [intOf]; omega
end Go.Proofs.YtppcnfcndkpiiaaDoor.Wr
