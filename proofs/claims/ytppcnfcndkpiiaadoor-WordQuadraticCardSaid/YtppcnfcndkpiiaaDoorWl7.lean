/- The walk of WordSolutions. -/
import Derived.Test.YtppcnfcndkpiiaaDoorWl6
namespace Go.Proofs.YtppcnfcndkpiiaaDoor.Wk
open Go.RowKit Go.Proofs.YtppcnfcndkpiiaaDoor.Wb Go.Proofs.YtppcnfcndkpiiaaDoor.Ww

/-- Which residues solve. -/
theorem sol_iff (p q n x k : Nat) (hn : 0 < n) (hx : x < n / Nat.gcd p n) (hs : p * x % n = q) : (k % (n / Nat.gcd p n) = x) ↔ p * k % n = q := by
  have hg : 0 < Nat.gcd p n := Nat.gcd_pos_of_pos_right _ hn
  have hst : 0 < n / Nat.gcd p n := Nat.lt_of_le_of_lt (Nat.zero_le _) hx
  have key : p * k % n = p * (k % (n / Nat.gcd p n)) % n := by
    obtain ⟨u, hu⟩ := Nat.gcd_dvd_left p n
    obtain ⟨v, hv⟩ := Nat.gcd_dvd_right p n
    have e1 : n / Nat.gcd p n = v := Nat.div_eq_of_eq_mul_right hg hv
    rw [e1]
    have h3 : p * k = p * (k % v) + n * (u * (k / v)) := by
      have : p * k = p * (v * (k / v) + k % v) := by rw [Nat.div_add_mod]
      rw [this, Nat.mul_add, Nat.add_comm]
      congr 1
      have e2 : p * v = n * u := by
        have a1 : p * v = Nat.gcd p n * u * v := by rw [← hu]
        have a2 : n * u = Nat.gcd p n * v * u := by rw [← hv]
        rw [a1, a2, Nat.mul_assoc, Nat.mul_assoc, Nat.mul_comm u v]
      rw [← Nat.mul_assoc, e2, Nat.mul_assoc]
    rw [h3, Nat.add_mul_mod_self_left]
  constructor
  · intro h
    rw [key, h, hs]
  · intro h
    rw [key] at h
    exact Wm.sol_unique hn (Nat.mod_lt _ hst) hx (by rw [h, hs])

theorem sol_never (p q n k : Nat) (hq : q % Nat.gcd p n ≠ 0) : p * k % n ≠ q := by
  intro h
  apply hq
  rw [← h]
  apply Nat.mod_eq_zero_of_dvd
  exact (Nat.dvd_mod_iff (Nat.gcd_dvd_right p n)).2 (Nat.dvd_trans (Nat.gcd_dvd_left p n) (Nat.dvd_mul_right _ _))

set_option maxHeartbeats 2000000 in
set_option maxRecDepth 100000 in
theorem solutions_ok (a b m n : Nat) (hn : n = 1 + m % 300) (ha : a ≤ 65535) (hb : b ≤ 65535) (hm : m ≤ 65535) (hg : b % n % Nat.gcd (a % n) n = 0) (w : World) (hT : Tab w) :
    Calls Tryd.prog 11 #[.int .u16 a, .int .u16 b, .int .u16 m] w fun e w' => e = .returned (.bool true) ∧ ∃ n, w' = w.drewN n := by
  have HA := Lib.hid (awake w hT)
  have hn1 : 1 ≤ n := by omega
  have hn2 : n ≤ 300 := by omega
  have EN : Hid (1 + (m : Int) % 300 = (n : Int)) := Lib.hid (by omega)
  have lt : ∀ k, k % n < n := fun k => Nat.mod_lt _ (by omega)
  have EP := Lib.hid (mod_nat a n)
  have EQ := Lib.hid (mod_nat b n)
  have HS := Lib.hid (fun w => Solve_ok (a % n) (b % n) n (lt _) (lt _) (by omega) hg w)
  have HM := Lib.hid (fun k (hk : k < n) w => Mul_ok (a % n) k n (lt _) hk (by omega) w)
  have HI := Lib.hid (fun x k hx hs => sol_iff (a % n) (b % n) n x k (by omega) hx hs)
  have hst0 : n / Nat.gcd (a % n) n ≤ n := Nat.div_le_self _ _
  unfold SolPost at HS
  have hn0 : ((n : Int) == 0) = false := by simp; omega
  clear hT hg lt hn
  generalize n / Nat.gcd (a % n) n = st at *
  generalize a % n = p at *
  generalize b % n = q at *
  go_enter Tryd.func11, Tryd.ntmps11
  go_wp2_with fail
  refine HA.out.mono ?_
  rintro e w1 ⟨rfl, q0, hw⟩
  have HW := Lib.hid hw
  clear hw
  go_upto_region 4 with fail
  rw [EN.out]
  go_quiet (fail)
  go_wp2_with fail
  rw [EP.out, EQ.out]
  refine (HS.out _).mono ?_
  rintro e w' ⟨x, hx, hs, rfl, q1, rfl⟩
  have HK := Lib.hid (fun k => HI.out x k hx hs)
  have hst1 : 1 ≤ (st : Int) := by omega
  have d1 : decide ((st : Int) < 1) = false := decide_eq_false (by omega)
  have d2 : decide (n < st) = false := decide_eq_false (by omega)
  have d3 : decide ((x : Int) < 0) = false := decide_eq_false (by omega)
  have d4 : decide (st ≤ x) = false := decide_eq_false (by omega)
  clear hs HI HS
  go_wp2_with fail
  go_loopw [74] (fun s74 wr => ∃ k q' : Nat, s74 = .int .i64 k ∧ wr = w1.drewN q' ∧ k ≤ n) (fun s74 _ => n - (intOf s74).toNat)
  case atStart => exact ⟨0, nq + q1, rfl, rfl, by omega⟩
  case round =>
    obtain ⟨k, q', rfl, rfl, hkn⟩ := hrel
    by_cases hk : k < n
    · have hk1 : (k : Int) < (n : Int) := by omega
      have HMk := Lib.hid (fun w => HM.out k hk w)
      have HKk := Lib.hid (HK.out k)
      have B1 : ((k : Int) % (st : Int) == (x : Int)) = decide (k % st = x) := by rw [mod_nat, Bool.eq_iff_iff]; simp; omega
      clear HM HK
      generalize p * k % n = y at *
      have B2 : ((y : Int) == (q : Int)) = decide (y = q) := by rw [Bool.eq_iff_iff]; simp; omega
      by_cases h : y = q
      · have h2 := HKk.out.2 h
        rw [decide_eq_true h2] at B1
        rw [decide_eq_true h] at B2
        clear h h2 HKk
        go_wp2_with fail
        refine (HMk.out _).mono ?_
        rintro e w' ⟨rfl, q2, rfl⟩
        go_wp2
        go_roundw
        case rel => exact ⟨k + 1, q' + q2, by go_num, rfl, by omega⟩
        case measure => simp [intOf]; omega
      · have h2 : ¬ k % st = x := fun hh => h (HKk.out.1 hh)
        rw [decide_eq_false h2] at B1
        rw [decide_eq_false h] at B2
        clear h h2 HKk
        go_wp2_with fail
        refine (HMk.out _).mono ?_
        rintro e w' ⟨rfl, q2, rfl⟩
        go_wp2
        go_roundw
        case rel => exact ⟨k + 1, q' + q2, by go_num, rfl, by omega⟩
        case measure => simp [intOf]; omega
    · have hk1 : ¬ (k : Int) < (n : Int) := by omega
      clear hk
      go_wp2
      go_ret
      exact ⟨rfl, q0 + q', by rw [HW.out]; simp⟩
set_option maxHeartbeats 2000000 in
set_option maxRecDepth 100000 in
theorem solutions_none (a b m n : Nat) (hn : n = 1 + m % 300) (ha : a ≤ 65535) (hb : b ≤ 65535) (hm : m ≤ 65535) (hg : b % n % Nat.gcd (a % n) n ≠ 0) (w : World) (hT : Tab w) :
    Calls Tryd.prog 11 #[.int .u16 a, .int .u16 b, .int .u16 m] w fun e w' => e = .returned (.bool true) ∧ ∃ n, w' = w.drewN n := by
  have HA := Lib.hid (awake w hT)
  have hn1 : 1 ≤ n := by omega
  have hn2 : n ≤ 300 := by omega
  have EN : Hid (1 + (m : Int) % 300 = (n : Int)) := Lib.hid (by omega)
  have lt : ∀ k, k % n < n := fun k => Nat.mod_lt _ (by omega)
  have EP := Lib.hid (mod_nat a n)
  have EQ := Lib.hid (mod_nat b n)
  have HS := Lib.hid (fun w => Solve_none (a % n) (b % n) n (lt _) (lt _) (by omega) hg w)
  have HM := Lib.hid (fun k (hk : k < n) w => Mul_ok (a % n) k n (lt _) hk (by omega) w)
  have HK := Lib.hid (fun k => sol_never (a % n) (b % n) n k hg)
  have hn0 : ((n : Int) == 0) = false := by simp; omega
  clear hT hg lt hn
  generalize a % n = p at *
  generalize b % n = q at *
  go_enter Tryd.func11, Tryd.ntmps11
  go_wp2_with fail
  refine HA.out.mono ?_
  rintro e w1 ⟨rfl, q0, hw⟩
  have HW := Lib.hid hw
  clear hw
  go_upto_region 4 with fail
  rw [EN.out]
  go_quiet (fail)
  go_wp2_with fail
  rw [EP.out, EQ.out]
  refine (HS.out _).mono ?_
  rintro e w' ⟨rfl, q1, rfl⟩
  clear HS
  go_wp2_with fail
  go_loopw [74] (fun s74 wr => ∃ k q' : Nat, s74 = .int .i64 k ∧ wr = w1.drewN q' ∧ k ≤ n) (fun s74 _ => n - (intOf s74).toNat)
  case atStart => exact ⟨0, nq + q1, rfl, rfl, by omega⟩
  case round =>
    obtain ⟨k, q', rfl, rfl, hkn⟩ := hrel
    by_cases hk : k < n
    · have hk1 : (k : Int) < (n : Int) := by omega
      have HMk := Lib.hid (fun w => HM.out k hk w)
      have h := HK.out k
      clear HM HK
      generalize p * k % n = y at *
      have B2 : ((y : Int) == (q : Int)) = false := by rw [beq_eq_false_iff_ne]; omega
      clear h
      go_wp2_with fail
      refine (HMk.out _).mono ?_
      rintro e w' ⟨rfl, q2, rfl⟩
      go_wp2
      go_roundw
      case rel => exact ⟨k + 1, q' + q2, by go_num, rfl, by omega⟩
      case measure => simp [intOf]; omega
    · have hk1 : ¬ (k : Int) < (n : Int) := by omega
      clear hk
      go_wp2
      go_ret
      exact ⟨rfl, q0 + q', by rw [HW.out]; simp⟩
theorem WordSolutions (a b m : Int) (ha : (Lit.int .u16 a).wf = true) (hb : (Lit.int .u16 b).wf = true) (hm : (Lit.int .u16 m).wf = true) (w : World) (hT : Tab w) :
    Calls Tryd.prog 11 #[.int .u16 a, .int .u16 b, .int .u16 m] w fun e w' => e = .returned (.bool true) ∧ ∃ n, w' = w.drewN n := by
  have h1 := range16 ha
  have h2 := range16 hb
  have h3 := range16 hm
  obtain ⟨a, rfl⟩ := Int.eq_ofNat_of_zero_le h1.1
  obtain ⟨b, rfl⟩ := Int.eq_ofNat_of_zero_le h2.1
  obtain ⟨m, rfl⟩ := Int.eq_ofNat_of_zero_le h3.1
  by_cases hg : b % (1 + m % 300) % Nat.gcd (a % (1 + m % 300)) (1 + m % 300) = 0
  · exact solutions_ok a b m _ rfl (by omega) (by omega) (by omega) hg w hT
  · exact solutions_none a b m _ rfl (by omega) (by omega) (by omega) hg w hT
end Go.Proofs.YtppcnfcndkpiiaaDoor.Wk
