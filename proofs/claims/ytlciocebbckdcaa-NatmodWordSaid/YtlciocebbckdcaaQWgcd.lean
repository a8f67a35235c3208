/- The contracts of package word, second part: Pow's errors, Reduce, Gcd, euclid, Inverse, Solve. -/
import Derived.Test.YtlciocebbckdcaaQWword
import Derived.Test.YtlciocebbckdcaaQWeu
namespace Go.Proofs.Ytlciocebbckdcaa.Ww
open Go.RowKit Go.Proofs.Ytlciocebbckdcaa.Wb

theorem tmod_cases (a m : Int) (hm : 0 < m) : (0 ≤ a.tmod m ∧ a.tmod m < m ∧ a % m = a.tmod m) ∨ (a.tmod m < 0 ∧ -m < a.tmod m ∧ a % m = a.tmod m + m) := by
  by_cases h : a < 0
  · obtain ⟨b, rfl⟩ : ∃ b, a = -b := ⟨-a, by omega⟩
    have e : (-b).tmod m = -(b % m) := by rw [Int.neg_tmod, Int.tmod_eq_emod_of_nonneg (by omega)]
    have h1 := Int.emod_nonneg b (by omega : m ≠ 0)
    have h2 := Int.emod_lt_of_pos b hm
    have h3 : (-b) % m = (-(b % m)) % m := by
      rw [← Int.zero_sub b, Int.sub_emod, ← Int.zero_sub (b % m), Int.sub_emod 0 (b % m), Int.emod_emod]
    rw [e, h3]
    by_cases h4 : 0 < b % m
    · right
      refine ⟨by omega, by omega, ?_⟩
      rw [← Int.add_emod_right, Int.emod_eq_of_lt (by omega) (by omega)]
    · left
      have : b % m = 0 := by omega
      rw [this]
      simp
      omega
  · left
    rw [Int.tmod_eq_emod_of_nonneg (by omega)]
    exact ⟨Int.emod_nonneg _ (by omega), Int.emod_lt_of_pos _ hm, rfl⟩

/-- The greatest common divisor as an int. -/
def gcdOf (a b : Int) : Int := if Nat.gcd a.natAbs b.natAbs = 9223372036854775808 then 0 else Nat.gcd a.natAbs b.natAbs

theorem euclid_arith (d rest m : Nat) (x next : Int) (hd : d < 2305843009213693952) (hm : m < 2305843009213693952)
    (b1 : -(m : Int) ≤ ((d / rest : Nat) : Int) * next) (b2 : ((d / rest : Nat) : Int) * next ≤ m) (b3 : -(m : Int) ≤ x - ((d / rest : Nat) : Int) * next) (b4 : x - ((d / rest : Nat) : Int) * next ≤ m) :
    wrap64 ((d : Int) - wrap64 (wrap64 ((d : Int) / (rest : Int)) * (rest : Int))) = ((d % rest : Nat) : Int) ∧ wrap64 (x - wrap64 (wrap64 ((d : Int) / (rest : Int)) * next)) = x - ((d / rest : Nat) : Int) * next := by
  have h1 : d / rest * rest + d % rest = d := Nat.div_add_mod' d rest
  have h2 : d / rest ≤ d := Nat.div_le_self _ _
  rw [div_nat]
  generalize d / rest = q at *
  generalize d % rest = r at *
  rw [IntWalk.wrap64_in (q : Int) ⟨by omega, by omega⟩, ← Int.natCast_mul]
  generalize q * rest = z at *
  generalize (q : Int) * next = t at *
  refine ⟨?_, ?_⟩
  · rw [IntWalk.wrap64_in (z : Int) ⟨by omega, by omega⟩, IntWalk.wrap64_in _ ⟨by omega, by omega⟩]; omega
  · rw [IntWalk.wrap64_in t ⟨by omega, by omega⟩, IntWalk.wrap64_in _ ⟨by omega, by omega⟩]

/-- What euclid returns. -/
def EuPost (a m : Nat) (w : World) (e : Ending) (w' : World) : Prop := ∃ x : Nat, Wm.EuOut a m x ∧ e = .returned (.tuple #[.int .i64 x, .int .i64 (Nat.gcd a m)]) ∧ ∃ n, w' = w.drewN n

set_option maxHeartbeats 1000000 in
theorem euclid_any (a m : Nat) (ha : a < m) (hm : m < 2305843009213693952) (w : World) :
    Calls Try.prog 100 #[.int .i64 a, .int .i64 m] w (EuPost a m w) := by
  go_enter Try.func100, Try.ntmps100
  go_wp2_with fail
  go_loop [4, 5, 6, 7] (fun s4 s5 s6 s7 => ∃ (x next : Int) (d rest : Nat), s4 = .int .i64 x ∧ s5 = .int .i64 d ∧ s6 = .int .i64 rest ∧ s7 = .int .i64 next ∧ d < 2305843009213693952 ∧ Wm.Eu a m x next d rest) (fun _ _ s6 _ => (intOf s6).toNat)
  case atStart => exact ⟨0, 1, m, a, rfl, rfl, rfl, rfl, hm, Wm.Eu.start ha⟩
  case round =>
    obtain ⟨x, next, d, rest, rfl, rfl, rfl, rfl, hd, hE⟩ := hrel
    have hlt := hE.lt
    have hh := hE.half
    by_cases h : rest = 0
    · have hb : ((rest : Int) != 0) = false := by rw [h]; rfl
      subst h
      have HD := Lib.hid hE.stop
      by_cases hx : x < 0
      · obtain ⟨o, e⟩ := hE.outNeg hx
        have HO := Lib.hid o
        have HX := Lib.hid e
        clear o e hE
        go_wp2
        go_ret2
        exact ⟨_, HO.out, ret_ii HX.out.symm (by rw [HD.out]), 0, rfl⟩
      · obtain ⟨o, e⟩ := hE.out (by omega) (by omega)
        have HO := Lib.hid o
        have HX := Lib.hid e
        clear o e hE
        go_wp2
        go_ret2
        exact ⟨_, HO.out, ret_ii HX.out.symm (by rw [HD.out]), 0, rfl⟩
    · have hb : ((rest : Int) != 0) = true := by simp; omega
      obtain ⟨h2, b1, b2, b3, b4⟩ := hE.step (by omega)
      have hrl : d % rest < rest := Nat.mod_lt _ (by omega)
      obtain ⟨E1, E2⟩ := euclid_arith d rest m x next hd hm b1 b2 b3 b4
      have HE := Lib.hid h2
      have H1 := Lib.hid E1
      have H2 := Lib.hid E2
      have Hrl := Lib.hid hrl
      clear hE h2 E1 E2 b1 b2 b3 b4 hrl
      go_wp2
      go_round
      case rel => exact ⟨next, _, rest, d % rest, rfl, rfl, by rw [H1.out], by rw [H2.out], by omega, HE.out⟩
      case measure => rw [H1.out]; simp [intOf]; exact Hrl.out

theorem Inverse_bad (a m c : Int) (hc : chk a 0 m = c) (h0 : c = 1 ∨ c = 2) (w : World) :
    Calls Try.prog 52 #[.int .i64 a, .int .i64 m] w fun x w' => x = .returned (.tuple #[.int .i64 0, .int .i64 c]) ∧ w' = w := by
  have Hc := Lib.hid hc
  clear hc
  rcases h0 with rfl | rfl
  all_goals
    go_enter Try.func52, Try.ntmps52
    go_wp2_with fail
    refine (check_any _ _ _ _).mono ?_
    rintro x w' ⟨rfl, rfl⟩
    rw [Hc.out]
    go_wp2
    go_ret2
    exact ⟨rfl, rfl⟩

/-- What Inverse returns where there is an inverse. -/
def InvPost (a m : Nat) (w : World) (e : Ending) (w' : World) : Prop := ∃ x : Nat, x < m ∧ a * x % m = 1 % m ∧ e = .returned (.tuple #[.int .i64 x, .int .i64 0]) ∧ ∃ n, w' = w.drewN n

theorem Inverse_ok (a m : Nat) (ha : a < m) (hm : m < 2305843009213693952) (hg : Nat.gcd a m = 1) (w : World) :
    Calls Try.prog 52 #[.int .i64 a, .int .i64 m] w (InvPost a m w) := by
  have Hc := Lib.hid (chk_ok (b := 0) ha (by omega) hm)
  have Hg := Lib.hid hg
  clear hg
  go_enter Try.func52, Try.ntmps52
  go_wp2_with fail
  refine (check_any _ _ _ _).mono ?_
  rintro x w' ⟨rfl, rfl⟩
  rw [show ((0 : Int) = ((0 : Nat) : Int)) from rfl, Hc.out]
  go_wp2_with fail
  refine (euclid_any a m ha hm _).mono ?_
  rintro x w' ⟨y, ⟨hy, hd⟩, rfl, n, rfl⟩
  have HD := Lib.hid hd
  clear hd
  rw [Hg.out]
  go_wp2
  go_ret2
  refine ⟨y, hy, ?_, rfl, n, rfl⟩
  have := HD.out
  rw [Hg.out, ← Int.natCast_mul] at this
  exact Wm.mod_of_dvd this

theorem Inverse_none (a m : Nat) (ha : a < m) (hm : m < 2305843009213693952) (hg : Nat.gcd a m ≠ 1) (w : World) :
    Calls Try.prog 52 #[.int .i64 a, .int .i64 m] w fun x w' => x = .returned (.tuple #[.int .i64 0, .int .i64 10]) ∧ ∃ n, w' = w.drewN n := by
  have Hc := Lib.hid (chk_ok (b := 0) ha (by omega) hm)
  obtain ⟨g, Hg⟩ : ∃ g, Hid (Nat.gcd a m = g) := ⟨_, Lib.hid rfl⟩
  rw [Hg.out] at hg
  have hgb : ((g : Int) != 1) = true := by simp; omega
  clear hg
  go_enter Try.func52, Try.ntmps52
  go_wp2_with fail
  refine (check_any _ _ _ _).mono ?_
  rintro x w' ⟨rfl, rfl⟩
  rw [show ((0 : Int) = ((0 : Nat) : Int)) from rfl, Hc.out]
  go_wp2_with fail
  refine (euclid_any a m ha hm _).mono ?_
  rintro x w' ⟨y, ⟨hy, hd⟩, rfl, n, rfl⟩
  clear hd
  rw [Hg.out]
  go_wp2
  go_ret2
  exact ⟨rfl, n, rfl⟩

/-- What Solve returns where there is a solution: one that is less than the step. -/
def SolPost (a b m : Nat) (w : World) (e : Ending) (w' : World) : Prop := ∃ x : Nat, x < m / Nat.gcd a m ∧ a * x % m = b ∧ e = .returned (.tuple #[.int .i64 x, .int .i64 (m / Nat.gcd a m : Nat), .int .i64 0]) ∧ ∃ n, w' = w.drewN n

/-- The solution that Solve finds. -/
theorem sol_math (a b m y : Nat) (hb : b < m) (hy : Wm.EuOut a m y) (hg : b % Nat.gcd a m = 0) :
    y * (b / Nat.gcd a m) % m % (m / Nat.gcd a m) < m / Nat.gcd a m ∧ a * (y * (b / Nat.gcd a m) % m % (m / Nat.gcd a m)) % m = b := by
  have hgp : 0 < Nat.gcd a m := Nat.gcd_pos_of_pos_right _ (by omega)
  have hgm : Nat.gcd a m ≤ m := Nat.gcd_le_right _ (by omega)
  have hs : 0 < m / Nat.gcd a m := Nat.div_pos hgm hgp
  refine ⟨Nat.mod_lt _ hs, ?_⟩
  have hd := hy.2
  rw [← Int.natCast_mul] at hd
  have h1 := Wm.mod_of_dvd hd
  obtain ⟨u, hu⟩ := Nat.gcd_dvd_left a m
  obtain ⟨v, hv⟩ := Nat.gcd_dvd_right a m
  obtain ⟨k, hk⟩ : ∃ k, b = Nat.gcd a m * k := ⟨b / Nat.gcd a m, by have := Nat.div_add_mod b (Nat.gcd a m); omega⟩
  generalize Nat.gcd a m = g at *
  have e1 : m / g = v := by rw [hv]; exact Nat.mul_div_cancel_left _ hgp
  have e2 : b / g = k := by rw [hk]; exact Nat.mul_div_cancel_left _ hgp
  rw [e1, e2]
  have h2 : a * (y * k % m) % m = b := by
    rw [Nat.mul_mod_mod, ← Nat.mul_assoc, ← Nat.mod_mul_mod, h1, Nat.mod_mul_mod, ← hk, Nat.mod_eq_of_lt hb]
  have hx := Nat.div_add_mod (y * k % m) v
  have h3 : a * (y * k % m) = a * (y * k % m % v) + m * (u * (y * k % m / v)) := by
    have : a * (y * k % m) = a * (v * (y * k % m / v) + y * k % m % v) := by rw [hx]
    rw [this, Nat.mul_add, Nat.add_comm]
    congr 1
    conv => lhs; rw [hu]
    conv => rhs; rw [hv]
    rw [Nat.mul_assoc, Nat.mul_assoc, Nat.mul_left_comm u v, ← hv]
  rw [h3, Nat.add_mul_mod_self_left] at h2
  exact h2

end Go.Proofs.Ytlciocebbckdcaa.Ww
