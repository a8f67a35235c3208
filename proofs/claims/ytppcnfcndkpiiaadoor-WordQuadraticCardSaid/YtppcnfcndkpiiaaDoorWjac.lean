/- The contracts of package word, third part: TrailingZeros64, jacobi, Jacobi. -/
import Derived.Test.YtppcnfcndkpiiaaDoorWgcd
import Derived.Test.YtppcnfcndkpiiaaDoorWjmath
namespace Go.Proofs.YtppcnfcndkpiiaaDoor.Wb
open Go.RowKit

/-- The table of TrailingZeros64 in its variable. -/
def Tab (w : World) : Prop := ∀ j, j < Lib.deBruijn64tab.length → w.cell? ⟨2, j, none⟩ = some (.int .u8 (Lib.deBruijn64tab.getD j 0))
theorem Tab.drewN {w : World} (h : Tab w) (n : Nat) : Tab (w.drewN n) := h

set_option maxHeartbeats 1000000 in
theorem tz64_core (x k idx : Nat) (w : World) (hx0 : ((x : Int) == 0) = false)
    (key : IntKind.u64.wrap (bits BinOp.and IntKind.u64 (x : Int) (IntKind.u64.wrap (-(x : Int))) * 285870213051353865) / 288230376151711744 = (idx : Int))
    (hi : idx < 64) (hk : k < 64) (hcell : w.cell? ⟨2, idx, none⟩ = some (.int .u8 k)) :
    Calls Tryd.prog 41 #[.int .u64 x] w fun e w' => e = .returned (.int .i64 k) ∧ w' = w := by
  go_enter Tryd.func41, Tryd.ntmps41
  go_wp2_with (simp only [key])
  go_ret
  exact ⟨rfl, rfl⟩

theorem tz64_key (x a : Nat) (hx : x < 18446744073709551616) (hx0 : x ≠ 0) (hlow : x &&& (18446744073709551616 - x) = a) :
    IntKind.u64.wrap (bits BinOp.and IntKind.u64 (x : Int) (IntKind.u64.wrap (-(x : Int))) * 285870213051353865) / 288230376151711744 = ((a * 285870213051353865 % 18446744073709551616 / 288230376151711744 : Nat) : Int) := by
  have e1 : IntKind.u64.wrap (-(x : Int)) = ((18446744073709551616 - x : Nat) : Int) := by rw [IntKind.wrap_u64]; omega
  rw [e1, bits_and_u64_nat x _ hx (by omega), hlow, IntKind.wrap_u64]
  omega

theorem trailing64 (x : Nat) (hx : x < 18446744073709551616) (hx0 : x ≠ 0) (w : World) (hT : Tab w) :
    Calls Tryd.prog 41 #[.int .u64 x] w fun e w' => e = .returned (.int .i64 (Lib.ctz 64 x)) ∧ w' = w := by
  obtain ⟨hlow, hk⟩ := Lib.lowest_bit 64 x hx0 hx
  obtain ⟨hi, htab⟩ := Lib.deBruijn64_at _ hk
  have hcell := hT _ hi
  rw [htab] at hcell
  exact tz64_core x _ _ w (by simp; omega) (tz64_key x _ hx hx0 hlow) hi hk hcell
end Go.Proofs.YtppcnfcndkpiiaaDoor.Wb

namespace Go.Proofs.YtppcnfcndkpiiaaDoor.Ww
open Go.RowKit Go.Proofs.YtppcnfcndkpiiaaDoor.Wb

theorem twos_math (a : Nat) (h0 : a ≠ 0) (h : a < 18446744073709551616) : ∃ t b : Nat, Lib.ctz 64 a = t ∧ t < 64 ∧ a / 2 ^ t = b ∧ b % 2 = 1 ∧ 2 ^ t * b = a ∧ b ≤ a ∧ 0 < b := by
  obtain ⟨m, hm, hk⟩ := Lib.ctzFrom_spec 64 a (by omega) h
  have e : Lib.ctz 64 a = Lib.ctzFrom 64 a := by simp [Lib.ctz, h0]
  have hp : 0 < 2 ^ Lib.ctzFrom 64 a := Nat.two_pow_pos _
  refine ⟨_, 2 * m + 1, e, hk, ?_, by omega, hm.symm, ?_, by omega⟩
  · exact (Nat.div_eq_of_eq_mul_right hp hm)
  · conv => rhs; rw [hm]
    exact Nat.le_mul_of_pos_left _ hp

set_option maxHeartbeats 4000000 in
theorem jacobi_any (a n : Nat) (ha : a < 2305843009213693952) (hn : n < 2305843009213693952) (hn1 : 1 ≤ n) (w : World) (hT : Tab w) :
    Calls Tryd.prog 38 #[.int .i64 a, .int .i64 n] w fun e w' => e = .returned (.int .i64 (Wm.jac a n)) ∧ ∃ k, w' = w.drewN k := by
  obtain ⟨J, HJ⟩ : ∃ J, Hid (Wm.jac a n = J) := ⟨_, Lib.hid rfl⟩
  rw [HJ.out]
  have HT := Lib.hid (fun q => hT.drewN q)
  clear hT
  go_enter Tryd.func38, Tryd.ntmps38
  go_wp2_with fail
  go_loopw [0, 1, 5] (fun s0 s1 s5 wr => ∃ (a n : Nat) (s : Int) (q : Nat), s0 = .int .i64 a ∧ s1 = .int .i64 n ∧ s5 = .int .i64 s ∧ wr = w.drewN q ∧ a < 2305843009213693952 ∧ n < 2305843009213693952 ∧ 1 ≤ n ∧ -1 ≤ s ∧ s ≤ 1 ∧ Hid (s * Wm.jac a n = J)) (fun s0 _ _ _ => (intOf s0).toNat)
  case atStart => exact ⟨a, n, 1, 0, rfl, rfl, rfl, rfl, ha, hn, hn1, by omega, by omega, Lib.hid (by rw [Int.one_mul]; exact HJ.out)⟩
  case round =>
    clear HJ ha hn hn1
    obtain ⟨a, n, s, q, rfl, rfl, rfl, rfl, ha, hn, hn1, hs1, hs2, HI⟩ := hrel
    by_cases h : a = 0
    · have hb : ((a : Int) != 0) = false := by rw [h]; rfl
      by_cases h1 : 1 < n
      · have HR : Hid (0 = J) := Lib.hid (by rw [← HI.out, h, Wm.jac_zero, if_neg (by omega)]; simp)
        clear h
        go_wp2
        go_ret
        exact ⟨ret_i HR.out, _, rfl⟩
      · have HR : Hid (s = J) := Lib.hid (by rw [← HI.out, h, Wm.jac_zero, if_pos (by omega)]; simp)
        clear h
        go_wp2
        go_ret
        exact ⟨ret_i HR.out, _, rfl⟩
    · have hb : ((a : Int) != 0) = true := by simp; omega
      obtain ⟨t, b, ht, ht2, hb2, hbo, htb, hba, hb0⟩ := twos_math a h (by omega)
      have Hctz := Lib.hid ht
      have HC := Lib.hid (trailing64 a (by omega) h _ (HT.out q))
      have e2 : (a : Int) / 2 ^ t = (b : Int) := by rw [show ((2 : Int) ^ t) = ((2 ^ t : Nat) : Int) by rw [Int.natCast_pow]; rfl, div_nat, hb2]
      have HRd := Wm.jac_round t b n hbo
      rw [htb] at HRd
      have HI2 : Hid (s * ((if t % 2 = 1 ∧ (n % 8 = 3 ∨ n % 8 = 5) then -1 else 1) * ((if b % 4 = 3 ∧ n % 4 = 3 then -1 else 1) * Wm.jac (n % b) b)) = J) := Lib.hid (by rw [← HRd]; exact HI.out)
      have hrb : n % b < b := Nat.mod_lt _ hb0
      have Hm := Lib.hid (mod_nat n b)
      clear ht hb2 hbo htb HRd HI h
      generalize n % b = r at *
      go_wp2_with fail
      refine HC.out.mono ?_
      rintro x w' ⟨rfl, rfl⟩
      rw [Hctz.out]
      go_upto_region 5 with fail
      clear Hctz HC e2 hb HT
      have B1 : ((t : Int) % 2 == 1) = decide (t % 2 = 1) := by rw [Bool.eq_iff_iff]; simp; omega
      have B2 : ((n : Int) % 8 == 3) = decide (n % 8 = 3) := by rw [Bool.eq_iff_iff]; simp; omega
      have B3 : ((n : Int) % 8 == 5) = decide (n % 8 = 5) := by rw [Bool.eq_iff_iff]; simp; omega
      have B4 : ((b : Int) % 4 == 3) = decide (b % 4 = 3) := by rw [Bool.eq_iff_iff]; simp; omega
      have B5 : ((n : Int) % 4 == 3) = decide (n % 4 = 3) := by rw [Bool.eq_iff_iff]; simp; omega
      by_cases h1 : t % 2 = 1 <;> by_cases h2 : n % 8 = 3 <;> by_cases h3 : n % 8 = 5 <;> by_cases h4 : b % 4 = 3 <;> by_cases h5 : n % 4 = 3
      all_goals
        simp only [h1, h2, h3, h4, h5, decide_true, decide_false] at B1 B2 B3 B4 B5
        have HI3 := HI2.out
        simp only [h1, h2, h3, h4, h5, and_true, and_false, or_true, true_or, or_self, and_self, if_true, if_false, Int.one_mul] at HI3
        have HI4 := Lib.hid HI3
        clear HI3 HI2 h1 h2 h3 h4 h5
        go_wp2
        go_roundw
        case rel => exact ⟨r, b, _, q, by rw [Hm.out], rfl, rfl, rfl, by omega, by omega, by omega, by omega, by omega, Lib.hid (by first | (rw [← HI4.out]; done) | (rw [← HI4.out]; simp; done) | (rw [← HI4.out]; simp [Int.neg_mul, Int.mul_neg]; done))⟩
        case measure => rw [Hm.out]; simp [intOf]; omega

theorem Jacobi_even (a n : Int) (hn : n % 2 = 0) (w : World) :
    Calls Tryd.prog 30 #[.int .i64 a, .int .i64 n] w fun x w' => x = .returned (.tuple #[.int .i64 0, .int .i64 1]) ∧ w' = w := by
  have h1 : n.tmod 2 = 0 := by have := tmod_cases n 2 (by omega); omega
  by_cases h0 : 0 ≤ n
  · have hb : (n % 2 == 0) = true := by simp; omega
    clear h1 hn
    go_enter Tryd.func30, Tryd.ntmps30
    go_wp2_with fail
    refine (check_any _ _ _ _).mono ?_
    rintro x w' ⟨rfl, rfl⟩
    go_wp2
    go_ret2
    exact ⟨rfl, rfl⟩
  · have hb : (n.tmod 2 == 0) = true := by simp; omega
    clear hn h1
    go_enter Tryd.func30, Tryd.ntmps30
    go_wp2_with fail
    refine (check_any _ _ _ _).mono ?_
    rintro x w' ⟨rfl, rfl⟩
    go_wp2
    go_ret2
    exact ⟨rfl, rfl⟩

theorem Jacobi_bad (a n c : Int) (hn : n % 2 ≠ 0) (hc : chk a 0 n = c) (h0 : c = 1 ∨ c = 2) (w : World) :
    Calls Tryd.prog 30 #[.int .i64 a, .int .i64 n] w fun x w' => x = .returned (.tuple #[.int .i64 0, .int .i64 c]) ∧ w' = w := by
  have Hc := Lib.hid hc
  clear hc
  by_cases hs : 0 ≤ n
  · have hb : (n % 2 == 0) = false := by simp; omega
    clear hn
    rcases h0 with rfl | rfl
    all_goals
      go_enter Tryd.func30, Tryd.ntmps30
      go_wp2_with fail
      refine (check_any _ _ _ _).mono ?_
      rintro x w' ⟨rfl, rfl⟩
      rw [Hc.out]
      go_wp2
      go_ret2
      exact ⟨rfl, rfl⟩
  · have hb : (n.tmod 2 == 0) = false := by have := tmod_cases n 2 (by omega); rw [beq_eq_false_iff_ne]; omega
    clear hn
    rcases h0 with rfl | rfl
    all_goals
      go_enter Tryd.func30, Tryd.ntmps30
      go_wp2_with fail
      refine (check_any _ _ _ _).mono ?_
      rintro x w' ⟨rfl, rfl⟩
      rw [Hc.out]
      go_wp2
      go_ret2
      exact ⟨rfl, rfl⟩

theorem Jacobi_ok (a n : Nat) (ha : a < n) (hn : n < 2305843009213693952) (h2 : n % 2 = 1) (w : World) (hT : Tab w) :
    Calls Tryd.prog 30 #[.int .i64 a, .int .i64 n] w fun x w' => x = .returned (.tuple #[.int .i64 (Wm.jac a n), .int .i64 0]) ∧ ∃ k, w' = w.drewN k := by
  have Hc := Lib.hid (chk_ok (b := 0) ha (by omega) hn)
  have hb : ((n : Int) % 2 == 0) = false := by simp; omega
  have HJ := Lib.hid (jacobi_any a n (by omega) hn (by omega) w hT)
  clear hT h2
  obtain ⟨J, HJJ⟩ : ∃ J, Hid (Wm.jac a n = J) := ⟨_, Lib.hid rfl⟩
  rw [HJJ.out] at HJ ⊢
  go_enter Tryd.func30, Tryd.ntmps30
  go_wp2_with fail
  refine (check_any _ _ _ _).mono ?_
  rintro x w' ⟨rfl, rfl⟩
  rw [show ((0 : Int) = ((0 : Nat) : Int)) from rfl, Hc.out]
  go_wp2_with fail
  refine HJ.out.mono ?_
  rintro x w' ⟨rfl, k, rfl⟩
  go_wp2
  go_ret2
  exact ⟨rfl, k, rfl⟩
end Go.Proofs.YtppcnfcndkpiiaaDoor.Ww
