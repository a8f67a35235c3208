/- The walk of WordQuadratic. -/
import Derived.Test.YtppcnfcndkpiiaaDoorWl7
import Derived.Test.YtppcnfcndkpiiaaDoorWqr2
namespace Go.Proofs.YtppcnfcndkpiiaaDoor.Wk
open Go.RowKit Go.Proofs.YtppcnfcndkpiiaaDoor.Wb Go.Proofs.YtppcnfcndkpiiaaDoor.Ww

set_option maxHeartbeats 4000000 in
set_option maxRecDepth 100000 in
theorem quadratic_none (a b n : Int) (h : n < 1 ∨ 2305843009213693952 ≤ n ∨ n % 2 = 0 ∨ a < 0 ∨ n ≤ a ∨ b < 0 ∨ n ≤ b) (w : World) (hT : Tab w) :
    Calls Tryd.prog 12 #[.int .i64 a, .int .i64 b, .int .i64 n] w fun e w' => e = .returned (.bool true) ∧ ∃ n, w' = w.drewN n := by
  have HA := Lib.hid (awake w hT)
  have hs : n < 1 ∨ (1 ≤ n ∧ 2305843009213693952 ≤ n) ∨ (1 ≤ n ∧ n < 2305843009213693952 ∧ (n % 2 == 0) = true) ∨ (1 ≤ n ∧ n < 2305843009213693952 ∧ (n % 2 == 0) = false ∧ a < 0) ∨ (1 ≤ n ∧ n < 2305843009213693952 ∧ (n % 2 == 0) = false ∧ 0 ≤ a ∧ n ≤ a) ∨
      (1 ≤ n ∧ n < 2305843009213693952 ∧ (n % 2 == 0) = false ∧ 0 ≤ a ∧ a < n ∧ b < 0) ∨ (1 ≤ n ∧ n < 2305843009213693952 ∧ (n % 2 == 0) = false ∧ 0 ≤ a ∧ a < n ∧ 0 ≤ b ∧ n ≤ b) := by
    simp only [beq_iff_eq, beq_eq_false_iff_ne]
    omega
  clear hT h
  rcases hs with h1 | ⟨h1, h2⟩ | ⟨h1, h2, h3⟩ | ⟨h1, h2, h3, h4⟩ | ⟨h1, h2, h3, h4, h5⟩ | ⟨h1, h2, h3, h4, h5, h6⟩ | ⟨h1, h2, h3, h4, h5, h6, h7⟩
  all_goals
    go_enter Tryd.func12, Tryd.ntmps12
    go_wp2_with fail
    refine HA.out.mono ?_
    rintro e w' ⟨rfl, q, rfl⟩
    go_wp2
    go_ret
    exact ⟨rfl, _, rfl⟩

/-- No odd divisor has been found below d. -/
def Tried (n d : Nat) : Prop := ∀ t, 3 ≤ t → t % 2 = 1 → t < d → n % t ≠ 0

theorem Tried.next {n d : Nat} (h : Tried n d) (hd : n % d ≠ 0) (ho : d % 2 = 1) : Tried n (d + 2) := by
  intro t h3 hto ht
  rcases Nat.lt_trichotomy t d with h1 | h1 | h1
  · exact h t h3 hto h1
  · rw [h1]; exact hd
  · omega
theorem Tried.prime {n d : Nat} (h : Tried n d) (hd : n < d * d) (hn : n % 2 = 1) : ∀ k, 1 ≤ k → k < n → Nat.gcd k n = 1 := by
  apply Qr.prime_of_trial hn
  intro t h3 ho ht
  apply h t h3 ho
  rcases Nat.lt_or_ge t d with h1 | h1
  · exact h1
  · have : d * d ≤ t * t := Nat.mul_le_mul h1 h1
    omega

set_option maxHeartbeats 4000000 in
set_option maxRecDepth 100000 in
theorem quadratic_ok (a b n : Nat) (ha : a < n) (hb : b < n) (hn : n < 2305843009213693952) (ho : n % 2 = 1) (w : World) (hT : Tab w) :
    Calls Tryd.prog 12 #[.int .i64 a, .int .i64 b, .int .i64 n] w fun e w' => e = .returned (.bool true) ∧ ∃ n, w' = w.drewN n := by
  have HA := Lib.hid (awake w hT)
  have lt : ∀ k, k % n < n := fun k => Nat.mod_lt _ (by omega)
  have J1 := Lib.hid (fun q => Jacobi_ok a n ha hn ho (w.drewN q) (hT.drewN q))
  have J2 := Lib.hid (fun q => Jacobi_ok b n hb hn ho (w.drewN q) (hT.drewN q))
  have J3 := Lib.hid (fun q => Jacobi_ok (a * b % n) n (lt _) hn ho (w.drewN q) (hT.drewN q))
  have J4 := Lib.hid (fun q => Jacobi_ok (a * a % n) n (lt _) hn ho (w.drewN q) (hT.drewN q))
  have M1 := Lib.hid (fun w => Mul_ok a b n ha hb hn w)
  have M2 := Lib.hid (fun w => Mul_ok a a n ha ha hn w)
  have G := Lib.hid (fun w => Gcd_any a n (by omega) (by omega) (by omega) (by omega) w)
  rw [Wr.gcd_nat a n ha hn] at G
  rw [Qr.jac_mul a b n ho] at J3
  rw [Qr.jac_mul a a n ho] at J4
  have P := Lib.hid (fun w => Pow_ok a ((n - 1) / 2) n ha hn (by omega) w)
  have R := Lib.hid (fun w => Reduce_ok (Wm.jac a n) n (by omega) (by omega) w)
  have EU := Lib.hid (fun h3 hP => Qr.jac_euler (p := n) (a := a) ho h3 ha hP)
  have EH : Hid (((n : Int) - 1) / 2 = (((n - 1) / 2 : Nat) : Int)) := Lib.hid (by omega)
  have c1 := Qr.jac_cases a n ho
  have c2 := Qr.jac_cases b n ho
  obtain ⟨X, HX⟩ : ∃ X, Hid (Wm.jac a n = X) := ⟨_, Lib.hid rfl⟩
  obtain ⟨Y, HY⟩ : ∃ Y, Hid (Wm.jac b n = Y) := ⟨_, Lib.hid rfl⟩
  obtain ⟨c, u1, u2⟩ : ∃ c : Bool, (X == 0) = c ∧ ((Nat.gcd a n : Int) != 1) = c := by
    rw [HX.out] at c1
    rcases c1 with ⟨h1, h2⟩ | ⟨h1, h2⟩
    · exact ⟨true, by rw [h2]; rfl, by rw [bne_iff_ne]; omega⟩
    · exact ⟨false, by rcases h2 with h2 | h2 <;> rw [h2] <;> rfl, by rw [h1]; rfl⟩
  have bX : -1 ≤ X ∧ X ≤ 1 := by rw [HX.out] at c1; omega
  have bY : -1 ≤ Y ∧ Y ≤ 1 := by rw [HY.out] at c2; omega
  have w1 : wrap64 (X * Y) = X * Y := by
    rw [HX.out] at c1
    rw [HY.out] at c2
    rcases c1 with ⟨_, h1⟩ | ⟨_, h1 | h1⟩ <;> rcases c2 with ⟨_, h2⟩ | ⟨_, h2 | h2⟩ <;> rw [h1, h2] <;> exact IntWalk.wrap64_in _ (by decide)
  have w2 : wrap64 (X * X) = X * X := by
    rw [HX.out] at c1
    rcases c1 with ⟨_, h1⟩ | ⟨_, h1 | h1⟩ <;> rw [h1] <;> exact IntWalk.wrap64_in _ (by decide)
  rw [HX.out] at J1 J3 J4 R EU
  rw [HY.out] at J2 J3
  clear HX HY c1 c2 lt
  obtain ⟨hX1, hX2⟩ := bX
  have hn0 : ¬ (n : Int) < 1 := by omega
  have hn1 : ¬ 2305843009213693952 ≤ (n : Int) := by omega
  have hn2 : ((n : Int) % 2 == 0) = false := by rw [beq_eq_false_iff_ne]; omega
  have hN0 : 0 ≤ (n : Int) := by omega
  have h3 : ¬ (a : Int) < 0 := by omega
  have h4 : ¬ (n : Int) ≤ (a : Int) := by omega
  have h5 : ¬ (b : Int) < 0 := by omega
  have h6 : ¬ (n : Int) ≤ (b : Int) := by omega
  have HO := Lib.hid (And.intro ho hn)
  clear hT ha hb hn ho bY
  generalize Nat.gcd a n = g at *
  generalize a * b % n = ab at *
  generalize a * a % n = aa at *
  obtain ⟨Z, HZ⟩ : ∃ Z, Hid (X * Y = Z) := ⟨_, Lib.hid rfl⟩
  obtain ⟨S, HS⟩ : ∃ S, Hid (X * X = S) := ⟨_, Lib.hid rfl⟩
  rw [HZ.out] at J3
  rw [HS.out] at J4
  replace w1 := w1.trans HZ.out
  replace w2 := w2.trans HS.out
  clear HZ HS
  generalize a ^ ((n - 1) / 2) % n = r at *
  obtain ⟨N, HN⟩ : ∃ N : Int, Hid ((n : Int) = N) := ⟨_, Lib.hid rfl⟩
  rw [HN.out] at J1 J2 J3 J4 M1 M2 G P R EU EH hn0 hn1 hn2 hN0 h4 h6 ⊢
  generalize (a : Int) = A at *
  generalize (b : Int) = B at *
  go_enter Tryd.func12, Tryd.ntmps12
  go_wp2_with fail
  refine HA.out.mono ?_
  rintro e w' ⟨rfl, q, rfl⟩
  go_wp2_with fail
  refine (J1.out _).mono ?_
  rintro e w' ⟨rfl, q1, rfl⟩
  clear h3 h4 h5 h6 hn2
  go_wp2_with fail
  refine (J2.out (q + q1)).mono ?_
  rintro e w' ⟨rfl, q2, rfl⟩
  go_wp2_with fail
  refine (M1.out _).mono ?_
  rintro e w' ⟨rfl, q3, rfl⟩
  go_wp2_with fail
  refine (M2.out _).mono ?_
  rintro e w' ⟨rfl, q4, rfl⟩
  go_wp2_with fail
  refine (J3.out (q + q1 + q2 + q3 + q4)).mono ?_
  rintro e w' ⟨rfl, q5, rfl⟩
  go_wp2_with fail
  refine (J4.out (q + q1 + q2 + q3 + q4 + q5)).mono ?_
  rintro e w' ⟨rfl, q6, rfl⟩
  go_wp2_with fail
  refine (G.out _).mono ?_
  rintro e w7 ⟨rfl, q7, hw⟩
  have HW := Lib.hid hw
  clear hw J1 J2 J3 J4 M1 M2 HA G
  go_upto_region 15 with fail
  by_cases hr : n < 3 ∨ 65536 < n
  · have hr2 : N < 3 ∨ (3 ≤ N ∧ 65536 < N) := by have := HN.out; omega
    clear hr
    rcases hr2 with hr2 | ⟨hr2, hr3⟩
    all_goals
      go_wp2
      go_ret
      exact ⟨rfl, q + q1 + q2 + q3 + q4 + q5 + q6 + q7, by rw [HW.out]; simp⟩
  · have hN3 : 3 ≤ N := by have := HN.out; omega
    have hN6 : N ≤ 65536 := by have := HN.out; omega
    have hr3 : 3 ≤ n ∧ n ≤ 65536 := by omega
    have HR3 := Lib.hid hr3
    clear hr hr3 u1 u2 w1 w2 hn0 hn1 hN0
    go_cut [137] (fun s wx => w7 = wx ∧ s = .bool false)
    case first =>
      have hd1 : decide (N < 3) = false := decide_eq_false (by omega)
      have hd2 : decide (65536 < N) = false := decide_eq_false (by omega)
      clear hN3 hN6
      go_wp2_with fail
      go_meet
      exact ⟨rfl, by first | rfl | (rw [hd1, hd2]; rfl)⟩
    case rest =>
      obtain ⟨rfl, rfl⟩ := hcut
      go_wp2_with fail
      go_loop [17] (fun s17 => ∃ d : Nat, s17 = .int .i64 d ∧ d % 2 = 1 ∧ 3 ≤ d ∧ d ≤ 258 ∧ Hid (Tried n d)) (fun s17 => 300 - (intOf s17).toNat)
      case atStart => exact ⟨3, rfl, rfl, by omega, by omega, Lib.hid (fun t h1 _ h2 => by omega)⟩
      case round =>
        obtain ⟨d, rfl, hdo, hd3, hd8, HT⟩ := hrel
        have hDb : d * d ≤ 258 * 258 := Nat.mul_le_mul hd8 hd8
        have eD : wrap64 ((d : Int) * (d : Int)) = ((d * d : Nat) : Int) := by rw [← Int.natCast_mul]; exact Wr.w64_nat _ (by omega)
        have HDO := Lib.hid hdo
        have hmono : d * d ≤ n → d ≤ 256 := by
          intro h
          have hn6 := HR3.out.2
          rcases Nat.lt_or_ge 256 d with h1 | h1
          · have : 257 * 257 ≤ d * d := Nat.mul_le_mul h1 h1
            omega
          · exact h1
        have HPr := Lib.hid (fun h => Tried.prime HT.out h HO.out.1)
        have HNx := Lib.hid (fun h => Tried.next HT.out h hdo)
        have HDD := Lib.hid (rfl : d * d = d * d)
        generalize hD : d * d = D at eD hmono HPr
        by_cases hle : D ≤ n
        · have hleN : decide ((D : Int) ≤ N) = true := decide_eq_true (by have := HN.out; omega)
          have hd6 := hmono hle
          have ed : (N % (d : Int) == 0) = decide (n % d = 0) := by rw [← HN.out, mod_nat, Bool.eq_iff_iff]; simp; omega
          clear hmono HPr hDb hle hdo hD HDD HT
          by_cases hz : n % d = 0
          · rw [decide_eq_true hz] at ed
            clear hz
            go_wp2
            go_ret
            exact ⟨rfl, q + q1 + q2 + q3 + q4 + q5 + q6 + q7, by rw [HW.out]; simp⟩
          · rw [decide_eq_false hz] at ed
            have HN2 := Lib.hid (HNx.out hz)
            clear hz HNx
            go_wp2
            go_round
            case rel => exact ⟨d + 2, by go_num, by have := HDO.out; omega, by omega, by omega, HN2⟩
            case measure => simp [intOf]; omega
        · have hleN : decide ((D : Int) ≤ N) = false := decide_eq_false (by have := HN.out; omega)
          have HE := Lib.hid (EU.out HR3.out.1 (HPr.out (by omega)))
          clear hmono HPr hDb hle hdo hD HDD HT HNx EU
          go_wp2_with fail
          rw [EH.out]
          refine (P.out _).mono ?_
          rintro e w' ⟨rfl, q8, rfl⟩
          go_wp2_with fail
          refine (R.out _).mono ?_
          rintro e w' ⟨rfl, rfl⟩
          rw [← HE.out]
          go_wp2
          go_ret
          exact ⟨rfl, q + q1 + q2 + q3 + q4 + q5 + q6 + q7 + q8, by rw [HW.out]; simp⟩

theorem WordQuadratic (a b n : Int) (_ : (Lit.int .i64 a).wf = true) (_ : (Lit.int .i64 b).wf = true) (_ : (Lit.int .i64 n).wf = true) (w : World) (hT : Tab w) :
    Calls Tryd.prog 12 #[.int .i64 a, .int .i64 b, .int .i64 n] w fun e w' => e = .returned (.bool true) ∧ ∃ n, w' = w.drewN n := by
  by_cases h : n < 1 ∨ 2305843009213693952 ≤ n ∨ n % 2 = 0 ∨ a < 0 ∨ n ≤ a ∨ b < 0 ∨ n ≤ b
  · exact quadratic_none a b n h w hT
  · obtain ⟨a, rfl⟩ := Int.eq_ofNat_of_zero_le (show 0 ≤ a by omega)
    obtain ⟨b, rfl⟩ := Int.eq_ofNat_of_zero_le (show 0 ≤ b by omega)
    obtain ⟨n, rfl⟩ := Int.eq_ofNat_of_zero_le (show 0 ≤ n by omega)
    exact quadratic_ok a b n (by omega) (by omega) (by omega) (by omega) w hT
end Go.Proofs.YtppcnfcndkpiiaaDoor.Wk
