/- The walk of WordExponents. -/
import Derived.Test.YtppcnfcndkpiiaaDoorWl5
namespace Go.Proofs.YtppcnfcndkpiiaaDoor.Wk
open Go.RowKit Go.Proofs.YtppcnfcndkpiiaaDoor.Wb Go.Proofs.YtppcnfcndkpiiaaDoor.Ww

theorem range32 {a : Int} (h : (Lit.int .u32 a).wf = true) : 0 ≤ a ∧ a ≤ 4294967295 := by
  simp [Lit.wf, IntKind.min, IntKind.max, IntKind.signed, IntKind.bits] at h
  omega
theorem range16 {a : Int} (h : (Lit.int .u16 a).wf = true) : 0 ≤ a ∧ a ≤ 65535 := by
  simp [Lit.wf, IntKind.min, IntKind.max, IntKind.signed, IntKind.bits] at h
  omega

set_option maxHeartbeats 2000000 in
set_option maxRecDepth 100000 in
theorem exponents_none (a b m : Int) (e f : Nat) (h : m < 1 ∨ 2305843009213693952 ≤ m ∨ a < 0 ∨ m ≤ a ∨ b < 0 ∨ m ≤ b) (w : World) (hT : Tab w) :
    Calls Tryd.prog 10 #[.int .i64 a, .int .i64 b, .int .i64 m, .int .u32 e, .int .u32 f] w fun e w' => e = .returned (.bool true) ∧ ∃ n, w' = w.drewN n := by
  have HA := Lib.hid (awake w hT)
  have hs : m < 1 ∨ (1 ≤ m ∧ 2305843009213693952 ≤ m) ∨ (1 ≤ m ∧ m < 2305843009213693952 ∧ a < 0) ∨ (1 ≤ m ∧ m < 2305843009213693952 ∧ 0 ≤ a ∧ m ≤ a) ∨ (1 ≤ m ∧ m < 2305843009213693952 ∧ 0 ≤ a ∧ a < m ∧ b < 0) ∨ (1 ≤ m ∧ m < 2305843009213693952 ∧ 0 ≤ a ∧ a < m ∧ 0 ≤ b ∧ m ≤ b) := by omega
  clear hT h
  rcases hs with h1 | ⟨h1, h2⟩ | ⟨h1, h2, h3⟩ | ⟨h1, h2, h3, h4⟩ | ⟨h1, h2, h3, h4, h5⟩ | ⟨h1, h2, h3, h4, h5, h6⟩
  all_goals
    go_enter Tryd.func10, Tryd.ntmps10
    go_wp2_with fail
    refine HA.out.mono ?_
    rintro e w' ⟨rfl, q, rfl⟩
    go_wp2
    go_ret
    exact ⟨rfl, _, rfl⟩

theorem expo_math (a b m e f k : Nat) :
    (a ^ e % m) * (a ^ f % m) % m = a ^ (e + f) % m ∧ (a * b % m) ^ e % m = (a ^ e % m) * (b ^ e % m) % m ∧ a ^ (e * k) % m = (a ^ e % m) ^ k % m := by
  refine ⟨?_, ?_, ?_⟩
  · rw [← Nat.mul_mod, Nat.pow_add]
  · rw [← Nat.pow_mod, Nat.mul_pow, ← Nat.mul_mod]
  · rw [← Nat.pow_mod, Nat.pow_mul]

set_option maxHeartbeats 2000000 in
set_option maxRecDepth 100000 in
theorem exponents_ok (a b m e f : Nat) (ha : a < m) (hb : b < m) (hm : m < 2305843009213693952) (he : e < 4294967296) (hf : f < 4294967296) (w : World) (hT : Tab w) :
    Calls Tryd.prog 10 #[.int .i64 a, .int .i64 b, .int .i64 m, .int .u32 e, .int .u32 f] w fun e w' => e = .returned (.bool true) ∧ ∃ n, w' = w.drewN n := by
  have HA := Lib.hid (awake w hT)
  obtain ⟨m1, m2, m3⟩ := expo_math a b m e f (f % 1000)
  have lt : ∀ k, k % m < m := fun k => Nat.mod_lt _ (by omega)
  have hk : f % 1000 < 1000 := Nat.mod_lt _ (by decide)
  have hek : e * (f % 1000) < 4294967296000 := by
    have : e * (f % 1000) ≤ e * 1000 := Nat.mul_le_mul_left _ (by omega)
    omega
  have P1 := Lib.hid (fun w => Pow_ok a e m ha hm (by omega) w)
  have P2 := Lib.hid (fun w => Pow_ok a f m ha hm (by omega) w)
  have P3 := Lib.hid (fun w => Pow_ok a (e + f) m ha hm (by omega) w)
  have M1 := Lib.hid (fun w => Mul_ok (a ^ e % m) (a ^ f % m) m (lt _) (lt _) hm w)
  have P4 := Lib.hid (fun w => Pow_ok b e m hb hm (by omega) w)
  have M2 := Lib.hid (fun w => Mul_ok a b m ha hb hm w)
  have M3 := Lib.hid (fun w => Mul_ok (a ^ e % m) (b ^ e % m) m (lt _) (lt _) hm w)
  have P5 := Lib.hid (fun w => Pow_ok (a * b % m) e m (lt _) hm (by omega) w)
  have P6 := Lib.hid (fun w => Pow_ok (a ^ e % m) (f % 1000) m (lt _) hm (by omega) w)
  have P7 := Lib.hid (fun w => Pow_ok a (e * (f % 1000)) m ha hm (by omega) w)
  rw [m1] at M1
  rw [m2] at P5
  rw [m3] at P7
  have E1 : Hid ((e : Int) + (f : Int) = ((e + f : Nat) : Int)) := Lib.hid (Int.natCast_add e f).symm
  have E2 : Hid ((f : Int) % 1000 = ((f % 1000 : Nat) : Int)) := Lib.hid (by omega)
  have E3 : Hid (wrap64 ((e : Int) * ((f % 1000 : Nat) : Int)) = ((e * (f % 1000) : Nat) : Int)) := Lib.hid (by rw [← Int.natCast_mul]; exact Wr.w64_nat _ (by omega))
  have hm0 : 1 ≤ m := by omega
  have he2 : e ≤ 4294967295 := by omega
  have hf2 : f ≤ 4294967295 := by omega
  clear hT m1 m2 m3 lt hk hek he hf
  generalize e * (f % 1000) = ek at *
  generalize f % 1000 = k at *
  generalize hes : e + f = es at *
  clear hes
  generalize (a ^ e % m) ^ k % m = t at *
  generalize (a ^ e % m) * (b ^ e % m) % m = xz at *
  generalize a ^ e % m = x at *
  generalize a ^ f % m = y at *
  generalize a ^ es % m = s at *
  generalize b ^ e % m = z at *
  generalize a * b % m = ab at *
  have g1 : ¬ (m : Int) < 1 := by omega
  have g2 : ¬ 2305843009213693952 ≤ (m : Int) := by omega
  have g3 : ¬ (a : Int) < 0 := by omega
  have g4 : ¬ (m : Int) ≤ (a : Int) := by omega
  have g5 : ¬ (b : Int) < 0 := by omega
  have g6 : ¬ (m : Int) ≤ (b : Int) := by omega
  clear ha hb hm hm0
  generalize (m : Int) = M at *
  generalize (a : Int) = A at *
  generalize (b : Int) = B at *
  go_enter Tryd.func10, Tryd.ntmps10
  go_wp2_with fail
  refine HA.out.mono ?_
  rintro e w' ⟨rfl, q, rfl⟩
  go_wp2_with fail
  refine (P1.out _).mono ?_
  rintro e w' ⟨rfl, q1, rfl⟩
  go_wp2_with fail
  refine (P2.out _).mono ?_
  rintro e w' ⟨rfl, q2, rfl⟩
  go_wp2_with fail
  rw [E1.out]
  refine (P3.out _).mono ?_
  rintro e w' ⟨rfl, q3, rfl⟩
  go_wp2_with fail
  refine (M1.out _).mono ?_
  rintro e w' ⟨rfl, q4, rfl⟩
  go_wp2_with fail
  refine (P4.out _).mono ?_
  rintro e w' ⟨rfl, q5, rfl⟩
  go_wp2_with fail
  refine (M2.out _).mono ?_
  rintro e w' ⟨rfl, q6, rfl⟩
  go_wp2_with fail
  refine (M3.out _).mono ?_
  rintro e w' ⟨rfl, q7, rfl⟩
  go_wp2_with fail
  refine (P5.out _).mono ?_
  rintro e w' ⟨rfl, q8, rfl⟩
  go_wp2_with fail
  rw [E2.out]
  refine (P6.out _).mono ?_
  rintro e w' ⟨rfl, q9, rfl⟩
  go_wp2_with fail
  rw [E2.out, E3.out]
  refine (P7.out _).mono ?_
  rintro e w' ⟨rfl, q10, rfl⟩
  go_wp2
  go_ret
  exact ⟨rfl, _, rfl⟩

theorem WordExponents (a b m e f : Int) (_ : (Lit.int .i64 a).wf = true) (_ : (Lit.int .i64 b).wf = true) (_ : (Lit.int .i64 m).wf = true) (he : (Lit.int .u32 e).wf = true) (hf : (Lit.int .u32 f).wf = true) (w : World) (hT : Tab w) :
    Calls Tryd.prog 10 #[.int .i64 a, .int .i64 b, .int .i64 m, .int .u32 e, .int .u32 f] w fun e w' => e = .returned (.bool true) ∧ ∃ n, w' = w.drewN n := by
  have h1 := range32 he
  have h2 := range32 hf
  obtain ⟨e, rfl⟩ := Int.eq_ofNat_of_zero_le h1.1
  obtain ⟨f, rfl⟩ := Int.eq_ofNat_of_zero_le h2.1
  by_cases h : m < 1 ∨ 2305843009213693952 ≤ m ∨ a < 0 ∨ m ≤ a ∨ b < 0 ∨ m ≤ b
  · exact exponents_none a b m e f h w hT
  · obtain ⟨a, rfl⟩ := Int.eq_ofNat_of_zero_le (show 0 ≤ a by omega)
    obtain ⟨b, rfl⟩ := Int.eq_ofNat_of_zero_le (show 0 ≤ b by omega)
    obtain ⟨m, rfl⟩ := Int.eq_ofNat_of_zero_le (show 0 ≤ m by omega)
    exact exponents_ok a b m e f (by omega) (by omega) (by omega) (by omega) (by omega) w hT
end Go.Proofs.YtppcnfcndkpiiaaDoor.Wk
