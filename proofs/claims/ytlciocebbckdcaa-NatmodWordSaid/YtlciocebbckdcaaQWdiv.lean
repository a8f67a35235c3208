/- math/bits.Div64 over this seat's translation: the quotient and the remainder of two words by one. -/
import Derived.Test.YtlciocebbckdcaaQWbits
import Derived.LoopTactic
import Derived.Outline
import Derived.Lib.Hide
import Derived.Deep.CutBlock
import Derived.Deep.DeepCutAuto
import Derived.Deep.LoopGhost
namespace Go.Proofs.Ytlciocebbckdcaa.Wb
open Go.RowKit

theorem div_nat (a b : Nat) : (a : Int) / (b : Int) = ((a / b : Nat) : Int) := (Int.natCast_ediv _ _).symm
theorem mod_nat (a b : Nat) : (a : Int) % (b : Int) = ((a % b : Nat) : Int) := (Int.natCast_emod _ _).symm
theorem u64_nat (a : Nat) (h : a < 18446744073709551616) : IntKind.u64.wrap (a : Int) = (a : Int) := IntWalk.u64_in _ ⟨by omega, by omega⟩

theorem div64_small (lo y : Nat) (hy : y < 18446744073709551616) (h0 : 0 < y) (hlo : lo < 18446744073709551616) (w : World) :
    Calls Try.prog 123 #[.int .u64 (0 : Int), .int .u64 lo, .int .u64 y] w fun e w' => e = .returned (.tuple #[.int .u64 ((lo / y : Nat) : Int), .int .u64 ((lo % y : Nat) : Int)]) ∧ ∃ n, w' = w.drewN n := by
  have h1 : ((y : Int) == 0) = false := by simp; omega
  have h2 : decide ((y : Int) ≤ 0) = false := by simp; omega
  have hq : lo / y ≤ lo := Nat.div_le_self _ _
  have e1 : IntKind.u64.wrap ((lo : Int) / (y : Int)) = ((lo / y : Nat) : Int) := by
    rw [div_nat]; exact u64_nat _ (Nat.lt_of_le_of_lt hq hlo)
  have e2 : (lo : Int) % (y : Int) = ((lo % y : Nat) : Int) := mod_nat _ _
  have H1 := Lib.hid e1
  have H2 := Lib.hid e2
  clear e1 e2 hq
  go_enter Try.func123, Try.ntmps123
  go_wp2
  go_quiet (fail)
  go_wp2
  rw [H1.out, H2.out]
  go_ret2
  exact ⟨rfl, _, rfl⟩

/-- The search for one digit, from the guess 'u / n1' down: what the loop's relation says of the guess and of its rest. -/
def Guess (u n1 n0 d q r : Nat) : Prop := q * n1 + r = u ∧ (u * 4294967296 + d) / (n1 * 4294967296 + n0) ≤ q

theorem Guess.down {u n1 n0 d q r : Nat} (h : Guess u n1 n0 d q r) (hlt : (u * 4294967296 + d) / (n1 * 4294967296 + n0) < q) : 1 ≤ q ∧ Guess u n1 n0 d (q - 1) (r + n1) := by
  obtain ⟨a, _⟩ := h
  have h1 : 1 ≤ q := Nat.lt_of_le_of_lt (Nat.zero_le _) hlt
  obtain ⟨k, rfl⟩ : ∃ k, q = k + 1 := ⟨q - 1, by omega⟩
  refine ⟨h1, ?_, by omega⟩
  rw [Nat.add_mul] at a
  simp only [Nat.add_sub_cancel]
  omega
theorem pred_nat {q : Nat} (h : 1 ≤ q) : (q : Int) - 1 = ((q - 1 : Nat) : Int) := by omega
theorem quot_lt_of_big {u n1 n0 d q : Nat} (hU : u < n1 * 4294967296 + n0) (hd : d < 4294967296) (hb : 4294967296 ≤ q) :
    (u * 4294967296 + d) / (n1 * 4294967296 + n0) < q := Nat.lt_of_lt_of_le (Wm.quot_digit d u _ hU hd) hb
theorem Guess.stops {u n1 n0 d q r : Nat} (h : Guess u n1 n0 d q r) (hn1 : 1 ≤ n1) (hle : q * n0 ≤ 4294967296 * r + d) : q = (u * 4294967296 + d) / (n1 * 4294967296 + n0) :=
  Wm.guess_right q n1 n0 r d u (by omega) h.1 hle h.2
theorem Guess.ends {u n1 n0 d q r : Nat} (h : Guess u n1 n0 d q r) (hn1 : 1 ≤ n1) (hU : u < n1 * 4294967296 + n0) (hn0 : n0 < 4294967296) (hr : 4294967296 ≤ r) : q = (u * 4294967296 + d) / (n1 * 4294967296 + n0) :=
  h.stops hn1 (Wm.guess_end q n1 n0 r d u h.1 hU hn0 hr)
theorem half_mul_lt {q n0 : Nat} (h : q < 4294967296) (hn0 : n0 < 4294967296) : q * n0 < 18446744073709551616 := by
  have h1 : q * n0 ≤ q * 4294967296 := Nat.mul_le_mul_left _ (by omega)
  omega

/-- Multiply, subtract, and wrap: what is left is the remainder. -/
theorem rest_nat (u d y q V : Nat) (hy : 0 < y) (hyb : y < 18446744073709551616) (hq : q = (u * 4294967296 + d) / y) (hV : V = (u * 4294967296 + d) % y) :
    ∃ A C : Nat, IntKind.u64.wrap ((u : Int) * 4294967296) = (A : Int) ∧ (A : Int) ≤ 18446744069414584320 ∧ IntKind.u64.wrap ((q : Int) * (y : Int)) = (C : Int) ∧
    IntKind.u64.wrap ((A : Int) + (d : Int) - (C : Int)) = (V : Int) := by
  refine ⟨u * 4294967296 % 18446744073709551616, q * y % 18446744073709551616, ?_⟩
  have h := Nat.div_add_mod (u * 4294967296 + d) y
  have hl : V < y := by rw [hV]; exact Nat.mod_lt _ hy
  rw [← hq, ← hV, Nat.mul_comm] at h
  rw [← Int.natCast_mul q y]
  generalize q * y = z at *
  simp only [IntKind.wrap_u64]
  omega
/-- The first guess, its product and its rest. -/
theorem first_guess (u n1 n0 d : Nat) (hn1 : 1 ≤ n1) (hn1' : n1 < 4294967296) (hn0 : n0 < 4294967296) (hd : d < 4294967296) (hu : u < n1 * 4294967296 + n0) :
    ∃ Q R P : Nat, (u : Int) / (n1 : Int) = (Q : Int) ∧ IntKind.u64.wrap ((Q : Int) * (n1 : Int)) = (P : Int) ∧ (u : Int) - (P : Int) = (R : Int) ∧ P ≤ u ∧ Q ≤ u ∧ R < n1 ∧ Guess u n1 n0 d Q R := by
  obtain ⟨Q, hQ⟩ : ∃ Q, Q = u / n1 := ⟨_, rfl⟩
  obtain ⟨R, hR⟩ : ∃ R, R = u % n1 := ⟨_, rfl⟩
  obtain ⟨P, hP⟩ : ∃ P, P = Q * n1 := ⟨_, rfl⟩
  have hQU : Q ≤ u := by rw [hQ]; exact Nat.div_le_self _ _
  have hPR : P + R = u := by rw [hP, hQ, hR, Nat.mul_comm]; exact Nat.div_add_mod _ _
  have hRn : R < n1 := by rw [hR]; exact Nat.mod_lt _ hn1
  refine ⟨Q, R, P, by rw [hQ]; exact div_nat _ _, ?_, by omega, by omega, hQU, hRn, by rw [← hP]; exact hPR, by rw [hQ]; exact Wm.guess_first n1 n0 d u hn1 hd⟩
  rw [← Int.natCast_mul, ← hP]; exact u64_nat _ (by omega)

set_option maxHeartbeats 4000000 in
set_option maxRecDepth 100000 in
theorem div64_core (hi lo y s Y n1 n0 H M U L d1 d0 : Nat) (hy : y < 18446744073709551616) (hh : hi < y) (h0 : 0 < hi)
    (hs : 64 - (Lib.bitLen y : Int) = (s : Int)) (hsb : s < 64) (hn1 : 1 ≤ n1) (hn1' : n1 < 4294967296) (hn0 : n0 < 4294967296) (hU : U < n1 * 4294967296 + n0)
    (hd1 : d1 < 4294967296) (hd0 : d0 < 4294967296)
    (eY : IntKind.u64.wrap ((y : Int) * 2 ^ s) = (Y : Int)) (e1 : (Y : Int) / 4294967296 = (n1 : Int)) (e0 : bits .and .u64 (Y : Int) 4294967295 = (n0 : Int))
    (eH : IntKind.u64.wrap ((hi : Int) * 2 ^ s) = (H : Int)) (eM : (lo : Int) / 2 ^ (64 - s) = (M : Int)) (eU : bits .or .u64 (H : Int) (M : Int) = (U : Int))
    (eL : IntKind.u64.wrap ((lo : Int) * 2 ^ s) = (L : Int)) (ed1 : (L : Int) / 4294967296 = (d1 : Int)) (ed0 : bits .and .u64 (L : Int) 4294967295 = (d0 : Int))
    (hY : n1 * 4294967296 + n0 = Y) (w : World) :
    Calls Try.prog 123 #[.int .u64 hi, .int .u64 lo, .int .u64 y] w fun e w' => e = .returned (.tuple #[.int .u64 (((U * 4294967296 + d1) / Y * 4294967296 + ((U * 4294967296 + d1) % Y * 4294967296 + d0) / Y : Nat) : Int), .int .u64 ((((U * 4294967296 + d1) % Y * 4294967296 + d0) % Y / 2 ^ s : Nat) : Int)]) ∧ w' = w := by
  have h1 : ((y : Int) == 0) = false := by simp; omega
  have h2 : decide ((y : Int) ≤ (hi : Int)) = false := by simp; omega
  have h3 : ((hi : Int) == 0) = false := by simp; omega
  have Hs := Lib.hid hs
  have HY := Lib.hid hY
  have hY0 : 0 < Y := by omega
  have hYb : Y < 18446744073709551616 := by omega
  obtain ⟨q1, HQ1⟩ : ∃ q1, Hid ((U * 4294967296 + d1) / Y = q1) := ⟨_, Lib.hid rfl⟩
  obtain ⟨V, HV⟩ : ∃ V, Hid (V = (U * 4294967296 + d1) % Y) := ⟨_, Lib.hid rfl⟩
  obtain ⟨q0, HQ0⟩ : ∃ q0, Hid ((V * 4294967296 + d0) / Y = q0) := ⟨_, Lib.hid rfl⟩
  obtain ⟨W, HW⟩ : ∃ W, Hid (W = (V * 4294967296 + d0) % Y) := ⟨_, Lib.hid rfl⟩
  have hV : V < n1 * 4294967296 + n0 := by rw [hY, HV.out]; exact Nat.mod_lt _ hY0
  have hW : W < Y := by rw [HW.out]; exact Nat.mod_lt _ hY0
  have hq1 : q1 < 4294967296 := by have := Wm.quot_digit d1 U Y (by omega) hd1; rw [HQ1.out] at this; exact this
  have hq0 : q0 < 4294967296 := by have := Wm.quot_digit d0 V Y (by omega) hd0; rw [HQ0.out] at this; exact this
  obtain ⟨A, C, eA, hA, eC, eV⟩ := rest_nat U d1 Y q1 V hY0 hYb HQ1.out.symm HV.out
  obtain ⟨A2, C2, eA2, hA2, eC2, eW⟩ := rest_nat V d0 Y q0 W hY0 hYb HQ0.out.symm HW.out
  clear hs hY
  obtain ⟨Q, R, P, eQ, eP, eR, hPU, hQU, hRn, hG⟩ := first_guess U n1 n0 d1 hn1 hn1' hn0 hd1 hU
  obtain ⟨Q0, R0, P0, eQ0, eP0, eR0, hPU0, hQU0, hRn0, hG0⟩ := first_guess V n1 n0 d0 hn1 hn1' hn0 hd0 hV
  have eZ : (W : Int) / 2 ^ s = ((W / 2 ^ s : Nat) : Int) := by rw [Int.natCast_ediv, Int.natCast_pow]; rfl
  obtain ⟨Z, HZ⟩ : ∃ Z, Hid (W / 2 ^ s = Z) := ⟨_, Lib.hid rfl⟩
  rw [HZ.out] at eZ
  have hUb : (U : Int) ≤ 18446744073709551615 := by omega
  have hVb : (V : Int) ≤ 18446744073709551615 := by omega
  have fin : (U * 4294967296 + d1) / Y * 4294967296 + ((U * 4294967296 + d1) % Y * 4294967296 + d0) / Y = q1 * 4294967296 + q0 ∧ ((U * 4294967296 + d1) % Y * 4294967296 + d0) % Y / 2 ^ s = Z := by
    rw [← HV.out, ← HW.out, HQ1.out, HQ0.out, HZ.out]; exact ⟨rfl, rfl⟩
  rw [fin.1, fin.2]
  clear fin hYb hY0 hW
  go_enter Try.func123, Try.ntmps123
  go_wp2_with fail
  refine (leading64 y _ (by omega) (by omega)).mono ?_
  rintro e w' ⟨rfl, rfl⟩
  rw [Int.toNat_natCast, Hs.out]
  go_upto_block 0 with fail
  go_cut [15] (fun s15 wx => w' = wx ∧ s15 = .int .u64 q1)
  case first =>
    clear eY e1 e0 eH eM eU eL ed1 ed0 eP eR eQ h1 h2 h3 eA hA eC eV eA2 hA2 eC2 eW eQ0 eP0 eR0 hG0 eZ
    go_wp2_with fail
    go_loop [15, 16] (fun a b => ∃ q r : Nat, a = .int .u64 q ∧ b = .int .u64 r ∧ (r : Int) < 4294967296 ∧ (q : Int) ≤ 18446744073709551615 ∧ Guess U n1 n0 d1 q r) (fun a _ => (intOf a).toNat)
    case atStart => exact ⟨Q, R, rfl, rfl, by omega, by omega, hG⟩
    case round =>
      obtain ⟨q, r, rfl, rfl, hr, hq, hg⟩ := hrel
      obtain ⟨p, hp⟩ : ∃ p, p = q * n0 := ⟨_, rfl⟩
      by_cases hb : 4294967296 ≤ (q : Int)
      · obtain ⟨hq1, hg2⟩ := hg.down (quot_lt_of_big hU hd1 (by omega))
        have HG := Lib.hid hg2
        clear hg hg2 hp p
        by_cases hr2 : 4294967296 ≤ (r : Int) + (n1 : Int)
        · go_wp2
          go_meet
          exact ⟨rfl, by rw [pred_nat hq1, HG.out.ends hn1 hU hn0 (by omega), HY.out, HQ1.out]⟩
        · go_wp2
          go_round
          case rel => exact ⟨q - 1, r + n1, by rw [pred_nat hq1], by go_num, by omega, by omega, HG.out⟩
          case measure => simp [intOf]; omega
      · have hpb : p < 18446744073709551616 := by rw [hp]; exact half_mul_lt (by omega) hn0
        have ep : IntKind.u64.wrap ((q : Int) * (n0 : Int)) = (p : Int) := by rw [← Int.natCast_mul, ← hp]; exact u64_nat _ hpb
        clear hpb
        by_cases ht : 4294967296 * (r : Int) + (d1 : Int) < (p : Int)
        · obtain ⟨hq1, hg2⟩ := hg.down (Wm.guess_big q n1 n0 r d1 U (by omega) hg.1 (by rw [← hp]; omega))
          have HG := Lib.hid hg2
          clear hg hg2 hp
          by_cases hr2 : 4294967296 ≤ (r : Int) + (n1 : Int)
          · go_wp2
            go_meet
            exact ⟨rfl, by rw [pred_nat hq1, HG.out.ends hn1 hU hn0 (by omega), HY.out, HQ1.out]⟩
          · go_wp2
            go_round
            case rel => exact ⟨q - 1, r + n1, by rw [pred_nat hq1], by go_num, by omega, by omega, HG.out⟩
            case measure => simp [intOf]; omega
        · have HE := Lib.hid (hg.stops hn1 (by rw [← hp]; omega))
          clear hg hp
          go_wp2
          go_meet
          exact ⟨rfl, by rw [HE.out, HY.out, HQ1.out]⟩
  case rest =>
    obtain ⟨rfl, rfl⟩ := hcut
    clear eY e1 e0 eH eM eU eL ed1 ed0 eP eR eQ h1 h2 h3 hG
    go_upto_block 2 with fail
    go_cut [18] (fun s18 wx => w' = wx ∧ s18 = .int .u64 q0)
    case first =>
      clear eA hA eC eV eA2 hA2 eC2 eW eQ0 eP0 eR0 eZ
      go_wp2_with fail
      go_loop [18, 16] (fun a b => ∃ q r : Nat, a = .int .u64 q ∧ b = .int .u64 r ∧ (r : Int) < 4294967296 ∧ (q : Int) ≤ 18446744073709551615 ∧ Guess V n1 n0 d0 q r) (fun a _ => (intOf a).toNat)
      case atStart => exact ⟨Q0, R0, rfl, rfl, by omega, by omega, hG0⟩
      case round =>
        obtain ⟨q, r, rfl, rfl, hr, hq, hg⟩ := hrel
        obtain ⟨p, hp⟩ : ∃ p, p = q * n0 := ⟨_, rfl⟩
        by_cases hb : 4294967296 ≤ (q : Int)
        · obtain ⟨hq1, hg2⟩ := hg.down (quot_lt_of_big hV hd0 (by omega))
          have HG := Lib.hid hg2
          clear hg hg2 hp p
          by_cases hr2 : 4294967296 ≤ (r : Int) + (n1 : Int)
          · go_wp2
            go_meet
            exact ⟨rfl, by rw [pred_nat hq1, HG.out.ends hn1 hV hn0 (by omega), HY.out, HQ0.out]⟩
          · go_wp2
            go_round
            case rel => exact ⟨q - 1, r + n1, by rw [pred_nat hq1], by go_num, by omega, by omega, HG.out⟩
            case measure => simp [intOf]; omega
        · have hpb : p < 18446744073709551616 := by rw [hp]; exact half_mul_lt (by omega) hn0
          have ep : IntKind.u64.wrap ((q : Int) * (n0 : Int)) = (p : Int) := by rw [← Int.natCast_mul, ← hp]; exact u64_nat _ hpb
          clear hpb
          by_cases ht : 4294967296 * (r : Int) + (d0 : Int) < (p : Int)
          · obtain ⟨hq1, hg2⟩ := hg.down (Wm.guess_big q n1 n0 r d0 V (by omega) hg.1 (by rw [← hp]; omega))
            have HG := Lib.hid hg2
            clear hg hg2 hp
            by_cases hr2 : 4294967296 ≤ (r : Int) + (n1 : Int)
            · go_wp2
              go_meet
              exact ⟨rfl, by rw [pred_nat hq1, HG.out.ends hn1 hV hn0 (by omega), HY.out, HQ0.out]⟩
            · go_wp2
              go_round
              case rel => exact ⟨q - 1, r + n1, by rw [pred_nat hq1], by go_num, by omega, by omega, HG.out⟩
              case measure => simp [intOf]; omega
          · have HE := Lib.hid (hg.stops hn1 (by rw [← hp]; omega))
            clear hg hp
            go_wp2
            go_meet
            exact ⟨rfl, by rw [HE.out, HY.out, HQ0.out]⟩
    case rest =>
      obtain ⟨rfl, rfl⟩ := hcut
      clear eA hA eC eV eQ0 eP0 eR0 hG0
      go_wp2
      go_ret2
      exact ⟨by go_num, rfl⟩

theorem div64_shifted (hi lo y : Nat) (hy : y < 18446744073709551616) (hh : hi < y) (h0 : 0 < hi) (hlo : lo < 18446744073709551616) (w : World) :
    Calls Try.prog 123 #[.int .u64 hi, .int .u64 lo, .int .u64 y] w fun e w' => e = .returned (.tuple #[.int .u64 (((hi * 18446744073709551616 + lo) / y : Nat) : Int), .int .u64 (((hi * 18446744073709551616 + lo) % y : Nat) : Int)]) ∧ w' = w := by
  obtain ⟨b1, b2, b3⟩ := Lib.bitLenAux_bounds 64 y hy (by omega)
  have b4 : Lib.bitLen y ≤ 64 := Lib.bitLen_le y 64 (by omega) (by omega)
  change 1 ≤ Lib.bitLen y at b1
  change 2 ^ (Lib.bitLen y - 1) ≤ y at b2
  change y < 2 ^ Lib.bitLen y at b3
  obtain ⟨s, hs⟩ : ∃ s, s = 64 - Lib.bitLen y := ⟨_, rfl⟩
  have hp : 0 < 2 ^ s := Nat.two_pow_pos s
  have up : y * 2 ^ s < 18446744073709551616 := by
    have h1 : y * 2 ^ s < 2 ^ Lib.bitLen y * 2 ^ s := Nat.mul_lt_mul_of_pos_right b3 hp
    rw [← Nat.pow_add, show Lib.bitLen y + s = 64 by omega] at h1
    exact h1
  have lw : 9223372036854775808 ≤ y * 2 ^ s := by
    have h1 : 2 ^ (Lib.bitLen y - 1) * 2 ^ s ≤ y * 2 ^ s := Nat.mul_le_mul_right _ b2
    rw [← Nat.pow_add, show Lib.bitLen y - 1 + s = 63 by omega] at h1
    exact h1
  have hM : lo / 2 ^ (64 - s) < 2 ^ s := by
    apply Nat.div_lt_of_lt_mul
    rw [← Nat.pow_add, Nat.sub_add_cancel (by omega)]
    exact hlo
  have hUY : hi * 2 ^ s + lo / 2 ^ (64 - s) < y * 2 ^ s := by
    have h1 : (hi + 1) * 2 ^ s ≤ y * 2 ^ s := Nat.mul_le_mul_right _ hh
    rw [Nat.add_mul, Nat.one_mul] at h1
    omega
  have hH : hi * 2 ^ s < y * 2 ^ s := Nat.mul_lt_mul_of_pos_right hh hp
  have hMb : lo / 2 ^ (64 - s) ≤ lo := Nat.div_le_self _ _
  have eor := Wm.or_add hi (lo / 2 ^ (64 - s)) s hM
  have eU := bits_or_u64_nat (hi * 2 ^ s) (lo / 2 ^ (64 - s)) (Nat.lt_trans hH up) (Nat.lt_of_le_of_lt hMb hlo)
  rw [eor] at eU
  clear eor
  have pt := Wm.parts hi lo s (by omega)
  have sh := Wm.shifted (hi * 18446744073709551616 + lo) y s
  have td := Wm.two_digits (hi * 2 ^ s + lo / 2 ^ (64 - s)) ((lo * 2 ^ s % 18446744073709551616) / 4294967296) ((lo * 2 ^ s % 18446744073709551616) % 4294967296) (y * 2 ^ s) (Nat.lt_of_lt_of_le (by decide) lw)
  rw [pt, sh.1] at td
  have ep : ((2 : Int) ^ s) = ((2 ^ s : Nat) : Int) := by rw [Int.natCast_pow]; rfl
  have ep' : ((2 : Int) ^ (64 - s)) = ((2 ^ (64 - s) : Nat) : Int) := by rw [Int.natCast_pow]; rfl
  have hL : lo * 2 ^ s % 18446744073709551616 < 18446744073709551616 := Nat.mod_lt _ (by decide)
  have eM : (lo : Int) / 2 ^ (64 - s) = ((lo / 2 ^ (64 - s) : Nat) : Int) := by rw [ep', div_nat]
  have eY : IntKind.u64.wrap ((y : Int) * 2 ^ s) = ((y * 2 ^ s : Nat) : Int) := by rw [ep, ← Int.natCast_mul, u64_nat _ up]
  have eH : IntKind.u64.wrap ((hi : Int) * 2 ^ s) = ((hi * 2 ^ s : Nat) : Int) := by rw [ep, ← Int.natCast_mul, u64_nat _ (Nat.lt_trans hH up)]
  have eL : IntKind.u64.wrap ((lo : Int) * 2 ^ s) = ((lo * 2 ^ s % 18446744073709551616 : Nat) : Int) := by rw [ep, ← Int.natCast_mul, Mul64.wrapM]
  have hs' : 64 - (Lib.bitLen y : Int) = (s : Int) := by omega
  have hsb : s < 64 := by omega
  clear b2 b3 b4 hs
  generalize lo / 2 ^ (64 - s) = M at *
  obtain ⟨L, hLe⟩ : ∃ L, lo * 2 ^ s % 18446744073709551616 = L := ⟨_, rfl⟩
  rw [hLe] at hL eL td
  clear hLe
  generalize y * 2 ^ s = Y at *
  generalize hi * 2 ^ s = H at *
  have k1 : 1 ≤ Y / 4294967296 := by omega
  have k2 : Y / 4294967296 < 4294967296 := by omega
  have k3 : Y % 4294967296 < 4294967296 := Nat.mod_lt _ (by decide)
  have k4 : Y / 4294967296 * 4294967296 + Y % 4294967296 = Y := Nat.div_add_mod' Y 4294967296
  have k5 : L / 4294967296 < 4294967296 := by omega
  have k6 : L % 4294967296 < 4294967296 := Nat.mod_lt _ (by decide)
  have k7 : H + M < Y / 4294967296 * 4294967296 + Y % 4294967296 := by rw [k4]; exact hUY
  have r := div64_core hi lo y s Y (Y / 4294967296) (Y % 4294967296) H M (H + M) L (L / 4294967296) (L % 4294967296) hy hh h0 hs' hsb k1 k2 k3 k7 k5 k6
    eY (Mul64.divN Y) (Mul64.maskN _ up) eH eM eU eL (Mul64.divN L) (Mul64.maskN _ hL) k4 w
  rw [td.1, td.2, sh.2] at r
  exact r

theorem div64 (hi lo y : Nat) (hy : y < 18446744073709551616) (hh : hi < y) (hlo : lo < 18446744073709551616) (w : World) :
    Calls Try.prog 123 #[.int .u64 hi, .int .u64 lo, .int .u64 y] w fun e w' => e = .returned (.tuple #[.int .u64 (((hi * 18446744073709551616 + lo) / y : Nat) : Int), .int .u64 (((hi * 18446744073709551616 + lo) % y : Nat) : Int)]) ∧ ∃ n, w' = w.drewN n := by
  by_cases h0 : 0 < hi
  · exact (div64_shifted hi lo y hy hh h0 hlo w).mono fun _ _ ⟨h, h'⟩ => ⟨h, 0, h'⟩
  · obtain rfl : hi = 0 := by omega
    rw [Nat.zero_mul, Nat.zero_add]
    exact div64_small lo y hy hh hlo w
end Go.Proofs.Ytlciocebbckdcaa.Wb
