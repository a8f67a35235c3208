/- The contract of the reference's Shift. -/
import Derived.Test.YtiefnhpbniaklaaNrprod
import Derived.RegionTactic
import Derived.ChangeAlike
import Derived.BigRegion
namespace Go.Proofs.Ytiefnhpbniaklaa.Nr2
open Go.RowKit Go.Shelf Go.Proofs.Ytiefnhpbniaklaa.Nm Go.Proofs.Ytiefnhpbniaklaa.Ne Go.Proofs.Ytiefnhpbniaklaa.Nf Go.Proofs.Ytiefnhpbniaklaa.Nk Go.Proofs.Ytiefnhpbniaklaa.Nv

theorem val_get : ∀ (r : List Nat), ok r → ∀ i, r[i]?.getD 0 = val r / pw i % 4294967296
  | [], _, i => by simp [val]
  | a :: r, h, 0 => by
    have p0 : pw 0 = 1 := rfl
    have := (ok_cons.1 h).1
    simp only [List.getElem?_cons_zero, Option.getD_some, val, p0]
    omega
  | a :: r, h, i + 1 => by
    have h1 := (ok_cons.1 h).1
    have e : pw (i + 1) = 4294967296 * pw i := rfl
    rw [List.getElem?_cons_succ, val_get r (ok_cons.1 h).2 i, e, ← Nat.div_div_eq_div_mul]
    congr 2
    simp only [val]
    omega
theorem pow_split (i : Nat) : 2 ^ i = pw (i / 32) * 2 ^ (i % 32) := by
  rw [pw_eq, ← Nat.pow_add]
  congr 1
  omega
/-- A bit is added to a word, where the number so far has fewer bits. -/
theorem bit_low {r : List Nat} (hok : ok r) {i : Nat} (h : val r < 2 ^ i) : r[i / 32]?.getD 0 + 2 ^ (i % 32) < 4294967296 := by
  rw [val_get r hok]
  have h1 : val r / pw (i / 32) < 2 ^ (i % 32) := by
    rw [Nat.div_lt_iff_lt_mul (pw_pos _), Nat.mul_comm, ← pow_split]; exact h
  have h2 := Nat.mod_le (val r / pw (i / 32)) 4294967296
  have h3 : 2 ^ (i % 32) ≤ 2 ^ 31 := Nat.pow_le_pow_right (by decide) (by omega)
  omega
theorem set_bit {r : List Nat} {i : Nat} (hl : i / 32 < r.length) : val (r.set (i / 32) (r[i / 32]?.getD 0 + 2 ^ (i % 32))) = val r + 2 ^ i := by
  have := val_set r (i / 32) (r[i / 32]?.getD 0 + 2 ^ (i % 32)) hl
  rw [Nat.mul_add, ← pow_split] at this
  omega
theorem mod_bit (z i : Nat) : z % 2 ^ (i + 1) = z % 2 ^ i + (if z.testBit i then 2 ^ i else 0) := by
  rw [Nat.pow_succ, Nat.mod_mul, Nat.testBit_eq_decide_div_mod_eq]
  have : z / 2 ^ i % 2 < 2 := Nat.mod_lt _ (by decide)
  by_cases h : z / 2 ^ i % 2 = 1
  · rw [h]; simp
  · have h0 : z / 2 ^ i % 2 = 0 := by omega
    rw [h0]; simp
def ShAt (z N i : Nat) (r : List Nat) : Prop := r.length = N ∧ ok r ∧ val r = z % 2 ^ i
theorem ShAt.zero {z N i : Nat} {r : List Nat} (h : ShAt z N i r) (hb : z.testBit i = false) : ShAt z N (i + 1) r := ⟨h.1, h.2.1, by rw [mod_bit, hb]; simpa using h.2.2⟩
theorem ShAt.one {z N i : Nat} {r : List Nat} (h : ShAt z N i r) (hb : z.testBit i = true) (hN : i / 32 < N) :
    r[i / 32]?.getD 0 + 2 ^ (i % 32) < 4294967296 ∧ ShAt z N (i + 1) (r.set (i / 32) (r[i / 32]?.getD 0 + 2 ^ (i % 32))) := by
  have h1 := bit_low h.2.1 (i := i) (by rw [h.2.2]; exact Nat.mod_lt _ (Nat.pow_pos (by decide)))
  refine ⟨h1, by simpa using h.1, ok_set h.2.1 _ _ h1, ?_⟩
  rw [set_bit (by rw [h.1]; exact hN), mod_bit, hb, h.2.2]
  simp

set_option maxRecDepth 100000 in
set_option maxHeartbeats 16000000 in
theorem rshift_loop (p : Option Addr) (n c x z : Nat) (M : Int) (S : Nat) (hM1 : -10000 ≤ M) (hM2 : M ≤ 10000) (hn0 : 0 < n) (hS : (nb x : Int) + M = (S : Int)) (hS0 : 0 < S) (hS2 : S ≤ 2048) (hz : z < 2 ^ S) (w : World) (h : Nw w p n c (digs x))
    (hB : ∀ (i : Nat) (W : World), Gr w W → Calls Try.prog 31 #[.agg #[.slice p n c], .int .i64 ((i : Int) - M)] W fun e w' => e = .returned (.bool (z.testBit i)) ∧ Gr W w') :
    Calls Try.prog 43 #[.agg #[.slice p n c], .int .i64 M] w (Gives z 0 w) := by
  obtain ⟨i0, hi, hz0, hz1, hz2⟩ := info_parts infoW
  have HA := Lib.hid h
  have HBB := Lib.hid hB
  have HZ := Lib.hid hz
  have HX := Lib.hid (fun W (hW : Gr w W) => rbits_v p n c x W (h.grow hW))
  obtain ⟨B, eB⟩ : ∃ B, nb x = B := ⟨_, rfl⟩
  rw [eB] at HX hS
  have n1 : ((n : Int) == 0) = false := by simp; omega
  have s0 : IntKind.i64.wrap ((B : Int) + M) = (S : Int) := by rw [hS]; exact IntWalk.i64_in _ (by omega)
  have s1 : ¬ (S : Int) ≤ 0 := by omega
  have s2 : ¬ (2048 : Int) < (S : Int) := by omega
  obtain ⟨K, hK⟩ : ∃ K, S / 32 = K := ⟨_, rfl⟩
  have s3 : (S : Int) / 32 = (K : Int) := by omega
  have s4 : (S : Int).tdiv 32 = (K : Int) := by rw [Int.tdiv_eq_ediv_of_nonneg (by omega)]; exact s3
  have s5 : IntKind.i64.wrap (K : Int) = (K : Int) := IntWalk.i64_in _ (by omega)
  have s6 : IntKind.i64.wrap ((K : Int) + 1) = (K : Int) + 1 := IntWalk.i64_in _ (by omega)
  have hK2 : K ≤ 64 := by omega
  have HKS : Hid (S / 32 = K) := Lib.hid hK
  have HS2 := Lib.hid hS2
  have HM1 := Lib.hid hM1
  have HM2 := Lib.hid hM2
  clear h hB hz hS hK hS2
  obtain ⟨W0, hW0⟩ : ∃ W0, W0 = (w.alloc (.cells #[.slice p n c] 24)).alloc (.cells #[.slice none 0 0] 24) := ⟨_, rfl⟩
  have e0 : W0.heap.size = w.heap.size + 1 + 1 := by rw [hW0]; simp
  have k1 : W0.cell? ⟨w.heap.size, 0, none⟩ = some (.slice p n c) := by rw [hW0]; simp [go_sem]
  have k3 : W0.cell? ⟨w.heap.size + 1, 0, none⟩ = some (.slice none 0 0) := by rw [hW0]; simp [go_sem]
  have f3 : W0.frozen? ⟨w.heap.size + 1, 0, none⟩ = false := by rw [hW0]; simp [go_sem]
  have GW : Hid (Gr w W0) := Lib.hid (by rw [hW0]; exact ((Gr.refl w).alloc _).alloc _)
  have E0 := Lib.hid e0
  clear e0
  go_enter Try.func43, Try.ntmps43
  go_upto_region 1 with fail
  rw [← hW0]
  clear hW0
  go_wp2_with fail
  refine (HX.out _ GW.out).mono ?_
  rintro e W1 ⟨rfl, hg⟩
  have c1 := hg.cell k1
  have c3 := hg.cell k3
  have g3 := hg.frozen k3 f3
  have GW1 := Lib.hid (GW.out.trans hg)
  have HE1 : Hid (w.heap.size + 1 + 1 ≤ W1.heap.size) := Lib.hid (by rw [← E0.out]; exact hg.le)
  clear hg k1 k3 f3
  go_wp2_with (refine wpList_make_full _ rfl _ _ _ rfl W1.heap.size 62 i0 (.int .u32 0) 1 Try.underlying22 hi hz0 hz1 .i64 .i64 _ _ (K + 1) rfl rfl (by omega) (by omega) (by rw [hz2]; omega) (by unfold maxLen; omega) (Nat.le_refl _) ?_; intro w3 hown hgrow; have HO := Lib.hid hown; have G3 := Lib.hid (Gr.grown hgrow); clear hown hgrow)
  have HC1 := Lib.hid c1
  have HC3 := Lib.hid c3
  have HF3 := Lib.hid g3
  obtain ⟨g, hg⟩ : ∃ g, W1.heap.size = g := ⟨_, rfl⟩
  rw [hg] at HO HE1 ⊢
  have HGG := Lib.hid hg
  clear c1 c3 g3 hg
  go_loopw [8] (fun i wr => ∃ (j : Nat) (r : List Nat), j ≤ S ∧ i = .int .i64 j ∧ Hid (ShAt z (K + 1) j r) ∧ Hid (Hold wr g 0 r) ∧ Hid (Gr W1 wr)) (fun i _ => S - (intOf i).toNat)
  case atStart => exact ⟨0, List.replicate (K + 1) 0, Nat.zero_le _, rfl, ⟨by simp, ok_replicate _, by rw [val_replicate, Nat.pow_zero, Nat.mod_one]⟩, hold_made HO.out, G3.out⟩
  case round =>
    obtain ⟨j, r, hj, rfl, HS, HH, HG⟩ := hrel
    have b1 := HG.out.cell HC1.out
    by_cases hlt : j < S
    · have hm1 := HM1.out
      have hm2 := HM2.out
      have hs2 := HS2.out
      have x0 : IntKind.i64.wrap ((j : Int) - M) = (j : Int) - M := IntWalk.i64_in _ (by omega)
      have hqK : j / 32 < K + 1 := by rw [← HKS.out]; omega
      clear hm1 hm2
      go_wp2_with fail
      refine (HBB.out j _ (GW1.out.trans HG.out)).mono ?_
      rintro e wy ⟨rfl, hgy⟩
      have HHy : Hid (Hold wy g 0 r) := Lib.hid (HH.out.grow hgy)
      have HGy := Lib.hid (HG.out.trans hgy)
      clear hgy b1
      cases hb : z.testBit j with
      | false =>
        have HSN := Lib.hid (HS.out.zero hb)
        clear hb
        go_wp2
        go_roundw
        case rel => exact ⟨j + 1, r, by omega, by go_num, HSN, HHy, HGy⟩
        case measure => simp [intOf]; omega
      | true =>
        obtain ⟨hsum, hSN⟩ := HS.out.one hb hqK
        obtain ⟨hco, hcf⟩ := hold_at HHy.out (show j / 32 < r.length by rw [HS.out.1]; exact hqK)
        have HLQ : Hid (j / 32 < r.length) := Lib.hid (by rw [HS.out.1]; exact hqK)
        have HGB : Hid (W1.heap.size ≤ g) := Lib.hid (by rw [HGG.out]; exact Nat.le_refl _)
        have HSN := Lib.hid hSN
        obtain ⟨q, hq⟩ : ∃ q, j / 32 = q := ⟨_, rfl⟩
        obtain ⟨t, ht⟩ : ∃ t, j % 32 = t := ⟨_, rfl⟩
        rw [hq] at HSN hsum hco hcf HLQ hqK
        rw [ht] at HSN hsum
        obtain ⟨o, ho⟩ : ∃ o, r[q]?.getD 0 = o := ⟨_, rfl⟩
        rw [ho] at HSN hsum hco
        obtain ⟨P2, hP⟩ : ∃ P2, 2 ^ t = P2 := ⟨_, rfl⟩
        rw [hP] at HSN hsum
        have d1 : (j : Int) / 32 = (q : Int) := by omega
        have d2 : (j : Int) % 32 = (t : Int) := by omega
        have d3 : (j : Int).tdiv 32 = (q : Int) := by rw [Int.tdiv_eq_ediv_of_nonneg (by omega)]; exact d1
        have d4 : (j : Int).tmod 32 = (t : Int) := by rw [Int.tmod_eq_emod_of_nonneg (by omega)]; exact d2
        have w1 : IntKind.i64.wrap (q : Int) = (q : Int) := IntWalk.i64_in _ (by omega)
        have t0 : ¬ (t : Int) < 0 := by omega
        have t1 : (0 : Int) ≤ (t : Int) := by omega
        have t2 : t < 32 := by omega
        have P1 : (2 : Int) ^ t = (P2 : Int) := by rw [← hP, Int.natCast_pow]; rfl
        have P3 : IntKind.u32.wrap (P2 : Int) = (P2 : Int) := by rw [IntKind.wrap_u32]; omega
        have P4 : (P2 : Int) % 4294967296 = (P2 : Int) := by omega
        have P5 : IntKind.u32.wrap ((o : Int) + (P2 : Int)) = ((o + P2 : Nat) : Int) := by rw [IntKind.wrap_u32]; omega
        have P6 : ((o : Int) + (P2 : Int)) % 4294967296 = ((o + P2 : Nat) : Int) := by omega
        have q0 : (0 : Int) ≤ (q : Int) := by omega
        have q1 : (q : Int) < (K : Int) + 1 := by omega
        clear hSN hb hq ht ho hP hsum
        go_wp2
        go_region
        all_goals
          go_wp2
          go_roundw
          case rel => exact ⟨j + 1, r.set q (o + P2), by omega, by go_num, HSN, (show Hold _ g 0 _ from hold_set0 HHy.out HLQ.out), (HGy.out.setCell HGB.out _).drew⟩
          case measure => simp [intOf]; omega
    · obtain rfl : j = S := by omega
      have HV : Hid (val r = z) := Lib.hid (by rw [HS.out.2.2, Nat.mod_eq_of_lt HZ.out])
      have HOK := Lib.hid HS.out.2.1
      have HLN : Hid (r.length = K + 1) := Lib.hid HS.out.1
      have HC3' := Lib.hid (HG.out.cell HC3.out)
      have HF3' := Lib.hid (HG.out.frozen HC3.out HF3.out)
      clear b1
      go_wp2_with fail
      refine (rtrim_any (some ⟨g, 0, none⟩) (K + 1) (K + 1) r _ (hold_nw HH.out HLN.out HOK.out (by omega))).mono ?_
      rintro e w5 ⟨p5, n5, c5, rfl, hr, hg⟩
      have c5' := hg.cell HC3'.out
      have f5 := hg.frozen HC3'.out HF3'.out
      have HR := Lib.hid (hr.mono (show w.heap.size + 1 + 1 ≤ _ by exact Nat.le_trans (by rw [HGG.out]; exact HE1.out) HG.out.le))
      have GG := Lib.hid ((GW1.out.trans HG.out).trans hg)
      clear hr hg
      go_wp2
      refine bodyPost_ret (v := .tuple #[.agg #[.slice p5 n5 c5], .int .i64 0]) (by simp [results, Try.results43, go_sem, c5']) rfl ⟨_, _, _, rfl, ?_, GG.out.setCell (by simp) _⟩
      rw [← HV.out]
      exact (HR.out.set' _ _ (fun x e => own_ne HR.out e) (tight_digs _)).mono (by omega)
end Go.Proofs.Ytiefnhpbniaklaa.Nr2
