/- The walk of NaturalShifts: shifts are powers of 2. -/
import Derived.Test.YtiefnhpbniaklaaNshm
import Derived.Test.YtiefnhpbniaklaaNlsz1
import Derived.Test.YtiefnhpbniaklaaNlsz2
import Derived.Deep.RegionHeld3
import Derived.Deep.Cut
namespace Go.Proofs.Ytiefnhpbniaklaa.Nlshifts
open Go.RowKit Go.Shelf Go.Proofs.Ytiefnhpbniaklaa.Nm Go.Proofs.Ytiefnhpbniaklaa.Ne Go.Proofs.Ytiefnhpbniaklaa.Nf Go.Proofs.Ytiefnhpbniaklaa.Nk Go.Proofs.Ytiefnhpbniaklaa.Nv Go.Proofs.Ytiefnhpbniaklaa.Nl

set_option maxRecDepth 100000 in
set_option maxHeartbeats 8000000 in
theorem great (w : World) (ba : Option Addr) (na ca n i : Nat) (hg1 : 100 < na) : Calls Try.prog 8 #[.agg #[.slice ba na ca], .int .u16 (n : Int), .int .u16 (i : Int)] w fun e w' => e = .returned (.bool true) ∧ Gr w w' := by
  have HY := Lib.hid hg1
  have G := Lib.hid (Gr.refl w)
  clear hg1
  have k_a : (w.alloc (.cells #[.slice ba na ca] 24)).cell? ⟨w.heap.size, 0, none⟩ = some (.slice ba na ca) := by simp [go_sem]
  go_enter Try.func8, Try.ntmps8
  go_wp2_with fail
  refine (awake_any _).mono ?_
  rintro e w1 ⟨rfl, hg⟩
  replace k_a := hg.cell k_a
  have gg := ((Gr.refl w).alloc (.cells #[.slice ba na ca] 24)).trans hg
  replace G := Lib.hid (G.out.trans gg)
  clear hg gg
  go_wp2_with fail
  replace k_a := ((Gr.refl w1).alloc (.cells #[.slice ba na ca] 24)).cell k_a
  refine (great_yes (n := 1) (c := 1) rfl (by decide) (nats1 w1 ba na ca) (gt1 HY.out)).mono ?_
  rintro e w2 ⟨rfl, hg⟩
  replace k_a := hg.cell k_a
  have gg := ((Gr.refl w1).alloc (.cells #[.slice ba na ca] 24)).trans hg
  replace G := Lib.hid (G.out.trans gg)
  clear hg gg
  go_wp2
  go_ret
  exact ⟨rfl, G.out⟩

set_option maxRecDepth 100000 in
set_option maxHeartbeats 8000000 in
theorem bad (w : World) (ba : Option Addr) (na ca n i : Nat) (l : List Nat) (ha : Nw w ba na ca l) (va : decide (valid l) = false) (sa : na ≤ 100) : Calls Try.prog 8 #[.agg #[.slice ba na ca], .int .u16 (n : Int), .int .u16 (i : Int)] w fun e w' => e = .returned (.bool true) ∧ Gr w w' := by
  have VA := Lib.hid va
  have R_a := Lib.hid ha
  have SA := Lib.hid sa
  have G := Lib.hid (Gr.refl w)
  clear ha va sa
  have k_a : (w.alloc (.cells #[.slice ba na ca] 24)).cell? ⟨w.heap.size, 0, none⟩ = some (.slice ba na ca) := by simp [go_sem]
  go_enter Try.func8, Try.ntmps8
  go_wp2_with fail
  refine (awake_any _).mono ?_
  rintro e w1 ⟨rfl, hg⟩
  replace k_a := hg.cell k_a
  have gg := ((Gr.refl w).alloc (.cells #[.slice ba na ca] 24)).trans hg
  replace R_a := Lib.hid (R_a.out.grow gg)
  replace G := Lib.hid (G.out.trans gg)
  clear hg gg
  have sa := SA.out
  go_wp2_with fail
  replace k_a := ((Gr.refl w1).alloc (.cells #[.slice ba na ca] 24)).cell k_a
  refine (great_no (n := 1) (c := 1) rfl (by decide) (nats1 w1 ba na ca) (le1 sa)).mono ?_
  rintro e w2 ⟨rfl, hg⟩
  replace k_a := hg.cell k_a
  have gg := ((Gr.refl w1).alloc (.cells #[.slice ba na ca] 24)).trans hg
  replace R_a := Lib.hid (R_a.out.grow gg)
  replace G := Lib.hid (G.out.trans gg)
  clear hg gg
  clear sa
  go_wp2_with fail
  refine (RValid_no (R_a.out.grow (Gr.refl w2)) VA.out).mono ?_
  rintro e w3 ⟨rfl, hg⟩
  replace k_a := hg.cell k_a
  have gg := (Gr.refl w2).trans hg
  replace R_a := Lib.hid (R_a.out.grow gg)
  replace G := Lib.hid (G.out.trans gg)
  clear hg gg
  go_wp2
  go_ret
  exact ⟨rfl, G.out⟩

set_option maxRecDepth 100000 in
set_option maxHeartbeats 40000000 in
theorem ok_small_pos (w : World) (ba : Option Addr) (na ca n i : Nat) (x K : Nat) (hx : x < pw 64) (hK : n % 2100 = K) (hn : n < 65536) (hi : i < 65536) (ha : Nw w ba na ca (digs x)) (sa : na ≤ 100) (hs : K < 2048) (h0 : 0 < x) (hf : x * 2 ^ K < pw 64) : Calls Try.prog 8 #[.agg #[.slice ba na ca], .int .u16 (n : Int), .int .u16 (i : Int)] w fun e w' => e = .returned (.bool true) ∧ Gr w w' := by
  have HX := Lib.hid hx
  have HK2 : Hid (K ≤ 10000) := Lib.hid (by omega)
  have R_a := Lib.hid ha
  have SA := Lib.hid sa
  have HB2 := Lib.hid (nb_bound hx)
  obtain ⟨B, hB⟩ : ∃ B, nb x = B := ⟨_, rfl⟩
  rw [hB] at HB2
  have EB := Lib.hid hB
  obtain ⟨R, hR⟩ : ∃ R, nb (x / 2 ^ K) = R := ⟨_, rfl⟩
  have ER := Lib.hid hR
  have hR2 : R = B - K := by rw [← hR, ← hB]; exact nb_down x K
  have hB3 := HB2.out
  have tm : (n : Int).tmod 2100 = (K : Int) := by rw [Int.tmod_eq_emod_of_nonneg (by omega)]; omega
  have em : (n : Int) % 2100 = (K : Int) := by omega
  have wn : IntKind.i64.wrap (n : Int) = (n : Int) := IntWalk.i64_in _ (by omega)
  have wi : IntKind.i64.wrap (i : Int) = (i : Int) := IntWalk.i64_in _ (by omega)
  have wK : IntKind.i64.wrap (K : Int) = (K : Int) := IntWalk.i64_in _ (by omega)
  have wnK : IntKind.i64.wrap (-(K : Int)) = -(K : Int) := IntWalk.i64_in _ (by omega)
  have wBK : IntKind.i64.wrap ((B : Int) + (K : Int)) = (B : Int) + (K : Int) := IntWalk.i64_in _ (by omega)
  have wiK : IntKind.i64.wrap ((i : Int) + (K : Int)) = (i : Int) + (K : Int) := IntWalk.i64_in _ (by omega)
  obtain ⟨D, hD⟩ : ∃ D : Int, (B : Int) - (K : Int) = D := ⟨_, rfl⟩
  have wD : IntKind.i64.wrap D = D := IntWalk.i64_in _ (by omega)
  have wBD : IntKind.i64.wrap ((B : Int) - (K : Int)) = D := by rw [hD]; exact wD
  have m1 : max 0 D = (R : Int) := by omega
  have m2 : (if (0 : Int) < D then D else 0) = (R : Int) := by split <;> omega
  have HI2 : Hid (i + K < 9223372036854775808) := Lib.hid (by omega)
  have HI1 : Hid (i < 9223372036854775808) := Lib.hid (by omega)
  have lk : (K : Int) < 2048 := by omega
  have HP : Hid (Fits (1 * 2 ^ K) (2 ^ K) 0) := Lib.hid (.inl ⟨by rw [Nat.one_mul]; exact power_fits hs, (Nat.one_mul _).symm, rfl⟩)
  have HPP : Hid (2 ^ K < pw 64) := Lib.hid (power_fits hs)
  have HF : Hid (Fits (x * 2 ^ K) (x * 2 ^ K) 0) := Lib.hid (.inl ⟨hf, rfl, rfl⟩)
  have HFF := Lib.hid hf
  have HBK : Hid (x * 2 ^ K / 2 ^ K = x) := Lib.hid (Nat.mul_div_cancel x (Nat.pow_pos (by decide)))
  have EL : Hid (nb (x * 2 ^ K) = B + K) := Lib.hid (by rw [nb_shift K h0, hB])
  have hn1 : (0 : Int) < (na : Int) := by
    have : na ≠ 0 := by
      intro e
      have h1 := ha.len
      rw [e] at h1
      have h2 := val_digs x
      rw [List.eq_nil_of_length_eq_zero h1] at h2
      have : val [] = 0 := rfl
      omega
    omega
  have hn2 : decide ((0 : Int) < (na : Int)) = true := decide_eq_true hn1
  have hn3 : decide (0 < na) = true := decide_eq_true (by omega)
  have HRT := Lib.hid (Nat.lt_of_le_of_lt (Nat.div_le_self x (2 ^ K)) hx)
  have G := Lib.hid (Gr.refl w)
  clear hx ha sa hB hR hR2 hB3 hD hs hK hn hi h0 hf
  have k_a : (w.alloc (.cells #[.slice ba na ca] 24)).cell? ⟨w.heap.size, 0, none⟩ = some (.slice ba na ca) := by simp [go_sem]
  go_enter Try.func8, Try.ntmps8
  go_wp2_with fail
  refine (awake_any _).mono ?_
  rintro e w1 ⟨rfl, hg⟩
  replace k_a := hg.cell k_a
  have gg := ((Gr.refl w).alloc (.cells #[.slice ba na ca] 24)).trans hg
  replace R_a := Lib.hid (R_a.out.grow gg)
  replace G := Lib.hid (G.out.trans gg)
  clear hg gg
  have sa := SA.out
  go_wp2_with fail
  replace k_a := ((Gr.refl w1).alloc (.cells #[.slice ba na ca] 24)).cell k_a
  refine (great_no (n := 1) (c := 1) rfl (by decide) (nats1 w1 ba na ca) (le1 sa)).mono ?_
  rintro e w2 ⟨rfl, hg⟩
  replace k_a := hg.cell k_a
  have gg := ((Gr.refl w1).alloc (.cells #[.slice ba na ca] 24)).trans hg
  replace R_a := Lib.hid (R_a.out.grow gg)
  replace G := Lib.hid (G.out.trans gg)
  clear hg gg
  clear sa
  go_wp2_with fail
  refine (RValid_v (R_a.out.grow (Gr.refl w2)) HX.out).mono ?_
  rintro e w3 ⟨rfl, hg⟩
  replace k_a := hg.cell k_a
  have gg := (Gr.refl w2).trans hg
  replace R_a := Lib.hid (R_a.out.grow gg)
  replace G := Lib.hid (G.out.trans gg)
  clear hg gg
  go_wp2_with fail
  refine (Of_v (x := 1) (by decide)).mono ?_
  rintro e w4 ⟨p1, n1, c1, rfl, hr_one, hg⟩
  replace k_a := hg.cell k_a
  have gg := (Gr.refl w3).trans hg
  replace R_a := Lib.hid (R_a.out.grow gg)
  replace G := Lib.hid (G.out.trans gg)
  have R_one := Lib.hid hr_one.toNw
  clear hr_one
  clear hg gg
  replace k_a := ((Gr.refl w4).alloc (.cells #[.slice p1 n1 c1] 24)).cell k_a
  have k_one : (w4.alloc (.cells #[.slice p1 n1 c1] 24)).cell? ⟨w4.heap.size, 0, none⟩ = some (.slice p1 n1 c1) := by simp [go_sem]
  go_wp2_with fail
  refine (Up_v (2 ^ K) 0 K HK2.out HP.out (R_one.out.grow ((Gr.refl w4).alloc (.cells #[.slice p1 n1 c1] 24))) (dv_small (by decide))).mono ?_
  rintro e w5 ⟨pp, np, cp, rfl, hr_p, hg⟩
  replace k_a := hg.cell k_a
  replace k_one := hg.cell k_one
  have gg := ((Gr.refl w4).alloc (.cells #[.slice p1 n1 c1] 24)).trans hg
  replace R_a := Lib.hid (R_a.out.grow gg)
  replace R_one := Lib.hid (R_one.out.grow gg)
  replace G := Lib.hid (G.out.trans gg)
  have R_p := Lib.hid hr_p.toNw
  clear hr_p
  clear hg gg
  replace k_a := ((Gr.refl w5).alloc (.cells #[.slice pp np cp] 24)).cell k_a
  replace k_one := ((Gr.refl w5).alloc (.cells #[.slice pp np cp] 24)).cell k_one
  have k_p : (w5.alloc (.cells #[.slice pp np cp] 24)).cell? ⟨w5.heap.size, 0, none⟩ = some (.slice pp np cp) := by simp [go_sem]
  clear k_one
  clear R_one
  go_wp2_with fail
  refine (Up_v (x * 2 ^ K) 0 K HK2.out HF.out (R_a.out.grow ((Gr.refl w5).alloc (.cells #[.slice pp np cp] 24))) HX.out).mono ?_
  rintro e w6 ⟨pl, nl, cl, rfl, hr_l, hg⟩
  replace k_a := hg.cell k_a
  replace k_p := hg.cell k_p
  have gg := ((Gr.refl w5).alloc (.cells #[.slice pp np cp] 24)).trans hg
  replace R_a := Lib.hid (R_a.out.grow gg)
  replace R_p := Lib.hid (R_p.out.grow gg)
  replace G := Lib.hid (G.out.trans gg)
  have R_l := Lib.hid hr_l.toNw
  clear hr_l
  clear hg gg
  replace k_a := ((Gr.refl w6).alloc (.cells #[.slice pl nl cl] 24)).cell k_a
  replace k_p := ((Gr.refl w6).alloc (.cells #[.slice pl nl cl] 24)).cell k_p
  have k_l : (w6.alloc (.cells #[.slice pl nl cl] 24)).cell? ⟨w6.heap.size, 0, none⟩ = some (.slice pl nl cl) := by simp [go_sem]
  go_wp2_with fail
  refine (Down_v K HK2.out (R_l.out.grow ((Gr.refl w6).alloc (.cells #[.slice pl nl cl] 24))) HFF.out).mono ?_
  rintro e w7 ⟨pk, nk, ck, rfl, hr_k, hg⟩
  replace k_a := hg.cell k_a
  replace k_p := hg.cell k_p
  replace k_l := hg.cell k_l
  have gg := ((Gr.refl w6).alloc (.cells #[.slice pl nl cl] 24)).trans hg
  replace R_a := Lib.hid (R_a.out.grow gg)
  replace R_p := Lib.hid (R_p.out.grow gg)
  replace R_l := Lib.hid (R_l.out.grow gg)
  replace G := Lib.hid (G.out.trans gg)
  have R_k := Lib.hid hr_k.toNw
  clear hr_k
  clear hg gg
  replace k_a := ((Gr.refl w7).alloc (.cells #[.slice pk nk ck] 24)).cell k_a
  replace k_p := ((Gr.refl w7).alloc (.cells #[.slice pk nk ck] 24)).cell k_p
  replace k_l := ((Gr.refl w7).alloc (.cells #[.slice pk nk ck] 24)).cell k_l
  have k_k : (w7.alloc (.cells #[.slice pk nk ck] 24)).cell? ⟨w7.heap.size, 0, none⟩ = some (.slice pk nk ck) := by simp [go_sem]
  go_upto_region 13 with fail
  replace R_a := Lib.hid (R_a.out.grow ((Gr.refl w7).alloc (.cells #[.slice pk nk ck] 24)))
  replace R_p := Lib.hid (R_p.out.grow ((Gr.refl w7).alloc (.cells #[.slice pk nk ck] 24)))
  replace R_l := Lib.hid (R_l.out.grow ((Gr.refl w7).alloc (.cells #[.slice pk nk ck] 24)))
  replace R_k := Lib.hid (R_k.out.grow ((Gr.refl w7).alloc (.cells #[.slice pk nk ck] 24)))
  replace G := Lib.hid (G.out.trans ((Gr.refl w7).alloc (.cells #[.slice pk nk ck] 24)))
  generalize (w7.alloc (.cells #[.slice pk nk ck] 24)) = wE at k_a k_p k_l k_k R_a R_p R_l R_k G ⊢
  rw [HBK.out] at R_k
  have HS1 := Lib.hid (fun W (hW : Gr wE W) => Same_v_eq (w := W) rfl (R_k.out.grow hW) (R_a.out.grow hW))
  have HB1 := Lib.hid (fun W (hW : Gr wE W) => Bits_v (w := W) (R_l.out.grow hW) HFF.out)
  rw [EL.out] at HB1
  have HB4 := Lib.hid (fun W (hW : Gr wE W) => Bits_v (w := W) (R_a.out.grow hW) HX.out)
  rw [EB.out] at HB4
  go_cut [90] from 21 (fun s W => s = .bool false ∧ Gr wE W)
  case first =>
    have GD : Gr wE wE.drew := (Gr.refl wE).drew
    have K0 : wE.drew.cell? ⟨w7.heap.size, 0, none⟩ = some (.slice pk nk ck) := k_k
    have K1 : wE.drew.cell? ⟨w.heap.size, 0, none⟩ = some (.slice ba na ca) := k_a
    have K2 : wE.drew.cell? ⟨w6.heap.size, 0, none⟩ = some (.slice pl nl cl) := k_l
    clear k_a k_p k_l k_k
    first
    | (go_region_held3 (fun W' => W'.cell? ⟨w7.heap.size, 0, none⟩ = some (.slice pk nk ck) ∧ W'.cell? ⟨w.heap.size, 0, none⟩ = some (.slice ba na ca) ∧ W'.cell? ⟨w6.heap.size, 0, none⟩ = some (.slice pl nl cl) ∧ Gr wE W')
        (first | exact ⟨K0, K1, K2, GD⟩ | (refine ⟨?_, ?_, ?_, ?_⟩ <;> assumption))
        (first
        | (go_at_call_of 42 pk; refine (HS1.out _ ?_).mono ?_; assumption; rintro e y0 ⟨rfl, hg0⟩; have z00 := hg0.cell (p := ⟨w7.heap.size, 0, none⟩) (v := (.slice pk nk ck)) (by assumption); have z01 := hg0.cell (p := ⟨w.heap.size, 0, none⟩) (v := (.slice ba na ca)) (by assumption); have z02 := hg0.cell (p := ⟨w6.heap.size, 0, none⟩) (v := (.slice pl nl cl)) (by assumption); have g0 : Gr wE y0 := Gr.trans (by assumption) hg0)
        | (go_at_call_of 28 pl; refine (HB1.out _ ?_).mono ?_; assumption; rintro e y1 ⟨rfl, hg1⟩; have z10 := hg1.cell (p := ⟨w7.heap.size, 0, none⟩) (v := (.slice pk nk ck)) (by assumption); have z11 := hg1.cell (p := ⟨w.heap.size, 0, none⟩) (v := (.slice ba na ca)) (by assumption); have z12 := hg1.cell (p := ⟨w6.heap.size, 0, none⟩) (v := (.slice pl nl cl)) (by assumption); have g1 : Gr wE y1 := Gr.trans (by assumption) hg1)
        | (go_at_call_of 28 ba; refine (HB4.out _ ?_).mono ?_; assumption; rintro e y2 ⟨rfl, hg2⟩; have z20 := hg2.cell (p := ⟨w7.heap.size, 0, none⟩) (v := (.slice pk nk ck)) (by assumption); have z21 := hg2.cell (p := ⟨w.heap.size, 0, none⟩) (v := (.slice ba na ca)) (by assumption); have z22 := hg2.cell (p := ⟨w6.heap.size, 0, none⟩) (v := (.slice pl nl cl)) (by assumption); have g2 : Gr wE y2 := Gr.trans (by assumption) hg2)))
    | fail
    all_goals (go_wp2_with fail; go_meet; exact ⟨rfl, by assumption⟩)
  case rest =>
    obtain ⟨rfl, hcut⟩ := hcut
    replace k_a := hcut.cell k_a
    replace k_p := hcut.cell k_p
    replace k_l := hcut.cell k_l
    replace k_k := hcut.cell k_k
    replace R_a := Lib.hid (R_a.out.grow hcut)
    replace R_p := Lib.hid (R_p.out.grow hcut)
    replace R_l := Lib.hid (R_l.out.grow hcut)
    replace R_k := Lib.hid (R_k.out.grow hcut)
    replace G := Lib.hid (G.out.trans hcut)
    clear hcut
    clear HS1 HB1 HB4
    clear k_k
    clear R_k
    clear k_l
    clear R_l
    go_wp2_with fail
    refine (Down_v K HK2.out (R_a.out.grow (Gr.refl wc)) HX.out).mono ?_
    rintro e w8 ⟨pr, nr, cr, rfl, hr_r, hg⟩
    replace k_a := hg.cell k_a
    replace k_p := hg.cell k_p
    have gg := (Gr.refl wc).trans hg
    replace R_a := Lib.hid (R_a.out.grow gg)
    replace R_p := Lib.hid (R_p.out.grow gg)
    replace G := Lib.hid (G.out.trans gg)
    have R_r := Lib.hid hr_r.toNw
    clear hr_r
    clear hg gg
    replace k_a := ((Gr.refl w8).alloc (.cells #[.slice pr nr cr] 24)).cell k_a
    replace k_p := ((Gr.refl w8).alloc (.cells #[.slice pr nr cr] 24)).cell k_p
    have k_r : (w8.alloc (.cells #[.slice pr nr cr] 24)).cell? ⟨w8.heap.size, 0, none⟩ = some (.slice pr nr cr) := by simp [go_sem]
    go_upto_region 18 with fail
    replace R_a := Lib.hid (R_a.out.grow ((Gr.refl w8).alloc (.cells #[.slice pr nr cr] 24)))
    replace R_p := Lib.hid (R_p.out.grow ((Gr.refl w8).alloc (.cells #[.slice pr nr cr] 24)))
    replace R_r := Lib.hid (R_r.out.grow ((Gr.refl w8).alloc (.cells #[.slice pr nr cr] 24)))
    replace G := Lib.hid (G.out.trans ((Gr.refl w8).alloc (.cells #[.slice pr nr cr] 24)))
    generalize (w8.alloc (.cells #[.slice pr nr cr] 24)) = wE at k_a k_p k_r R_a R_p R_r G ⊢
    have HB1 := Lib.hid (fun W (hW : Gr wE W) => Bits_v (w := W) (R_r.out.grow hW) HRT.out)
    rw [ER.out] at HB1
    have HB4 := Lib.hid (fun W (hW : Gr wE W) => Bits_v (w := W) (R_a.out.grow hW) HX.out)
    rw [EB.out] at HB4
    have HT1 := Lib.hid (fun W (hW : Gr wE W) => Bit_v (w := W) i HI1.out (R_r.out.grow hW) HRT.out)
    rw [bit_down] at HT1
    have HT2 := Lib.hid (fun W (hW : Gr wE W) => Bit_v (w := W) (i + K) HI2.out (R_a.out.grow hW) HX.out)
    obtain ⟨T, hT⟩ : ∃ T, x.testBit (i + K) = T := ⟨_, rfl⟩
    rw [hT] at HT1 HT2
    clear hT
    rw [Int.natCast_add] at HT2
    go_cut [131] from 21 (fun s W => s = .bool false ∧ Gr wE W)
    case first =>
      have GD : Gr wE wE.drew := (Gr.refl wE).drew
      have K0 : wE.drew.cell? ⟨w8.heap.size, 0, none⟩ = some (.slice pr nr cr) := k_r
      have K1 : wE.drew.cell? ⟨w.heap.size, 0, none⟩ = some (.slice ba na ca) := k_a
      clear k_a k_p k_r
      first
      | (go_region_held3 (fun W' => W'.cell? ⟨w8.heap.size, 0, none⟩ = some (.slice pr nr cr) ∧ W'.cell? ⟨w.heap.size, 0, none⟩ = some (.slice ba na ca) ∧ Gr wE W')
          (first | exact ⟨K0, K1, GD⟩ | (refine ⟨?_, ?_, ?_⟩ <;> assumption))
          (first
          | (go_at_call_of 28 pr; refine (HB1.out _ ?_).mono ?_; assumption; rintro e y0 ⟨rfl, hg0⟩; have z00 := hg0.cell (p := ⟨w8.heap.size, 0, none⟩) (v := (.slice pr nr cr)) (by assumption); have z01 := hg0.cell (p := ⟨w.heap.size, 0, none⟩) (v := (.slice ba na ca)) (by assumption); have g0 : Gr wE y0 := Gr.trans (by assumption) hg0)
          | (go_at_call_of 28 ba; refine (HB4.out _ ?_).mono ?_; assumption; rintro e y1 ⟨rfl, hg1⟩; have z10 := hg1.cell (p := ⟨w8.heap.size, 0, none⟩) (v := (.slice pr nr cr)) (by assumption); have z11 := hg1.cell (p := ⟨w.heap.size, 0, none⟩) (v := (.slice ba na ca)) (by assumption); have g1 : Gr wE y1 := Gr.trans (by assumption) hg1)
          | (go_at_call_of 29 pr; refine (HT1.out _ ?_).mono ?_; assumption; rintro e y2 ⟨rfl, hg2⟩; have z20 := hg2.cell (p := ⟨w8.heap.size, 0, none⟩) (v := (.slice pr nr cr)) (by assumption); have z21 := hg2.cell (p := ⟨w.heap.size, 0, none⟩) (v := (.slice ba na ca)) (by assumption); have g2 : Gr wE y2 := Gr.trans (by assumption) hg2)
          | (go_at_call_of 29 ba; refine (HT2.out _ ?_).mono ?_; assumption; rintro e y3 ⟨rfl, hg3⟩; have z30 := hg3.cell (p := ⟨w8.heap.size, 0, none⟩) (v := (.slice pr nr cr)) (by assumption); have z31 := hg3.cell (p := ⟨w.heap.size, 0, none⟩) (v := (.slice ba na ca)) (by assumption); have g3 : Gr wE y3 := Gr.trans (by assumption) hg3)))
      | fail
      all_goals (go_wp2_with fail; go_meet; exact ⟨rfl, by assumption⟩)
    case rest =>
      obtain ⟨rfl, hcut⟩ := hcut
      replace k_a := hcut.cell k_a
      replace k_p := hcut.cell k_p
      replace k_r := hcut.cell k_r
      replace R_a := Lib.hid (R_a.out.grow hcut)
      replace R_p := Lib.hid (R_p.out.grow hcut)
      replace R_r := Lib.hid (R_r.out.grow hcut)
      replace G := Lib.hid (G.out.trans hcut)
      clear hcut
      clear HB1 HB4 HT1 HT2
      go_wp2_with fail
      refine (Div_v (Nat.pow_pos (by decide)) (R_a.out.grow (Gr.refl wc)) (R_p.out.grow (Gr.refl wc)) HX.out HPP.out).mono ?_
      rintro e w9 ⟨pq, pr2, nq, cq, nr2, cr2, rfl, hr_q, hr_r2, hg⟩
      replace k_a := hg.cell k_a
      replace k_p := hg.cell k_p
      replace k_r := hg.cell k_r
      have gg := (Gr.refl wc).trans hg
      replace R_a := Lib.hid (R_a.out.grow gg)
      replace R_p := Lib.hid (R_p.out.grow gg)
      replace R_r := Lib.hid (R_r.out.grow gg)
      replace G := Lib.hid (G.out.trans gg)
      have R_q := Lib.hid hr_q.toNw
      clear hr_q
      have R_r2 := Lib.hid hr_r2.toNw
      clear hr_r2
      clear hg gg
      replace k_a := ((Gr.refl w9).alloc (.cells #[.slice pq nq cq] 24)).cell k_a
      replace k_p := ((Gr.refl w9).alloc (.cells #[.slice pq nq cq] 24)).cell k_p
      replace k_r := ((Gr.refl w9).alloc (.cells #[.slice pq nq cq] 24)).cell k_r
      have k_q : (w9.alloc (.cells #[.slice pq nq cq] 24)).cell? ⟨w9.heap.size, 0, none⟩ = some (.slice pq nq cq) := by simp [go_sem]
      replace k_a := ((Gr.refl (w9.alloc (.cells #[.slice pq nq cq] 24))).alloc (.cells #[.slice pr2 nr2 cr2] 24)).cell k_a
      replace k_p := ((Gr.refl (w9.alloc (.cells #[.slice pq nq cq] 24))).alloc (.cells #[.slice pr2 nr2 cr2] 24)).cell k_p
      replace k_r := ((Gr.refl (w9.alloc (.cells #[.slice pq nq cq] 24))).alloc (.cells #[.slice pr2 nr2 cr2] 24)).cell k_r
      replace k_q := ((Gr.refl (w9.alloc (.cells #[.slice pq nq cq] 24))).alloc (.cells #[.slice pr2 nr2 cr2] 24)).cell k_q
      have k_r2 : ((w9.alloc (.cells #[.slice pq nq cq] 24)).alloc (.cells #[.slice pr2 nr2 cr2] 24)).cell? ⟨w9.heap.size + 1, 0, none⟩ = some (.slice pr2 nr2 cr2) := by simp [go_sem]
      go_wp2_with fail
      refine (Same_v_eq rfl (R_q.out.grow (((Gr.refl w9).alloc (.cells #[.slice pq nq cq] 24)).alloc (.cells #[.slice pr2 nr2 cr2] 24))) (R_r.out.grow (((Gr.refl w9).alloc (.cells #[.slice pq nq cq] 24)).alloc (.cells #[.slice pr2 nr2 cr2] 24)))).mono ?_
      rintro e w10 ⟨rfl, hg⟩
      replace k_a := hg.cell k_a
      replace k_p := hg.cell k_p
      replace k_r := hg.cell k_r
      replace k_q := hg.cell k_q
      replace k_r2 := hg.cell k_r2
      have gg := (((Gr.refl w9).alloc (.cells #[.slice pq nq cq] 24)).alloc (.cells #[.slice pr2 nr2 cr2] 24)).trans hg
      replace R_a := Lib.hid (R_a.out.grow gg)
      replace R_p := Lib.hid (R_p.out.grow gg)
      replace R_r := Lib.hid (R_r.out.grow gg)
      replace R_q := Lib.hid (R_q.out.grow gg)
      replace R_r2 := Lib.hid (R_r2.out.grow gg)
      replace G := Lib.hid (G.out.trans gg)
      clear hg gg
      go_wp2
      go_ret
      exact ⟨rfl, G.out⟩

set_option maxRecDepth 100000 in
set_option maxHeartbeats 40000000 in
theorem ok_small_big (w : World) (ba : Option Addr) (na ca n i : Nat) (x K : Nat) (hx : x < pw 64) (hK : n % 2100 = K) (hn : n < 65536) (hi : i < 65536) (ha : Nw w ba na ca (digs x)) (sa : na ≤ 100) (hs : K < 2048) (hf : pw 64 ≤ x * 2 ^ K) : Calls Try.prog 8 #[.agg #[.slice ba na ca], .int .u16 (n : Int), .int .u16 (i : Int)] w fun e w' => e = .returned (.bool true) ∧ Gr w w' := by
  have HX := Lib.hid hx
  have HK2 : Hid (K ≤ 10000) := Lib.hid (by omega)
  have R_a := Lib.hid ha
  have SA := Lib.hid sa
  have HB2 := Lib.hid (nb_bound hx)
  obtain ⟨B, hB⟩ : ∃ B, nb x = B := ⟨_, rfl⟩
  rw [hB] at HB2
  have EB := Lib.hid hB
  obtain ⟨R, hR⟩ : ∃ R, nb (x / 2 ^ K) = R := ⟨_, rfl⟩
  have ER := Lib.hid hR
  have hR2 : R = B - K := by rw [← hR, ← hB]; exact nb_down x K
  have hB3 := HB2.out
  have tm : (n : Int).tmod 2100 = (K : Int) := by rw [Int.tmod_eq_emod_of_nonneg (by omega)]; omega
  have em : (n : Int) % 2100 = (K : Int) := by omega
  have wn : IntKind.i64.wrap (n : Int) = (n : Int) := IntWalk.i64_in _ (by omega)
  have wi : IntKind.i64.wrap (i : Int) = (i : Int) := IntWalk.i64_in _ (by omega)
  have wK : IntKind.i64.wrap (K : Int) = (K : Int) := IntWalk.i64_in _ (by omega)
  have wnK : IntKind.i64.wrap (-(K : Int)) = -(K : Int) := IntWalk.i64_in _ (by omega)
  have wBK : IntKind.i64.wrap ((B : Int) + (K : Int)) = (B : Int) + (K : Int) := IntWalk.i64_in _ (by omega)
  have wiK : IntKind.i64.wrap ((i : Int) + (K : Int)) = (i : Int) + (K : Int) := IntWalk.i64_in _ (by omega)
  obtain ⟨D, hD⟩ : ∃ D : Int, (B : Int) - (K : Int) = D := ⟨_, rfl⟩
  have wD : IntKind.i64.wrap D = D := IntWalk.i64_in _ (by omega)
  have wBD : IntKind.i64.wrap ((B : Int) - (K : Int)) = D := by rw [hD]; exact wD
  have m1 : max 0 D = (R : Int) := by omega
  have m2 : (if (0 : Int) < D then D else 0) = (R : Int) := by split <;> omega
  have HI2 : Hid (i + K < 9223372036854775808) := Lib.hid (by omega)
  have HI1 : Hid (i < 9223372036854775808) := Lib.hid (by omega)
  have lk : (K : Int) < 2048 := by omega
  have HP : Hid (Fits (1 * 2 ^ K) (2 ^ K) 0) := Lib.hid (.inl ⟨by rw [Nat.one_mul]; exact power_fits hs, (Nat.one_mul _).symm, rfl⟩)
  have HPP : Hid (2 ^ K < pw 64) := Lib.hid (power_fits hs)
  have HF : Hid (Fits (x * 2 ^ K) 0 9) := Lib.hid (.inr ⟨hf, rfl, rfl⟩)
  have hbig : ¬ (B : Int) + (K : Int) ≤ 2048 := by have := nb_big hf; omega
  have HRT := Lib.hid (Nat.lt_of_le_of_lt (Nat.div_le_self x (2 ^ K)) hx)
  have G := Lib.hid (Gr.refl w)
  clear hx ha sa hB hR hR2 hB3 hD hs hK hn hi hf
  have k_a : (w.alloc (.cells #[.slice ba na ca] 24)).cell? ⟨w.heap.size, 0, none⟩ = some (.slice ba na ca) := by simp [go_sem]
  go_enter Try.func8, Try.ntmps8
  go_wp2_with fail
  refine (awake_any _).mono ?_
  rintro e w1 ⟨rfl, hg⟩
  replace k_a := hg.cell k_a
  have gg := ((Gr.refl w).alloc (.cells #[.slice ba na ca] 24)).trans hg
  replace R_a := Lib.hid (R_a.out.grow gg)
  replace G := Lib.hid (G.out.trans gg)
  clear hg gg
  have sa := SA.out
  go_wp2_with fail
  replace k_a := ((Gr.refl w1).alloc (.cells #[.slice ba na ca] 24)).cell k_a
  refine (great_no (n := 1) (c := 1) rfl (by decide) (nats1 w1 ba na ca) (le1 sa)).mono ?_
  rintro e w2 ⟨rfl, hg⟩
  replace k_a := hg.cell k_a
  have gg := ((Gr.refl w1).alloc (.cells #[.slice ba na ca] 24)).trans hg
  replace R_a := Lib.hid (R_a.out.grow gg)
  replace G := Lib.hid (G.out.trans gg)
  clear hg gg
  clear sa
  go_wp2_with fail
  refine (RValid_v (R_a.out.grow (Gr.refl w2)) HX.out).mono ?_
  rintro e w3 ⟨rfl, hg⟩
  replace k_a := hg.cell k_a
  have gg := (Gr.refl w2).trans hg
  replace R_a := Lib.hid (R_a.out.grow gg)
  replace G := Lib.hid (G.out.trans gg)
  clear hg gg
  go_wp2_with fail
  refine (Of_v (x := 1) (by decide)).mono ?_
  rintro e w4 ⟨p1, n1, c1, rfl, hr_one, hg⟩
  replace k_a := hg.cell k_a
  have gg := (Gr.refl w3).trans hg
  replace R_a := Lib.hid (R_a.out.grow gg)
  replace G := Lib.hid (G.out.trans gg)
  have R_one := Lib.hid hr_one.toNw
  clear hr_one
  clear hg gg
  replace k_a := ((Gr.refl w4).alloc (.cells #[.slice p1 n1 c1] 24)).cell k_a
  have k_one : (w4.alloc (.cells #[.slice p1 n1 c1] 24)).cell? ⟨w4.heap.size, 0, none⟩ = some (.slice p1 n1 c1) := by simp [go_sem]
  go_wp2_with fail
  refine (Up_v (2 ^ K) 0 K HK2.out HP.out (R_one.out.grow ((Gr.refl w4).alloc (.cells #[.slice p1 n1 c1] 24))) (dv_small (by decide))).mono ?_
  rintro e w5 ⟨pp, np, cp, rfl, hr_p, hg⟩
  replace k_a := hg.cell k_a
  replace k_one := hg.cell k_one
  have gg := ((Gr.refl w4).alloc (.cells #[.slice p1 n1 c1] 24)).trans hg
  replace R_a := Lib.hid (R_a.out.grow gg)
  replace R_one := Lib.hid (R_one.out.grow gg)
  replace G := Lib.hid (G.out.trans gg)
  have R_p := Lib.hid hr_p.toNw
  clear hr_p
  clear hg gg
  replace k_a := ((Gr.refl w5).alloc (.cells #[.slice pp np cp] 24)).cell k_a
  replace k_one := ((Gr.refl w5).alloc (.cells #[.slice pp np cp] 24)).cell k_one
  have k_p : (w5.alloc (.cells #[.slice pp np cp] 24)).cell? ⟨w5.heap.size, 0, none⟩ = some (.slice pp np cp) := by simp [go_sem]
  clear k_one
  clear R_one
  go_wp2_with fail
  refine (Up_v 0 9 K HK2.out HF.out (R_a.out.grow ((Gr.refl w5).alloc (.cells #[.slice pp np cp] 24))) HX.out).mono ?_
  rintro e w6 ⟨pl, nl, cl, rfl, hr_l, hg⟩
  replace k_a := hg.cell k_a
  replace k_p := hg.cell k_p
  have gg := ((Gr.refl w5).alloc (.cells #[.slice pp np cp] 24)).trans hg
  replace R_a := Lib.hid (R_a.out.grow gg)
  replace R_p := Lib.hid (R_p.out.grow gg)
  replace G := Lib.hid (G.out.trans gg)
  have R_l := Lib.hid hr_l.toNw
  clear hr_l
  clear hg gg
  replace k_a := ((Gr.refl w6).alloc (.cells #[.slice pl nl cl] 24)).cell k_a
  replace k_p := ((Gr.refl w6).alloc (.cells #[.slice pl nl cl] 24)).cell k_p
  have k_l : (w6.alloc (.cells #[.slice pl nl cl] 24)).cell? ⟨w6.heap.size, 0, none⟩ = some (.slice pl nl cl) := by simp [go_sem]
  go_wp2_with fail
  refine (Bits_v (R_a.out.grow ((Gr.refl w6).alloc (.cells #[.slice pl nl cl] 24))) HX.out).mono ?_
  rintro e w7 ⟨rfl, hg⟩
  replace k_a := hg.cell k_a
  replace k_p := hg.cell k_p
  replace k_l := hg.cell k_l
  have gg := ((Gr.refl w6).alloc (.cells #[.slice pl nl cl] 24)).trans hg
  replace R_a := Lib.hid (R_a.out.grow gg)
  replace R_p := Lib.hid (R_p.out.grow gg)
  replace R_l := Lib.hid (R_l.out.grow gg)
  replace G := Lib.hid (G.out.trans gg)
  clear hg gg
  rw [EB.out]
  clear k_l
  clear R_l
  go_wp2_with fail
  refine (Down_v K HK2.out (R_a.out.grow (Gr.refl w7)) HX.out).mono ?_
  rintro e w8 ⟨pr, nr, cr, rfl, hr_r, hg⟩
  replace k_a := hg.cell k_a
  replace k_p := hg.cell k_p
  have gg := (Gr.refl w7).trans hg
  replace R_a := Lib.hid (R_a.out.grow gg)
  replace R_p := Lib.hid (R_p.out.grow gg)
  replace G := Lib.hid (G.out.trans gg)
  have R_r := Lib.hid hr_r.toNw
  clear hr_r
  clear hg gg
  replace k_a := ((Gr.refl w8).alloc (.cells #[.slice pr nr cr] 24)).cell k_a
  replace k_p := ((Gr.refl w8).alloc (.cells #[.slice pr nr cr] 24)).cell k_p
  have k_r : (w8.alloc (.cells #[.slice pr nr cr] 24)).cell? ⟨w8.heap.size, 0, none⟩ = some (.slice pr nr cr) := by simp [go_sem]
  go_upto_region 18 with fail
  replace R_a := Lib.hid (R_a.out.grow ((Gr.refl w8).alloc (.cells #[.slice pr nr cr] 24)))
  replace R_p := Lib.hid (R_p.out.grow ((Gr.refl w8).alloc (.cells #[.slice pr nr cr] 24)))
  replace R_r := Lib.hid (R_r.out.grow ((Gr.refl w8).alloc (.cells #[.slice pr nr cr] 24)))
  replace G := Lib.hid (G.out.trans ((Gr.refl w8).alloc (.cells #[.slice pr nr cr] 24)))
  generalize (w8.alloc (.cells #[.slice pr nr cr] 24)) = wE at k_a k_p k_r R_a R_p R_r G ⊢
  have HB1 := Lib.hid (fun W (hW : Gr wE W) => Bits_v (w := W) (R_r.out.grow hW) HRT.out)
  rw [ER.out] at HB1
  have HB4 := Lib.hid (fun W (hW : Gr wE W) => Bits_v (w := W) (R_a.out.grow hW) HX.out)
  rw [EB.out] at HB4
  have HT1 := Lib.hid (fun W (hW : Gr wE W) => Bit_v (w := W) i HI1.out (R_r.out.grow hW) HRT.out)
  rw [bit_down] at HT1
  have HT2 := Lib.hid (fun W (hW : Gr wE W) => Bit_v (w := W) (i + K) HI2.out (R_a.out.grow hW) HX.out)
  obtain ⟨T, hT⟩ : ∃ T, x.testBit (i + K) = T := ⟨_, rfl⟩
  rw [hT] at HT1 HT2
  clear hT
  rw [Int.natCast_add] at HT2
  go_cut [131] from 21 (fun s W => s = .bool false ∧ Gr wE W)
  case first =>
    have GD : Gr wE wE.drew := (Gr.refl wE).drew
    have K0 : wE.drew.cell? ⟨w8.heap.size, 0, none⟩ = some (.slice pr nr cr) := k_r
    have K1 : wE.drew.cell? ⟨w.heap.size, 0, none⟩ = some (.slice ba na ca) := k_a
    clear k_a k_p k_r
    first
    | (go_region_held3 (fun W' => W'.cell? ⟨w8.heap.size, 0, none⟩ = some (.slice pr nr cr) ∧ W'.cell? ⟨w.heap.size, 0, none⟩ = some (.slice ba na ca) ∧ Gr wE W')
        (first | exact ⟨K0, K1, GD⟩ | (refine ⟨?_, ?_, ?_⟩ <;> assumption))
        (first
        | (go_at_call_of 28 pr; refine (HB1.out _ ?_).mono ?_; assumption; rintro e y0 ⟨rfl, hg0⟩; have z00 := hg0.cell (p := ⟨w8.heap.size, 0, none⟩) (v := (.slice pr nr cr)) (by assumption); have z01 := hg0.cell (p := ⟨w.heap.size, 0, none⟩) (v := (.slice ba na ca)) (by assumption); have g0 : Gr wE y0 := Gr.trans (by assumption) hg0)
        | (go_at_call_of 28 ba; refine (HB4.out _ ?_).mono ?_; assumption; rintro e y1 ⟨rfl, hg1⟩; have z10 := hg1.cell (p := ⟨w8.heap.size, 0, none⟩) (v := (.slice pr nr cr)) (by assumption); have z11 := hg1.cell (p := ⟨w.heap.size, 0, none⟩) (v := (.slice ba na ca)) (by assumption); have g1 : Gr wE y1 := Gr.trans (by assumption) hg1)
        | (go_at_call_of 29 pr; refine (HT1.out _ ?_).mono ?_; assumption; rintro e y2 ⟨rfl, hg2⟩; have z20 := hg2.cell (p := ⟨w8.heap.size, 0, none⟩) (v := (.slice pr nr cr)) (by assumption); have z21 := hg2.cell (p := ⟨w.heap.size, 0, none⟩) (v := (.slice ba na ca)) (by assumption); have g2 : Gr wE y2 := Gr.trans (by assumption) hg2)
        | (go_at_call_of 29 ba; refine (HT2.out _ ?_).mono ?_; assumption; rintro e y3 ⟨rfl, hg3⟩; have z30 := hg3.cell (p := ⟨w8.heap.size, 0, none⟩) (v := (.slice pr nr cr)) (by assumption); have z31 := hg3.cell (p := ⟨w.heap.size, 0, none⟩) (v := (.slice ba na ca)) (by assumption); have g3 : Gr wE y3 := Gr.trans (by assumption) hg3)))
    | fail
    all_goals (go_wp2_with fail; go_meet; exact ⟨rfl, by assumption⟩)
  case rest =>
    obtain ⟨rfl, hcut⟩ := hcut
    replace k_a := hcut.cell k_a
    replace k_p := hcut.cell k_p
    replace k_r := hcut.cell k_r
    replace R_a := Lib.hid (R_a.out.grow hcut)
    replace R_p := Lib.hid (R_p.out.grow hcut)
    replace R_r := Lib.hid (R_r.out.grow hcut)
    replace G := Lib.hid (G.out.trans hcut)
    clear hcut
    clear HB1 HB4 HT1 HT2
    go_wp2_with fail
    refine (Div_v (Nat.pow_pos (by decide)) (R_a.out.grow (Gr.refl wc)) (R_p.out.grow (Gr.refl wc)) HX.out HPP.out).mono ?_
    rintro e w9 ⟨pq, pr2, nq, cq, nr2, cr2, rfl, hr_q, hr_r2, hg⟩
    replace k_a := hg.cell k_a
    replace k_p := hg.cell k_p
    replace k_r := hg.cell k_r
    have gg := (Gr.refl wc).trans hg
    replace R_a := Lib.hid (R_a.out.grow gg)
    replace R_p := Lib.hid (R_p.out.grow gg)
    replace R_r := Lib.hid (R_r.out.grow gg)
    replace G := Lib.hid (G.out.trans gg)
    have R_q := Lib.hid hr_q.toNw
    clear hr_q
    have R_r2 := Lib.hid hr_r2.toNw
    clear hr_r2
    clear hg gg
    replace k_a := ((Gr.refl w9).alloc (.cells #[.slice pq nq cq] 24)).cell k_a
    replace k_p := ((Gr.refl w9).alloc (.cells #[.slice pq nq cq] 24)).cell k_p
    replace k_r := ((Gr.refl w9).alloc (.cells #[.slice pq nq cq] 24)).cell k_r
    have k_q : (w9.alloc (.cells #[.slice pq nq cq] 24)).cell? ⟨w9.heap.size, 0, none⟩ = some (.slice pq nq cq) := by simp [go_sem]
    replace k_a := ((Gr.refl (w9.alloc (.cells #[.slice pq nq cq] 24))).alloc (.cells #[.slice pr2 nr2 cr2] 24)).cell k_a
    replace k_p := ((Gr.refl (w9.alloc (.cells #[.slice pq nq cq] 24))).alloc (.cells #[.slice pr2 nr2 cr2] 24)).cell k_p
    replace k_r := ((Gr.refl (w9.alloc (.cells #[.slice pq nq cq] 24))).alloc (.cells #[.slice pr2 nr2 cr2] 24)).cell k_r
    replace k_q := ((Gr.refl (w9.alloc (.cells #[.slice pq nq cq] 24))).alloc (.cells #[.slice pr2 nr2 cr2] 24)).cell k_q
    have k_r2 : ((w9.alloc (.cells #[.slice pq nq cq] 24)).alloc (.cells #[.slice pr2 nr2 cr2] 24)).cell? ⟨w9.heap.size + 1, 0, none⟩ = some (.slice pr2 nr2 cr2) := by simp [go_sem]
    go_wp2_with fail
    refine (Same_v_eq rfl (R_q.out.grow (((Gr.refl w9).alloc (.cells #[.slice pq nq cq] 24)).alloc (.cells #[.slice pr2 nr2 cr2] 24))) (R_r.out.grow (((Gr.refl w9).alloc (.cells #[.slice pq nq cq] 24)).alloc (.cells #[.slice pr2 nr2 cr2] 24)))).mono ?_
    rintro e w10 ⟨rfl, hg⟩
    replace k_a := hg.cell k_a
    replace k_p := hg.cell k_p
    replace k_r := hg.cell k_r
    replace k_q := hg.cell k_q
    replace k_r2 := hg.cell k_r2
    have gg := (((Gr.refl w9).alloc (.cells #[.slice pq nq cq] 24)).alloc (.cells #[.slice pr2 nr2 cr2] 24)).trans hg
    replace R_a := Lib.hid (R_a.out.grow gg)
    replace R_p := Lib.hid (R_p.out.grow gg)
    replace R_r := Lib.hid (R_r.out.grow gg)
    replace R_q := Lib.hid (R_q.out.grow gg)
    replace R_r2 := Lib.hid (R_r2.out.grow gg)
    replace G := Lib.hid (G.out.trans gg)
    clear hg gg
    go_wp2
    go_ret
    exact ⟨rfl, G.out⟩

set_option maxRecDepth 100000 in
set_option maxHeartbeats 40000000 in
theorem ok_great_pos (w : World) (ba : Option Addr) (na ca n i : Nat) (x K : Nat) (hx : x < pw 64) (hK : n % 2100 = K) (hn : n < 65536) (hi : i < 65536) (ha : Nw w ba na ca (digs x)) (sa : na ≤ 100) (hs : 2048 ≤ K) (h0 : 0 < x) (hf : x * 2 ^ K < pw 64) : Calls Try.prog 8 #[.agg #[.slice ba na ca], .int .u16 (n : Int), .int .u16 (i : Int)] w fun e w' => e = .returned (.bool true) ∧ Gr w w' := by
  have HX := Lib.hid hx
  have HK2 : Hid (K ≤ 10000) := Lib.hid (by omega)
  have R_a := Lib.hid ha
  have SA := Lib.hid sa
  have HB2 := Lib.hid (nb_bound hx)
  obtain ⟨B, hB⟩ : ∃ B, nb x = B := ⟨_, rfl⟩
  rw [hB] at HB2
  have EB := Lib.hid hB
  obtain ⟨R, hR⟩ : ∃ R, nb (x / 2 ^ K) = R := ⟨_, rfl⟩
  have ER := Lib.hid hR
  have hR2 : R = B - K := by rw [← hR, ← hB]; exact nb_down x K
  have hB3 := HB2.out
  have tm : (n : Int).tmod 2100 = (K : Int) := by rw [Int.tmod_eq_emod_of_nonneg (by omega)]; omega
  have em : (n : Int) % 2100 = (K : Int) := by omega
  have wn : IntKind.i64.wrap (n : Int) = (n : Int) := IntWalk.i64_in _ (by omega)
  have wi : IntKind.i64.wrap (i : Int) = (i : Int) := IntWalk.i64_in _ (by omega)
  have wK : IntKind.i64.wrap (K : Int) = (K : Int) := IntWalk.i64_in _ (by omega)
  have wnK : IntKind.i64.wrap (-(K : Int)) = -(K : Int) := IntWalk.i64_in _ (by omega)
  have wBK : IntKind.i64.wrap ((B : Int) + (K : Int)) = (B : Int) + (K : Int) := IntWalk.i64_in _ (by omega)
  have wiK : IntKind.i64.wrap ((i : Int) + (K : Int)) = (i : Int) + (K : Int) := IntWalk.i64_in _ (by omega)
  obtain ⟨D, hD⟩ : ∃ D : Int, (B : Int) - (K : Int) = D := ⟨_, rfl⟩
  have wD : IntKind.i64.wrap D = D := IntWalk.i64_in _ (by omega)
  have wBD : IntKind.i64.wrap ((B : Int) - (K : Int)) = D := by rw [hD]; exact wD
  have m1 : max 0 D = (R : Int) := by omega
  have m2 : (if (0 : Int) < D then D else 0) = (R : Int) := by split <;> omega
  have HI2 : Hid (i + K < 9223372036854775808) := Lib.hid (by omega)
  have HI1 : Hid (i < 9223372036854775808) := Lib.hid (by omega)
  have lk : ¬ (K : Int) < 2048 := by omega
  have HP : Hid (Fits (1 * 2 ^ K) 0 9) := Lib.hid (.inr ⟨by rw [Nat.one_mul]; exact power_big hs, rfl, rfl⟩)
  have HZ := Lib.hid (down_zero hx hs)
  have HF : Hid (Fits (x * 2 ^ K) (x * 2 ^ K) 0) := Lib.hid (.inl ⟨hf, rfl, rfl⟩)
  have HFF := Lib.hid hf
  have HBK : Hid (x * 2 ^ K / 2 ^ K = x) := Lib.hid (Nat.mul_div_cancel x (Nat.pow_pos (by decide)))
  have EL : Hid (nb (x * 2 ^ K) = B + K) := Lib.hid (by rw [nb_shift K h0, hB])
  have hn1 : (0 : Int) < (na : Int) := by
    have : na ≠ 0 := by
      intro e
      have h1 := ha.len
      rw [e] at h1
      have h2 := val_digs x
      rw [List.eq_nil_of_length_eq_zero h1] at h2
      have : val [] = 0 := rfl
      omega
    omega
  have hn2 : decide ((0 : Int) < (na : Int)) = true := decide_eq_true hn1
  have hn3 : decide (0 < na) = true := decide_eq_true (by omega)
  have HRT := Lib.hid (Nat.lt_of_le_of_lt (Nat.div_le_self x (2 ^ K)) hx)
  have G := Lib.hid (Gr.refl w)
  clear hx ha sa hB hR hR2 hB3 hD hs hK hn hi h0 hf
  have k_a : (w.alloc (.cells #[.slice ba na ca] 24)).cell? ⟨w.heap.size, 0, none⟩ = some (.slice ba na ca) := by simp [go_sem]
  go_enter Try.func8, Try.ntmps8
  go_wp2_with fail
  refine (awake_any _).mono ?_
  rintro e w1 ⟨rfl, hg⟩
  replace k_a := hg.cell k_a
  have gg := ((Gr.refl w).alloc (.cells #[.slice ba na ca] 24)).trans hg
  replace R_a := Lib.hid (R_a.out.grow gg)
  replace G := Lib.hid (G.out.trans gg)
  clear hg gg
  have sa := SA.out
  go_wp2_with fail
  replace k_a := ((Gr.refl w1).alloc (.cells #[.slice ba na ca] 24)).cell k_a
  refine (great_no (n := 1) (c := 1) rfl (by decide) (nats1 w1 ba na ca) (le1 sa)).mono ?_
  rintro e w2 ⟨rfl, hg⟩
  replace k_a := hg.cell k_a
  have gg := ((Gr.refl w1).alloc (.cells #[.slice ba na ca] 24)).trans hg
  replace R_a := Lib.hid (R_a.out.grow gg)
  replace G := Lib.hid (G.out.trans gg)
  clear hg gg
  clear sa
  go_wp2_with fail
  refine (RValid_v (R_a.out.grow (Gr.refl w2)) HX.out).mono ?_
  rintro e w3 ⟨rfl, hg⟩
  replace k_a := hg.cell k_a
  have gg := (Gr.refl w2).trans hg
  replace R_a := Lib.hid (R_a.out.grow gg)
  replace G := Lib.hid (G.out.trans gg)
  clear hg gg
  go_wp2_with fail
  refine (Of_v (x := 1) (by decide)).mono ?_
  rintro e w4 ⟨p1, n1, c1, rfl, hr_one, hg⟩
  replace k_a := hg.cell k_a
  have gg := (Gr.refl w3).trans hg
  replace R_a := Lib.hid (R_a.out.grow gg)
  replace G := Lib.hid (G.out.trans gg)
  have R_one := Lib.hid hr_one.toNw
  clear hr_one
  clear hg gg
  replace k_a := ((Gr.refl w4).alloc (.cells #[.slice p1 n1 c1] 24)).cell k_a
  have k_one : (w4.alloc (.cells #[.slice p1 n1 c1] 24)).cell? ⟨w4.heap.size, 0, none⟩ = some (.slice p1 n1 c1) := by simp [go_sem]
  go_wp2_with fail
  refine (Up_v 0 9 K HK2.out HP.out (R_one.out.grow ((Gr.refl w4).alloc (.cells #[.slice p1 n1 c1] 24))) (dv_small (by decide))).mono ?_
  rintro e w5 ⟨pp, np, cp, rfl, hr_p, hg⟩
  replace k_a := hg.cell k_a
  replace k_one := hg.cell k_one
  have gg := ((Gr.refl w4).alloc (.cells #[.slice p1 n1 c1] 24)).trans hg
  replace R_a := Lib.hid (R_a.out.grow gg)
  replace R_one := Lib.hid (R_one.out.grow gg)
  replace G := Lib.hid (G.out.trans gg)
  have R_p := Lib.hid hr_p.toNw
  clear hr_p
  clear hg gg
  replace k_a := ((Gr.refl w5).alloc (.cells #[.slice pp np cp] 24)).cell k_a
  replace k_one := ((Gr.refl w5).alloc (.cells #[.slice pp np cp] 24)).cell k_one
  have k_p : (w5.alloc (.cells #[.slice pp np cp] 24)).cell? ⟨w5.heap.size, 0, none⟩ = some (.slice pp np cp) := by simp [go_sem]
  clear k_one
  clear R_one
  go_wp2_with fail
  refine (Up_v (x * 2 ^ K) 0 K HK2.out HF.out (R_a.out.grow ((Gr.refl w5).alloc (.cells #[.slice pp np cp] 24))) HX.out).mono ?_
  rintro e w6 ⟨pl, nl, cl, rfl, hr_l, hg⟩
  replace k_a := hg.cell k_a
  replace k_p := hg.cell k_p
  have gg := ((Gr.refl w5).alloc (.cells #[.slice pp np cp] 24)).trans hg
  replace R_a := Lib.hid (R_a.out.grow gg)
  replace R_p := Lib.hid (R_p.out.grow gg)
  replace G := Lib.hid (G.out.trans gg)
  have R_l := Lib.hid hr_l.toNw
  clear hr_l
  clear hg gg
  replace k_a := ((Gr.refl w6).alloc (.cells #[.slice pl nl cl] 24)).cell k_a
  replace k_p := ((Gr.refl w6).alloc (.cells #[.slice pl nl cl] 24)).cell k_p
  have k_l : (w6.alloc (.cells #[.slice pl nl cl] 24)).cell? ⟨w6.heap.size, 0, none⟩ = some (.slice pl nl cl) := by simp [go_sem]
  go_wp2_with fail
  refine (Down_v K HK2.out (R_l.out.grow ((Gr.refl w6).alloc (.cells #[.slice pl nl cl] 24))) HFF.out).mono ?_
  rintro e w7 ⟨pk, nk, ck, rfl, hr_k, hg⟩
  replace k_a := hg.cell k_a
  replace k_p := hg.cell k_p
  replace k_l := hg.cell k_l
  have gg := ((Gr.refl w6).alloc (.cells #[.slice pl nl cl] 24)).trans hg
  replace R_a := Lib.hid (R_a.out.grow gg)
  replace R_p := Lib.hid (R_p.out.grow gg)
  replace R_l := Lib.hid (R_l.out.grow gg)
  replace G := Lib.hid (G.out.trans gg)
  have R_k := Lib.hid hr_k.toNw
  clear hr_k
  clear hg gg
  replace k_a := ((Gr.refl w7).alloc (.cells #[.slice pk nk ck] 24)).cell k_a
  replace k_p := ((Gr.refl w7).alloc (.cells #[.slice pk nk ck] 24)).cell k_p
  replace k_l := ((Gr.refl w7).alloc (.cells #[.slice pk nk ck] 24)).cell k_l
  have k_k : (w7.alloc (.cells #[.slice pk nk ck] 24)).cell? ⟨w7.heap.size, 0, none⟩ = some (.slice pk nk ck) := by simp [go_sem]
  go_upto_region 13 with fail
  replace R_a := Lib.hid (R_a.out.grow ((Gr.refl w7).alloc (.cells #[.slice pk nk ck] 24)))
  replace R_p := Lib.hid (R_p.out.grow ((Gr.refl w7).alloc (.cells #[.slice pk nk ck] 24)))
  replace R_l := Lib.hid (R_l.out.grow ((Gr.refl w7).alloc (.cells #[.slice pk nk ck] 24)))
  replace R_k := Lib.hid (R_k.out.grow ((Gr.refl w7).alloc (.cells #[.slice pk nk ck] 24)))
  replace G := Lib.hid (G.out.trans ((Gr.refl w7).alloc (.cells #[.slice pk nk ck] 24)))
  generalize (w7.alloc (.cells #[.slice pk nk ck] 24)) = wE at k_a k_p k_l k_k R_a R_p R_l R_k G ⊢
  rw [HBK.out] at R_k
  have HS1 := Lib.hid (fun W (hW : Gr wE W) => Same_v_eq (w := W) rfl (R_k.out.grow hW) (R_a.out.grow hW))
  have HB1 := Lib.hid (fun W (hW : Gr wE W) => Bits_v (w := W) (R_l.out.grow hW) HFF.out)
  rw [EL.out] at HB1
  have HB4 := Lib.hid (fun W (hW : Gr wE W) => Bits_v (w := W) (R_a.out.grow hW) HX.out)
  rw [EB.out] at HB4
  go_cut [90] from 21 (fun s W => s = .bool false ∧ Gr wE W)
  case first =>
    have GD : Gr wE wE.drew := (Gr.refl wE).drew
    have K0 : wE.drew.cell? ⟨w7.heap.size, 0, none⟩ = some (.slice pk nk ck) := k_k
    have K1 : wE.drew.cell? ⟨w.heap.size, 0, none⟩ = some (.slice ba na ca) := k_a
    have K2 : wE.drew.cell? ⟨w6.heap.size, 0, none⟩ = some (.slice pl nl cl) := k_l
    clear k_a k_p k_l k_k
    first
    | (go_region_held3 (fun W' => W'.cell? ⟨w7.heap.size, 0, none⟩ = some (.slice pk nk ck) ∧ W'.cell? ⟨w.heap.size, 0, none⟩ = some (.slice ba na ca) ∧ W'.cell? ⟨w6.heap.size, 0, none⟩ = some (.slice pl nl cl) ∧ Gr wE W')
        (first | exact ⟨K0, K1, K2, GD⟩ | (refine ⟨?_, ?_, ?_, ?_⟩ <;> assumption))
        (first
        | (go_at_call_of 42 pk; refine (HS1.out _ ?_).mono ?_; assumption; rintro e y0 ⟨rfl, hg0⟩; have z00 := hg0.cell (p := ⟨w7.heap.size, 0, none⟩) (v := (.slice pk nk ck)) (by assumption); have z01 := hg0.cell (p := ⟨w.heap.size, 0, none⟩) (v := (.slice ba na ca)) (by assumption); have z02 := hg0.cell (p := ⟨w6.heap.size, 0, none⟩) (v := (.slice pl nl cl)) (by assumption); have g0 : Gr wE y0 := Gr.trans (by assumption) hg0)
        | (go_at_call_of 28 pl; refine (HB1.out _ ?_).mono ?_; assumption; rintro e y1 ⟨rfl, hg1⟩; have z10 := hg1.cell (p := ⟨w7.heap.size, 0, none⟩) (v := (.slice pk nk ck)) (by assumption); have z11 := hg1.cell (p := ⟨w.heap.size, 0, none⟩) (v := (.slice ba na ca)) (by assumption); have z12 := hg1.cell (p := ⟨w6.heap.size, 0, none⟩) (v := (.slice pl nl cl)) (by assumption); have g1 : Gr wE y1 := Gr.trans (by assumption) hg1)
        | (go_at_call_of 28 ba; refine (HB4.out _ ?_).mono ?_; assumption; rintro e y2 ⟨rfl, hg2⟩; have z20 := hg2.cell (p := ⟨w7.heap.size, 0, none⟩) (v := (.slice pk nk ck)) (by assumption); have z21 := hg2.cell (p := ⟨w.heap.size, 0, none⟩) (v := (.slice ba na ca)) (by assumption); have z22 := hg2.cell (p := ⟨w6.heap.size, 0, none⟩) (v := (.slice pl nl cl)) (by assumption); have g2 : Gr wE y2 := Gr.trans (by assumption) hg2)))
    | fail
    all_goals (go_wp2_with fail; go_meet; exact ⟨rfl, by assumption⟩)
  case rest =>
    obtain ⟨rfl, hcut⟩ := hcut
    replace k_a := hcut.cell k_a
    replace k_p := hcut.cell k_p
    replace k_l := hcut.cell k_l
    replace k_k := hcut.cell k_k
    replace R_a := Lib.hid (R_a.out.grow hcut)
    replace R_p := Lib.hid (R_p.out.grow hcut)
    replace R_l := Lib.hid (R_l.out.grow hcut)
    replace R_k := Lib.hid (R_k.out.grow hcut)
    replace G := Lib.hid (G.out.trans hcut)
    clear hcut
    clear HS1 HB1 HB4
    clear k_k
    clear R_k
    clear k_l
    clear R_l
    go_wp2_with fail
    refine (Down_v K HK2.out (R_a.out.grow (Gr.refl wc)) HX.out).mono ?_
    rintro e w8 ⟨pr, nr, cr, rfl, hr_r, hg⟩
    replace k_a := hg.cell k_a
    replace k_p := hg.cell k_p
    have gg := (Gr.refl wc).trans hg
    replace R_a := Lib.hid (R_a.out.grow gg)
    replace R_p := Lib.hid (R_p.out.grow gg)
    replace G := Lib.hid (G.out.trans gg)
    have R_r := Lib.hid hr_r.toNw
    clear hr_r
    clear hg gg
    replace k_a := ((Gr.refl w8).alloc (.cells #[.slice pr nr cr] 24)).cell k_a
    replace k_p := ((Gr.refl w8).alloc (.cells #[.slice pr nr cr] 24)).cell k_p
    have k_r : (w8.alloc (.cells #[.slice pr nr cr] 24)).cell? ⟨w8.heap.size, 0, none⟩ = some (.slice pr nr cr) := by simp [go_sem]
    go_upto_region 18 with fail
    replace R_a := Lib.hid (R_a.out.grow ((Gr.refl w8).alloc (.cells #[.slice pr nr cr] 24)))
    replace R_p := Lib.hid (R_p.out.grow ((Gr.refl w8).alloc (.cells #[.slice pr nr cr] 24)))
    replace R_r := Lib.hid (R_r.out.grow ((Gr.refl w8).alloc (.cells #[.slice pr nr cr] 24)))
    replace G := Lib.hid (G.out.trans ((Gr.refl w8).alloc (.cells #[.slice pr nr cr] 24)))
    generalize (w8.alloc (.cells #[.slice pr nr cr] 24)) = wE at k_a k_p k_r R_a R_p R_r G ⊢
    have HB1 := Lib.hid (fun W (hW : Gr wE W) => Bits_v (w := W) (R_r.out.grow hW) HRT.out)
    rw [ER.out] at HB1
    have HB4 := Lib.hid (fun W (hW : Gr wE W) => Bits_v (w := W) (R_a.out.grow hW) HX.out)
    rw [EB.out] at HB4
    have HT1 := Lib.hid (fun W (hW : Gr wE W) => Bit_v (w := W) i HI1.out (R_r.out.grow hW) HRT.out)
    rw [bit_down] at HT1
    have HT2 := Lib.hid (fun W (hW : Gr wE W) => Bit_v (w := W) (i + K) HI2.out (R_a.out.grow hW) HX.out)
    obtain ⟨T, hT⟩ : ∃ T, x.testBit (i + K) = T := ⟨_, rfl⟩
    rw [hT] at HT1 HT2
    clear hT
    rw [Int.natCast_add] at HT2
    go_cut [131] from 21 (fun s W => s = .bool false ∧ Gr wE W)
    case first =>
      have GD : Gr wE wE.drew := (Gr.refl wE).drew
      have K0 : wE.drew.cell? ⟨w8.heap.size, 0, none⟩ = some (.slice pr nr cr) := k_r
      have K1 : wE.drew.cell? ⟨w.heap.size, 0, none⟩ = some (.slice ba na ca) := k_a
      clear k_a k_p k_r
      first
      | (go_region_held3 (fun W' => W'.cell? ⟨w8.heap.size, 0, none⟩ = some (.slice pr nr cr) ∧ W'.cell? ⟨w.heap.size, 0, none⟩ = some (.slice ba na ca) ∧ Gr wE W')
          (first | exact ⟨K0, K1, GD⟩ | (refine ⟨?_, ?_, ?_⟩ <;> assumption))
          (first
          | (go_at_call_of 28 pr; refine (HB1.out _ ?_).mono ?_; assumption; rintro e y0 ⟨rfl, hg0⟩; have z00 := hg0.cell (p := ⟨w8.heap.size, 0, none⟩) (v := (.slice pr nr cr)) (by assumption); have z01 := hg0.cell (p := ⟨w.heap.size, 0, none⟩) (v := (.slice ba na ca)) (by assumption); have g0 : Gr wE y0 := Gr.trans (by assumption) hg0)
          | (go_at_call_of 28 ba; refine (HB4.out _ ?_).mono ?_; assumption; rintro e y1 ⟨rfl, hg1⟩; have z10 := hg1.cell (p := ⟨w8.heap.size, 0, none⟩) (v := (.slice pr nr cr)) (by assumption); have z11 := hg1.cell (p := ⟨w.heap.size, 0, none⟩) (v := (.slice ba na ca)) (by assumption); have g1 : Gr wE y1 := Gr.trans (by assumption) hg1)
          | (go_at_call_of 29 pr; refine (HT1.out _ ?_).mono ?_; assumption; rintro e y2 ⟨rfl, hg2⟩; have z20 := hg2.cell (p := ⟨w8.heap.size, 0, none⟩) (v := (.slice pr nr cr)) (by assumption); have z21 := hg2.cell (p := ⟨w.heap.size, 0, none⟩) (v := (.slice ba na ca)) (by assumption); have g2 : Gr wE y2 := Gr.trans (by assumption) hg2)
          | (go_at_call_of 29 ba; refine (HT2.out _ ?_).mono ?_; assumption; rintro e y3 ⟨rfl, hg3⟩; have z30 := hg3.cell (p := ⟨w8.heap.size, 0, none⟩) (v := (.slice pr nr cr)) (by assumption); have z31 := hg3.cell (p := ⟨w.heap.size, 0, none⟩) (v := (.slice ba na ca)) (by assumption); have g3 : Gr wE y3 := Gr.trans (by assumption) hg3)))
      | fail
      all_goals (go_wp2_with fail; go_meet; exact ⟨rfl, by assumption⟩)
    case rest =>
      obtain ⟨rfl, hcut⟩ := hcut
      replace k_a := hcut.cell k_a
      replace k_p := hcut.cell k_p
      replace k_r := hcut.cell k_r
      replace R_a := Lib.hid (R_a.out.grow hcut)
      replace R_p := Lib.hid (R_p.out.grow hcut)
      replace R_r := Lib.hid (R_r.out.grow hcut)
      replace G := Lib.hid (G.out.trans hcut)
      clear hcut
      clear HB1 HB4 HT1 HT2
      have hz : nr = 0 := by rw [← R_r.out.len, HZ.out, digs_zero]; rfl
      subst hz
      go_wp2
      go_ret
      exact ⟨rfl, G.out⟩

set_option maxRecDepth 100000 in
set_option maxHeartbeats 40000000 in
theorem ok_great_big (w : World) (ba : Option Addr) (na ca n i : Nat) (x K : Nat) (hx : x < pw 64) (hK : n % 2100 = K) (hn : n < 65536) (hi : i < 65536) (ha : Nw w ba na ca (digs x)) (sa : na ≤ 100) (hs : 2048 ≤ K) (hf : pw 64 ≤ x * 2 ^ K) : Calls Try.prog 8 #[.agg #[.slice ba na ca], .int .u16 (n : Int), .int .u16 (i : Int)] w fun e w' => e = .returned (.bool true) ∧ Gr w w' := by
  have HX := Lib.hid hx
  have HK2 : Hid (K ≤ 10000) := Lib.hid (by omega)
  have R_a := Lib.hid ha
  have SA := Lib.hid sa
  have HB2 := Lib.hid (nb_bound hx)
  obtain ⟨B, hB⟩ : ∃ B, nb x = B := ⟨_, rfl⟩
  rw [hB] at HB2
  have EB := Lib.hid hB
  obtain ⟨R, hR⟩ : ∃ R, nb (x / 2 ^ K) = R := ⟨_, rfl⟩
  have ER := Lib.hid hR
  have hR2 : R = B - K := by rw [← hR, ← hB]; exact nb_down x K
  have hB3 := HB2.out
  have tm : (n : Int).tmod 2100 = (K : Int) := by rw [Int.tmod_eq_emod_of_nonneg (by omega)]; omega
  have em : (n : Int) % 2100 = (K : Int) := by omega
  have wn : IntKind.i64.wrap (n : Int) = (n : Int) := IntWalk.i64_in _ (by omega)
  have wi : IntKind.i64.wrap (i : Int) = (i : Int) := IntWalk.i64_in _ (by omega)
  have wK : IntKind.i64.wrap (K : Int) = (K : Int) := IntWalk.i64_in _ (by omega)
  have wnK : IntKind.i64.wrap (-(K : Int)) = -(K : Int) := IntWalk.i64_in _ (by omega)
  have wBK : IntKind.i64.wrap ((B : Int) + (K : Int)) = (B : Int) + (K : Int) := IntWalk.i64_in _ (by omega)
  have wiK : IntKind.i64.wrap ((i : Int) + (K : Int)) = (i : Int) + (K : Int) := IntWalk.i64_in _ (by omega)
  obtain ⟨D, hD⟩ : ∃ D : Int, (B : Int) - (K : Int) = D := ⟨_, rfl⟩
  have wD : IntKind.i64.wrap D = D := IntWalk.i64_in _ (by omega)
  have wBD : IntKind.i64.wrap ((B : Int) - (K : Int)) = D := by rw [hD]; exact wD
  have m1 : max 0 D = (R : Int) := by omega
  have m2 : (if (0 : Int) < D then D else 0) = (R : Int) := by split <;> omega
  have HI2 : Hid (i + K < 9223372036854775808) := Lib.hid (by omega)
  have HI1 : Hid (i < 9223372036854775808) := Lib.hid (by omega)
  have lk : ¬ (K : Int) < 2048 := by omega
  have HP : Hid (Fits (1 * 2 ^ K) 0 9) := Lib.hid (.inr ⟨by rw [Nat.one_mul]; exact power_big hs, rfl, rfl⟩)
  have HZ := Lib.hid (down_zero hx hs)
  have HF : Hid (Fits (x * 2 ^ K) 0 9) := Lib.hid (.inr ⟨hf, rfl, rfl⟩)
  have hbig : ¬ (B : Int) + (K : Int) ≤ 2048 := by have := nb_big hf; omega
  have HRT := Lib.hid (Nat.lt_of_le_of_lt (Nat.div_le_self x (2 ^ K)) hx)
  have G := Lib.hid (Gr.refl w)
  clear hx ha sa hB hR hR2 hB3 hD hs hK hn hi hf
  have k_a : (w.alloc (.cells #[.slice ba na ca] 24)).cell? ⟨w.heap.size, 0, none⟩ = some (.slice ba na ca) := by simp [go_sem]
  go_enter Try.func8, Try.ntmps8
  go_wp2_with fail
  refine (awake_any _).mono ?_
  rintro e w1 ⟨rfl, hg⟩
  replace k_a := hg.cell k_a
  have gg := ((Gr.refl w).alloc (.cells #[.slice ba na ca] 24)).trans hg
  replace R_a := Lib.hid (R_a.out.grow gg)
  replace G := Lib.hid (G.out.trans gg)
  clear hg gg
  have sa := SA.out
  go_wp2_with fail
  replace k_a := ((Gr.refl w1).alloc (.cells #[.slice ba na ca] 24)).cell k_a
  refine (great_no (n := 1) (c := 1) rfl (by decide) (nats1 w1 ba na ca) (le1 sa)).mono ?_
  rintro e w2 ⟨rfl, hg⟩
  replace k_a := hg.cell k_a
  have gg := ((Gr.refl w1).alloc (.cells #[.slice ba na ca] 24)).trans hg
  replace R_a := Lib.hid (R_a.out.grow gg)
  replace G := Lib.hid (G.out.trans gg)
  clear hg gg
  clear sa
  go_wp2_with fail
  refine (RValid_v (R_a.out.grow (Gr.refl w2)) HX.out).mono ?_
  rintro e w3 ⟨rfl, hg⟩
  replace k_a := hg.cell k_a
  have gg := (Gr.refl w2).trans hg
  replace R_a := Lib.hid (R_a.out.grow gg)
  replace G := Lib.hid (G.out.trans gg)
  clear hg gg
  go_wp2_with fail
  refine (Of_v (x := 1) (by decide)).mono ?_
  rintro e w4 ⟨p1, n1, c1, rfl, hr_one, hg⟩
  replace k_a := hg.cell k_a
  have gg := (Gr.refl w3).trans hg
  replace R_a := Lib.hid (R_a.out.grow gg)
  replace G := Lib.hid (G.out.trans gg)
  have R_one := Lib.hid hr_one.toNw
  clear hr_one
  clear hg gg
  replace k_a := ((Gr.refl w4).alloc (.cells #[.slice p1 n1 c1] 24)).cell k_a
  have k_one : (w4.alloc (.cells #[.slice p1 n1 c1] 24)).cell? ⟨w4.heap.size, 0, none⟩ = some (.slice p1 n1 c1) := by simp [go_sem]
  go_wp2_with fail
  refine (Up_v 0 9 K HK2.out HP.out (R_one.out.grow ((Gr.refl w4).alloc (.cells #[.slice p1 n1 c1] 24))) (dv_small (by decide))).mono ?_
  rintro e w5 ⟨pp, np, cp, rfl, hr_p, hg⟩
  replace k_a := hg.cell k_a
  replace k_one := hg.cell k_one
  have gg := ((Gr.refl w4).alloc (.cells #[.slice p1 n1 c1] 24)).trans hg
  replace R_a := Lib.hid (R_a.out.grow gg)
  replace R_one := Lib.hid (R_one.out.grow gg)
  replace G := Lib.hid (G.out.trans gg)
  have R_p := Lib.hid hr_p.toNw
  clear hr_p
  clear hg gg
  replace k_a := ((Gr.refl w5).alloc (.cells #[.slice pp np cp] 24)).cell k_a
  replace k_one := ((Gr.refl w5).alloc (.cells #[.slice pp np cp] 24)).cell k_one
  have k_p : (w5.alloc (.cells #[.slice pp np cp] 24)).cell? ⟨w5.heap.size, 0, none⟩ = some (.slice pp np cp) := by simp [go_sem]
  clear k_one
  clear R_one
  go_wp2_with fail
  refine (Up_v 0 9 K HK2.out HF.out (R_a.out.grow ((Gr.refl w5).alloc (.cells #[.slice pp np cp] 24))) HX.out).mono ?_
  rintro e w6 ⟨pl, nl, cl, rfl, hr_l, hg⟩
  replace k_a := hg.cell k_a
  replace k_p := hg.cell k_p
  have gg := ((Gr.refl w5).alloc (.cells #[.slice pp np cp] 24)).trans hg
  replace R_a := Lib.hid (R_a.out.grow gg)
  replace R_p := Lib.hid (R_p.out.grow gg)
  replace G := Lib.hid (G.out.trans gg)
  have R_l := Lib.hid hr_l.toNw
  clear hr_l
  clear hg gg
  replace k_a := ((Gr.refl w6).alloc (.cells #[.slice pl nl cl] 24)).cell k_a
  replace k_p := ((Gr.refl w6).alloc (.cells #[.slice pl nl cl] 24)).cell k_p
  have k_l : (w6.alloc (.cells #[.slice pl nl cl] 24)).cell? ⟨w6.heap.size, 0, none⟩ = some (.slice pl nl cl) := by simp [go_sem]
  go_wp2_with fail
  refine (Bits_v (R_a.out.grow ((Gr.refl w6).alloc (.cells #[.slice pl nl cl] 24))) HX.out).mono ?_
  rintro e w7 ⟨rfl, hg⟩
  replace k_a := hg.cell k_a
  replace k_p := hg.cell k_p
  replace k_l := hg.cell k_l
  have gg := ((Gr.refl w6).alloc (.cells #[.slice pl nl cl] 24)).trans hg
  replace R_a := Lib.hid (R_a.out.grow gg)
  replace R_p := Lib.hid (R_p.out.grow gg)
  replace R_l := Lib.hid (R_l.out.grow gg)
  replace G := Lib.hid (G.out.trans gg)
  clear hg gg
  rw [EB.out]
  clear k_l
  clear R_l
  go_wp2_with fail
  refine (Down_v K HK2.out (R_a.out.grow (Gr.refl w7)) HX.out).mono ?_
  rintro e w8 ⟨pr, nr, cr, rfl, hr_r, hg⟩
  replace k_a := hg.cell k_a
  replace k_p := hg.cell k_p
  have gg := (Gr.refl w7).trans hg
  replace R_a := Lib.hid (R_a.out.grow gg)
  replace R_p := Lib.hid (R_p.out.grow gg)
  replace G := Lib.hid (G.out.trans gg)
  have R_r := Lib.hid hr_r.toNw
  clear hr_r
  clear hg gg
  replace k_a := ((Gr.refl w8).alloc (.cells #[.slice pr nr cr] 24)).cell k_a
  replace k_p := ((Gr.refl w8).alloc (.cells #[.slice pr nr cr] 24)).cell k_p
  have k_r : (w8.alloc (.cells #[.slice pr nr cr] 24)).cell? ⟨w8.heap.size, 0, none⟩ = some (.slice pr nr cr) := by simp [go_sem]
  go_upto_region 18 with fail
  replace R_a := Lib.hid (R_a.out.grow ((Gr.refl w8).alloc (.cells #[.slice pr nr cr] 24)))
  replace R_p := Lib.hid (R_p.out.grow ((Gr.refl w8).alloc (.cells #[.slice pr nr cr] 24)))
  replace R_r := Lib.hid (R_r.out.grow ((Gr.refl w8).alloc (.cells #[.slice pr nr cr] 24)))
  replace G := Lib.hid (G.out.trans ((Gr.refl w8).alloc (.cells #[.slice pr nr cr] 24)))
  generalize (w8.alloc (.cells #[.slice pr nr cr] 24)) = wE at k_a k_p k_r R_a R_p R_r G ⊢
  have HB1 := Lib.hid (fun W (hW : Gr wE W) => Bits_v (w := W) (R_r.out.grow hW) HRT.out)
  rw [ER.out] at HB1
  have HB4 := Lib.hid (fun W (hW : Gr wE W) => Bits_v (w := W) (R_a.out.grow hW) HX.out)
  rw [EB.out] at HB4
  have HT1 := Lib.hid (fun W (hW : Gr wE W) => Bit_v (w := W) i HI1.out (R_r.out.grow hW) HRT.out)
  rw [bit_down] at HT1
  have HT2 := Lib.hid (fun W (hW : Gr wE W) => Bit_v (w := W) (i + K) HI2.out (R_a.out.grow hW) HX.out)
  obtain ⟨T, hT⟩ : ∃ T, x.testBit (i + K) = T := ⟨_, rfl⟩
  rw [hT] at HT1 HT2
  clear hT
  rw [Int.natCast_add] at HT2
  go_cut [131] from 21 (fun s W => s = .bool false ∧ Gr wE W)
  case first =>
    have GD : Gr wE wE.drew := (Gr.refl wE).drew
    have K0 : wE.drew.cell? ⟨w8.heap.size, 0, none⟩ = some (.slice pr nr cr) := k_r
    have K1 : wE.drew.cell? ⟨w.heap.size, 0, none⟩ = some (.slice ba na ca) := k_a
    clear k_a k_p k_r
    first
    | (go_region_held3 (fun W' => W'.cell? ⟨w8.heap.size, 0, none⟩ = some (.slice pr nr cr) ∧ W'.cell? ⟨w.heap.size, 0, none⟩ = some (.slice ba na ca) ∧ Gr wE W')
        (first | exact ⟨K0, K1, GD⟩ | (refine ⟨?_, ?_, ?_⟩ <;> assumption))
        (first
        | (go_at_call_of 28 pr; refine (HB1.out _ ?_).mono ?_; assumption; rintro e y0 ⟨rfl, hg0⟩; have z00 := hg0.cell (p := ⟨w8.heap.size, 0, none⟩) (v := (.slice pr nr cr)) (by assumption); have z01 := hg0.cell (p := ⟨w.heap.size, 0, none⟩) (v := (.slice ba na ca)) (by assumption); have g0 : Gr wE y0 := Gr.trans (by assumption) hg0)
        | (go_at_call_of 28 ba; refine (HB4.out _ ?_).mono ?_; assumption; rintro e y1 ⟨rfl, hg1⟩; have z10 := hg1.cell (p := ⟨w8.heap.size, 0, none⟩) (v := (.slice pr nr cr)) (by assumption); have z11 := hg1.cell (p := ⟨w.heap.size, 0, none⟩) (v := (.slice ba na ca)) (by assumption); have g1 : Gr wE y1 := Gr.trans (by assumption) hg1)
        | (go_at_call_of 29 pr; refine (HT1.out _ ?_).mono ?_; assumption; rintro e y2 ⟨rfl, hg2⟩; have z20 := hg2.cell (p := ⟨w8.heap.size, 0, none⟩) (v := (.slice pr nr cr)) (by assumption); have z21 := hg2.cell (p := ⟨w.heap.size, 0, none⟩) (v := (.slice ba na ca)) (by assumption); have g2 : Gr wE y2 := Gr.trans (by assumption) hg2)
        | (go_at_call_of 29 ba; refine (HT2.out _ ?_).mono ?_; assumption; rintro e y3 ⟨rfl, hg3⟩; have z30 := hg3.cell (p := ⟨w8.heap.size, 0, none⟩) (v := (.slice pr nr cr)) (by assumption); have z31 := hg3.cell (p := ⟨w.heap.size, 0, none⟩) (v := (.slice ba na ca)) (by assumption); have g3 : Gr wE y3 := Gr.trans (by assumption) hg3)))
    | fail
    all_goals (go_wp2_with fail; go_meet; exact ⟨rfl, by assumption⟩)
  case rest =>
    obtain ⟨rfl, hcut⟩ := hcut
    replace k_a := hcut.cell k_a
    replace k_p := hcut.cell k_p
    replace k_r := hcut.cell k_r
    replace R_a := Lib.hid (R_a.out.grow hcut)
    replace R_p := Lib.hid (R_p.out.grow hcut)
    replace R_r := Lib.hid (R_r.out.grow hcut)
    replace G := Lib.hid (G.out.trans hcut)
    clear hcut
    clear HB1 HB4 HT1 HT2
    have hz : nr = 0 := by rw [← R_r.out.len, HZ.out, digs_zero]; rfl
    subst hz
    go_wp2
    go_ret
    exact ⟨rfl, G.out⟩

theorem NaturalShifts (w : World) (ba : Option Addr) (na ca : Nat) (n i : Int) (h1 : Nin w ba na ca) (wn : (Lit.int .u16 n).wf = true) (wi : (Lit.int .u16 i).wf = true) :
    Calls Try.prog 8 #[.agg #[.slice ba na ca], .int .u16 n, .int .u16 i] w fun e w' => e = .returned (.bool true) ∧ Gr w w' := by
  obtain ⟨n1, n2⟩ := u16_lt wn
  obtain ⟨i1, i2⟩ := u16_lt wi
  obtain ⟨n, rfl⟩ := Int.eq_ofNat_of_zero_le n1
  obtain ⟨i, rfl⟩ := Int.eq_ofNat_of_zero_le i1
  by_cases g1 : 100 < na
  · exact great w ba na ca n i g1
  have sa : na ≤ 100 := by omega
  obtain ⟨la, ha⟩ := h1.nw (by omega)
  cases va : decide (valid la) with
  | false => exact bad w ba na ca n i la ha va sa
  | true =>
    obtain ⟨x, hx, rfl⟩ := nw_value ha va
    have hK : n % 2100 = n % 2100 := rfl
    have hn : n < 65536 := by omega
    have hi : i < 65536 := by omega
    rcases Nat.eq_zero_or_pos x with h0 | h0
    · have hna : na = 0 := by rw [← ha.len, h0, digs_zero]; rfl
      subst hna
      rcases Nat.lt_or_ge (n % 2100) 2048 with hs | hs
      · exact ok_small_zero w ba ca n i x _ hx hK hn hi ha sa hs h0
      · exact ok_great_zero w ba ca n i x _ hx hK hn hi ha sa hs h0
    · rcases Nat.lt_or_ge (x * 2 ^ (n % 2100)) (pw 64) with hf | hf
      · rcases Nat.lt_or_ge (n % 2100) 2048 with hs | hs
        · exact ok_small_pos w ba na ca n i x _ hx hK hn hi ha sa hs h0 hf
        · exact ok_great_pos w ba na ca n i x _ hx hK hn hi ha sa hs h0 hf
      · rcases Nat.lt_or_ge (n % 2100) 2048 with hs | hs
        · exact ok_small_big w ba na ca n i x _ hx hK hn hi ha sa hs hf
        · exact ok_great_big w ba na ca n i x _ hx hK hn hi ha sa hs hf
end Go.Proofs.Ytiefnhpbniaklaa.Nlshifts
