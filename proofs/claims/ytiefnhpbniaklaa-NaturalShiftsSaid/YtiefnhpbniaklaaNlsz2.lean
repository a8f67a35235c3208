/- The walk of NaturalShifts: shifts are powers of 2. -/
import Derived.Test.YtiefnhpbniaklaaNshm
import Derived.Deep.RegionHeld3
import Derived.Deep.Cut
namespace Go.Proofs.Ytiefnhpbniaklaa.Nlshifts
open Go.RowKit Go.Shelf Go.Proofs.Ytiefnhpbniaklaa.Nm Go.Proofs.Ytiefnhpbniaklaa.Ne Go.Proofs.Ytiefnhpbniaklaa.Nf Go.Proofs.Ytiefnhpbniaklaa.Nk Go.Proofs.Ytiefnhpbniaklaa.Nv Go.Proofs.Ytiefnhpbniaklaa.Nl

set_option maxRecDepth 100000 in
set_option maxHeartbeats 40000000 in
theorem ok_great_zero (w : World) (ba : Option Addr) (ca n i : Nat) (x K : Nat) (hx : x < pw 64) (hK : n % 2100 = K) (hn : n < 65536) (hi : i < 65536) (ha : Nw w ba 0 ca (digs x)) (sa : 0 ≤ 100) (hs : 2048 ≤ K) (h0 : x = 0) : Calls Try.prog 8 #[.agg #[.slice ba 0 ca], .int .u16 (n : Int), .int .u16 (i : Int)] w fun e w' => e = .returned (.bool true) ∧ Gr w w' := by
  have HX := Lib.hid hx
  have HK2 : Hid (K ≤ 10000) := Lib.hid (by omega)
  have R_a := Lib.hid ha
  have SA := Lib.hid sa
  have HB2 := Lib.hid (nb_bound hx)
  obtain ⟨B, hB⟩ : ∃ B, nb x = B := ⟨_, rfl⟩
  rw [hB] at HB2
  have EB := Lib.hid hB
  obtain ⟨R, hR⟩ : ∃ R, nb (x / 2 ^ K) = R := ⟨_, rfl⟩
  have ER := Lib.hid hR
  have hR2 : R = B - K := by rw [← hR, ← hB]; exact nb_down x K
  have hB3 := HB2.out
  have tm : (n : Int).tmod 2100 = (K : Int) := by rw [Int.tmod_eq_emod_of_nonneg (by omega)]; omega
  have em : (n : Int) % 2100 = (K : Int) := by omega
  have wn : IntKind.i64.wrap (n : Int) = (n : Int) := IntWalk.i64_in _ (by omega)
  have wi : IntKind.i64.wrap (i : Int) = (i : Int) := IntWalk.i64_in _ (by omega)
  have wK : IntKind.i64.wrap (K : Int) = (K : Int) := IntWalk.i64_in _ (by omega)
  have wnK : IntKind.i64.wrap (-(K : Int)) = -(K : Int) := IntWalk.i64_in _ (by omega)
  have wBK : IntKind.i64.wrap ((B : Int) + (K : Int)) = (B : Int) + (K : Int) := IntWalk.i64_in _ (by omega)
  have wiK : IntKind.i64.wrap ((i : Int) + (K : Int)) = (i : Int) + (K : Int) := IntWalk.i64_in _ (by omega)
  obtain ⟨D, hD⟩ : ∃ D : Int, (B : Int) - (K : Int) = D := ⟨_, rfl⟩
  have wD : IntKind.i64.wrap D = D := IntWalk.i64_in _ (by omega)
  have wBD : IntKind.i64.wrap ((B : Int) - (K : Int)) = D := by rw [hD]; exact wD
  have m1 : max 0 D = (R : Int) := by omega
  have m2 : (if (0 : Int) < D then D else 0) = (R : Int) := by split <;> omega
  have HI2 : Hid (i + K < 9223372036854775808) := Lib.hid (by omega)
  have HI1 : Hid (i < 9223372036854775808) := Lib.hid (by omega)
  have lk : ¬ (K : Int) < 2048 := by omega
  have HP : Hid (Fits (1 * 2 ^ K) 0 9) := Lib.hid (.inr ⟨by rw [Nat.one_mul]; exact power_big hs, rfl, rfl⟩)
  have HZ := Lib.hid (down_zero hx hs)
  have HF : Hid (Fits (x * 2 ^ K) 0 0) := Lib.hid (by subst h0; rw [Nat.zero_mul]; exact .inl ⟨pw_pos 64, rfl, rfl⟩)
  have HBK : Hid (0 / 2 ^ K = x) := Lib.hid (by rw [h0]; exact Nat.zero_div _)
  have HRT := Lib.hid (Nat.lt_of_le_of_lt (Nat.div_le_self x (2 ^ K)) hx)
  have G := Lib.hid (Gr.refl w)
  clear hx ha sa hB hR hR2 hB3 hD hs hK hn hi h0
  have k_a : (w.alloc (.cells #[.slice ba 0 ca] 24)).cell? ⟨w.heap.size, 0, none⟩ = some (.slice ba 0 ca) := by simp [go_sem]
  go_enter Try.func8, Try.ntmps8
  go_wp2_with fail
  refine (awake_any _).mono ?_
  rintro e w1 ⟨rfl, hg⟩
  replace k_a := hg.cell k_a
  have gg := ((Gr.refl w).alloc (.cells #[.slice ba 0 ca] 24)).trans hg
  replace R_a := Lib.hid (R_a.out.grow gg)
  replace G := Lib.hid (G.out.trans gg)
  clear hg gg
  have sa := SA.out
  go_wp2_with fail
  replace k_a := ((Gr.refl w1).alloc (.cells #[.slice ba 0 ca] 24)).cell k_a
  refine (great_no (n := 1) (c := 1) rfl (by decide) (nats1 w1 ba 0 ca) (le1 sa)).mono ?_
  rintro e w2 ⟨rfl, hg⟩
  replace k_a := hg.cell k_a
  have gg := ((Gr.refl w1).alloc (.cells #[.slice ba 0 ca] 24)).trans hg
  replace R_a := Lib.hid (R_a.out.grow gg)
  replace G := Lib.hid (G.out.trans gg)
  clear hg gg
  clear sa
  go_wp2_with fail
  refine (RValid_v (R_a.out.grow (Gr.refl w2)) HX.out).mono ?_
  rintro e w3 ⟨rfl, hg⟩
  replace k_a := hg.cell k_a
  have gg := (Gr.refl w2).trans hg
  replace R_a := Lib.hid (R_a.out.grow gg)
  replace G := Lib.hid (G.out.trans gg)
  clear hg gg
  go_wp2_with fail
  refine (Of_v (x := 1) (by decide)).mono ?_
  rintro e w4 ⟨p1, n1, c1, rfl, hr_one, hg⟩
  replace k_a := hg.cell k_a
  have gg := (Gr.refl w3).trans hg
  replace R_a := Lib.hid (R_a.out.grow gg)
  replace G := Lib.hid (G.out.trans gg)
  have R_one := Lib.hid hr_one.toNw
  clear hr_one
  clear hg gg
  replace k_a := ((Gr.refl w4).alloc (.cells #[.slice p1 n1 c1] 24)).cell k_a
  have k_one : (w4.alloc (.cells #[.slice p1 n1 c1] 24)).cell? ⟨w4.heap.size, 0, none⟩ = some (.slice p1 n1 c1) := by simp [go_sem]
  go_wp2_with fail
  refine (Up_v 0 9 K HK2.out HP.out (R_one.out.grow ((Gr.refl w4).alloc (.cells #[.slice p1 n1 c1] 24))) (dv_small (by decide))).mono ?_
  rintro e w5 ⟨pp, np, cp, rfl, hr_p, hg⟩
  replace k_a := hg.cell k_a
  replace k_one := hg.cell k_one
  have gg := ((Gr.refl w4).alloc (.cells #[.slice p1 n1 c1] 24)).trans hg
  replace R_a := Lib.hid (R_a.out.grow gg)
  replace R_one := Lib.hid (R_one.out.grow gg)
  replace G := Lib.hid (G.out.trans gg)
  have R_p := Lib.hid hr_p.toNw
  clear hr_p
  clear hg gg
  replace k_a := ((Gr.refl w5).alloc (.cells #[.slice pp np cp] 24)).cell k_a
  replace k_one := ((Gr.refl w5).alloc (.cells #[.slice pp np cp] 24)).cell k_one
  have k_p : (w5.alloc (.cells #[.slice pp np cp] 24)).cell? ⟨w5.heap.size, 0, none⟩ = some (.slice pp np cp) := by simp [go_sem]
  clear k_one
  clear R_one
  go_wp2_with fail
  refine (Up_v 0 0 K HK2.out HF.out (R_a.out.grow ((Gr.refl w5).alloc (.cells #[.slice pp np cp] 24))) HX.out).mono ?_
  rintro e w6 ⟨pl, nl, cl, rfl, hr_l, hg⟩
  replace k_a := hg.cell k_a
  replace k_p := hg.cell k_p
  have gg := ((Gr.refl w5).alloc (.cells #[.slice pp np cp] 24)).trans hg
  replace R_a := Lib.hid (R_a.out.grow gg)
  replace R_p := Lib.hid (R_p.out.grow gg)
  replace G := Lib.hid (G.out.trans gg)
  have R_l := Lib.hid hr_l.toNw
  clear hr_l
  clear hg gg
  replace k_a := ((Gr.refl w6).alloc (.cells #[.slice pl nl cl] 24)).cell k_a
  replace k_p := ((Gr.refl w6).alloc (.cells #[.slice pl nl cl] 24)).cell k_p
  have k_l : (w6.alloc (.cells #[.slice pl nl cl] 24)).cell? ⟨w6.heap.size, 0, none⟩ = some (.slice pl nl cl) := by simp [go_sem]
  go_wp2_with fail
  refine (Down_v K HK2.out (R_l.out.grow ((Gr.refl w6).alloc (.cells #[.slice pl nl cl] 24))) (pw_pos 64)).mono ?_
  rintro e w7 ⟨pk, nk, ck, rfl, hr_k, hg⟩
  replace k_a := hg.cell k_a
  replace k_p := hg.cell k_p
  replace k_l := hg.cell k_l
  have gg := ((Gr.refl w6).alloc (.cells #[.slice pl nl cl] 24)).trans hg
  replace R_a := Lib.hid (R_a.out.grow gg)
  replace R_p := Lib.hid (R_p.out.grow gg)
  replace R_l := Lib.hid (R_l.out.grow gg)
  replace G := Lib.hid (G.out.trans gg)
  have R_k := Lib.hid hr_k.toNw
  clear hr_k
  clear hg gg
  replace k_a := ((Gr.refl w7).alloc (.cells #[.slice pk nk ck] 24)).cell k_a
  replace k_p := ((Gr.refl w7).alloc (.cells #[.slice pk nk ck] 24)).cell k_p
  replace k_l := ((Gr.refl w7).alloc (.cells #[.slice pk nk ck] 24)).cell k_l
  have k_k : (w7.alloc (.cells #[.slice pk nk ck] 24)).cell? ⟨w7.heap.size, 0, none⟩ = some (.slice pk nk ck) := by simp [go_sem]
  go_upto_region 13 with fail
  replace R_a := Lib.hid (R_a.out.grow ((Gr.refl w7).alloc (.cells #[.slice pk nk ck] 24)))
  replace R_p := Lib.hid (R_p.out.grow ((Gr.refl w7).alloc (.cells #[.slice pk nk ck] 24)))
  replace R_l := Lib.hid (R_l.out.grow ((Gr.refl w7).alloc (.cells #[.slice pk nk ck] 24)))
  replace R_k := Lib.hid (R_k.out.grow ((Gr.refl w7).alloc (.cells #[.slice pk nk ck] 24)))
  replace G := Lib.hid (G.out.trans ((Gr.refl w7).alloc (.cells #[.slice pk nk ck] 24)))
  generalize (w7.alloc (.cells #[.slice pk nk ck] 24)) = wE at k_a k_p k_l k_k R_a R_p R_l R_k G ⊢
  rw [HBK.out] at R_k
  have HS1 := Lib.hid (fun W (hW : Gr wE W) => Same_v_eq (w := W) rfl (R_k.out.grow hW) (R_a.out.grow hW))
  go_cut [90] from 21 (fun s W => s = .bool false ∧ Gr wE W)
  case first =>
    have GD : Gr wE wE.drew := (Gr.refl wE).drew
    have K0 : wE.drew.cell? ⟨w7.heap.size, 0, none⟩ = some (.slice pk nk ck) := k_k
    have K1 : wE.drew.cell? ⟨w.heap.size, 0, none⟩ = some (.slice ba 0 ca) := k_a
    clear k_a k_p k_l k_k
    first
    | (go_region_with (go_at_call_of 42 pk; refine (HS1.out _ ?_).mono ?_; assumption; rintro e y0 ⟨rfl, hg0⟩; have z0 := hg0.cell (p := ⟨w7.heap.size, 0, none⟩) (v := (.slice pk nk ck)) (by assumption); have z1 := hg0.cell (p := ⟨w.heap.size, 0, none⟩) (v := (.slice ba 0 ca)) (by assumption); have g0 : Gr wE y0 := Gr.trans (by assumption) hg0))
    | fail
    all_goals (go_wp2_with fail; go_meet; exact ⟨rfl, by assumption⟩)
  case rest =>
    obtain ⟨rfl, hcut⟩ := hcut
    replace k_a := hcut.cell k_a
    replace k_p := hcut.cell k_p
    replace k_l := hcut.cell k_l
    replace k_k := hcut.cell k_k
    replace R_a := Lib.hid (R_a.out.grow hcut)
    replace R_p := Lib.hid (R_p.out.grow hcut)
    replace R_l := Lib.hid (R_l.out.grow hcut)
    replace R_k := Lib.hid (R_k.out.grow hcut)
    replace G := Lib.hid (G.out.trans hcut)
    clear hcut
    clear HS1
    clear k_k
    clear R_k
    clear k_l
    clear R_l
    go_wp2_with fail
    refine (Down_v K HK2.out (R_a.out.grow (Gr.refl wc)) HX.out).mono ?_
    rintro e w8 ⟨pr, nr, cr, rfl, hr_r, hg⟩
    replace k_a := hg.cell k_a
    replace k_p := hg.cell k_p
    have gg := (Gr.refl wc).trans hg
    replace R_a := Lib.hid (R_a.out.grow gg)
    replace R_p := Lib.hid (R_p.out.grow gg)
    replace G := Lib.hid (G.out.trans gg)
    have R_r := Lib.hid hr_r.toNw
    clear hr_r
    clear hg gg
    replace k_a := ((Gr.refl w8).alloc (.cells #[.slice pr nr cr] 24)).cell k_a
    replace k_p := ((Gr.refl w8).alloc (.cells #[.slice pr nr cr] 24)).cell k_p
    have k_r : (w8.alloc (.cells #[.slice pr nr cr] 24)).cell? ⟨w8.heap.size, 0, none⟩ = some (.slice pr nr cr) := by simp [go_sem]
    go_upto_region 18 with fail
    replace R_a := Lib.hid (R_a.out.grow ((Gr.refl w8).alloc (.cells #[.slice pr nr cr] 24)))
    replace R_p := Lib.hid (R_p.out.grow ((Gr.refl w8).alloc (.cells #[.slice pr nr cr] 24)))
    replace R_r := Lib.hid (R_r.out.grow ((Gr.refl w8).alloc (.cells #[.slice pr nr cr] 24)))
    replace G := Lib.hid (G.out.trans ((Gr.refl w8).alloc (.cells #[.slice pr nr cr] 24)))
    generalize (w8.alloc (.cells #[.slice pr nr cr] 24)) = wE at k_a k_p k_r R_a R_p R_r G ⊢
    have HB1 := Lib.hid (fun W (hW : Gr wE W) => Bits_v (w := W) (R_r.out.grow hW) HRT.out)
    rw [ER.out] at HB1
    have HB4 := Lib.hid (fun W (hW : Gr wE W) => Bits_v (w := W) (R_a.out.grow hW) HX.out)
    rw [EB.out] at HB4
    have HT1 := Lib.hid (fun W (hW : Gr wE W) => Bit_v (w := W) i HI1.out (R_r.out.grow hW) HRT.out)
    rw [bit_down] at HT1
    have HT2 := Lib.hid (fun W (hW : Gr wE W) => Bit_v (w := W) (i + K) HI2.out (R_a.out.grow hW) HX.out)
    obtain ⟨T, hT⟩ : ∃ T, x.testBit (i + K) = T := ⟨_, rfl⟩
    rw [hT] at HT1 HT2
    clear hT
    rw [Int.natCast_add] at HT2
    go_cut [131] from 21 (fun s W => s = .bool false ∧ Gr wE W)
    case first =>
      have GD : Gr wE wE.drew := (Gr.refl wE).drew
      have K0 : wE.drew.cell? ⟨w8.heap.size, 0, none⟩ = some (.slice pr nr cr) := k_r
      have K1 : wE.drew.cell? ⟨w.heap.size, 0, none⟩ = some (.slice ba 0 ca) := k_a
      clear k_a k_p k_r
      first
      | (go_region_held3 (fun W' => W'.cell? ⟨w8.heap.size, 0, none⟩ = some (.slice pr nr cr) ∧ W'.cell? ⟨w.heap.size, 0, none⟩ = some (.slice ba 0 ca) ∧ Gr wE W')
          (first | exact ⟨K0, K1, GD⟩ | (refine ⟨?_, ?_, ?_⟩ <;> assumption))
          (first
          | (go_at_call_of 28 pr; refine (HB1.out _ ?_).mono ?_; assumption; rintro e y0 ⟨rfl, hg0⟩; have z00 := hg0.cell (p := ⟨w8.heap.size, 0, none⟩) (v := (.slice pr nr cr)) (by assumption); have z01 := hg0.cell (p := ⟨w.heap.size, 0, none⟩) (v := (.slice ba 0 ca)) (by assumption); have g0 : Gr wE y0 := Gr.trans (by assumption) hg0)
          | (go_at_call_of 28 ba; refine (HB4.out _ ?_).mono ?_; assumption; rintro e y1 ⟨rfl, hg1⟩; have z10 := hg1.cell (p := ⟨w8.heap.size, 0, none⟩) (v := (.slice pr nr cr)) (by assumption); have z11 := hg1.cell (p := ⟨w.heap.size, 0, none⟩) (v := (.slice ba 0 ca)) (by assumption); have g1 : Gr wE y1 := Gr.trans (by assumption) hg1)
          | (go_at_call_of 29 pr; refine (HT1.out _ ?_).mono ?_; assumption; rintro e y2 ⟨rfl, hg2⟩; have z20 := hg2.cell (p := ⟨w8.heap.size, 0, none⟩) (v := (.slice pr nr cr)) (by assumption); have z21 := hg2.cell (p := ⟨w.heap.size, 0, none⟩) (v := (.slice ba 0 ca)) (by assumption); have g2 : Gr wE y2 := Gr.trans (by assumption) hg2)
          | (go_at_call_of 29 ba; refine (HT2.out _ ?_).mono ?_; assumption; rintro e y3 ⟨rfl, hg3⟩; have z30 := hg3.cell (p := ⟨w8.heap.size, 0, none⟩) (v := (.slice pr nr cr)) (by assumption); have z31 := hg3.cell (p := ⟨w.heap.size, 0, none⟩) (v := (.slice ba 0 ca)) (by assumption); have g3 : Gr wE y3 := Gr.trans (by assumption) hg3)))
      | fail
      all_goals (go_wp2_with fail; go_meet; exact ⟨rfl, by assumption⟩)
    case rest =>
      obtain ⟨rfl, hcut⟩ := hcut
      replace k_a := hcut.cell k_a
      replace k_p := hcut.cell k_p
      replace k_r := hcut.cell k_r
      replace R_a := Lib.hid (R_a.out.grow hcut)
      replace R_p := Lib.hid (R_p.out.grow hcut)
      replace R_r := Lib.hid (R_r.out.grow hcut)
      replace G := Lib.hid (G.out.trans hcut)
      clear hcut
      clear HB1 HB4 HT1 HT2
      have hz : nr = 0 := by rw [← R_r.out.len, HZ.out, digs_zero]; rfl
      subst hz
      go_wp2
      go_ret
      exact ⟨rfl, G.out⟩

end Go.Proofs.Ytiefnhpbniaklaa.Nlshifts
