/- The contract of natural's takeDigit: one digit of a quotient. -/
import Derived.Test.YtiefnhpbniaklaaNmul
namespace Go.Proofs.Ytiefnhpbniaklaa.Nk
open Go.RowKit Go.Proofs.Ytiefnhpbniaklaa.Nm Go.Proofs.Ytiefnhpbniaklaa.Ne Go.Proofs.Ytiefnhpbniaklaa.Nf

/-- The first guess is not too small. -/
theorem guess_ge {R D : List Nat} {j : Nat} (hR : ok R) (hRl : R.length = j + 2) (hDl : D.length = j + 1) (G : Nat)
    (hG : (R[j + 1]?.getD 0 < D[j]?.getD 0 → G = (R[j + 1]?.getD 0 * 4294967296 + R[j]?.getD 0) / D[j]?.getD 0) ∧ (D[j]?.getD 0 ≤ R[j + 1]?.getD 0 → G = 4294967295)) (h : val R < val D * 4294967296) : val R < val D * (G + 1) := by
  rcases Nat.lt_or_ge (R[j + 1]?.getD 0) (D[j]?.getD 0) with h1 | h1
  · have e1 := val_take_succ R (j + 1) (by omega)
    rw [show j + 1 + 1 = R.length by omega, List.take_length, val_take_succ R j (by omega)] at e1
    have e2 := val_take_succ D j (by omega)
    rw [show j + 1 = D.length by omega, List.take_length] at e2
    have h2 := val_take_lt hR j
    have h3 := hG.1 h1
    have h4 := Nat.lt_mul_div_succ (R[j + 1]?.getD 0 * 4294967296 + R[j]?.getD 0) (Nat.lt_of_le_of_lt (Nat.zero_le _) h1)
    rw [← h3] at h4
    simp only [pw] at e1
    generalize R[j + 1]?.getD 0 = r1 at *
    generalize R[j]?.getD 0 = r0 at *
    generalize D[j]?.getD 0 = d at *
    have h5 : pw j * (r1 * 4294967296 + r0 + 1) ≤ pw j * (d * (G + 1)) := Nat.mul_le_mul_left _ h4
    have h6 : pw j * d * (G + 1) ≤ val D * (G + 1) := Nat.mul_le_mul_right _ (by omega)
    rw [← Nat.mul_assoc, Nat.mul_add, Nat.mul_add] at h5
    have h7 : pw j * (r1 * 4294967296) = 4294967296 * pw j * r1 := by rw [Nat.mul_comm r1, ← Nat.mul_assoc, Nat.mul_comm (pw j)]
    omega
  · rw [hG.2 h1]; exact h

/-- Behind the first guess: what is left, how often, and whether it is negative. -/
def DigAt (g o : Nat) (R D : List Nat) (G : Nat) (w : World) (dg : Nat) (neg : Bool) (wr : World) : Prop :=
  ∃ r : List Nat, r.length = R.length ∧ ok r ∧ Hold wr g o r ∧ Wr g o R.length w wr ∧ dg ≤ G ∧
    (neg = false → val r + dg * val D = val R ∧ (dg = G ∨ val r < val D)) ∧ (neg = true → val r + dg * val D = val R + pw R.length)
theorem Wr.back {b off n : Nat} {u v w : World} (h : Wr b off n u w) (k : Wr b off n u v) : Wr b off n v w :=
  ⟨h.os.trans k.os.symm, h.tape.trans k.tape.symm, h.output.trans k.output.symm, h.size.trans k.size.symm, fun i hi => (h.block i hi).trans (k.block i hi).symm, fun i hi => (h.cell i hi).trans (k.cell i hi).symm, fun a => (h.frozen a).trans (k.frozen a).symm⟩
theorem DigAt.wr0 {g o : Nat} {R D : List Nat} {G : Nat} {w v : World} {dg : Nat} {b : Bool} {wr : World} (h : DigAt g o R D G w dg b wr) (k : Wr g o R.length w v) : Wr g o R.length v wr := by
  obtain ⟨_, _, _, _, hw, _⟩ := h
  exact Wr.back hw k
theorem DigAt.pos {g o : Nat} {R D : List Nat} {G : Nat} {w : World} {dg : Nat} {wr : World} (h : DigAt g o R D G w dg true wr) : 1 ≤ dg := by
  obtain ⟨r, hrl, hro, _, _, _, _, h2⟩ := h
  have h3 := h2 rfl
  have h4 := val_lt hro
  rw [hrl] at h4
  rcases Nat.eq_zero_or_pos dg with h | h
  · subst h; omega
  · exact h
/-- What takeDigit has done. -/
def DigitAt (g o : Nat) (R D : List Nat) (w : World) (e : Ending) (w' : World) : Prop :=
  ∃ (q : Nat) (r : List Nat), e = .returned (.int .u32 (q : Int)) ∧ q < 4294967296 ∧ r.length = R.length ∧ ok r ∧ Hold w' g o r ∧ Wr g o R.length w w' ∧ val r + q * val D = val R ∧ (val R < val D * 4294967296 → val r < val D)
theorem DigAt.done {g o : Nat} {R D : List Nat} {G : Nat} {w : World} {dg : Nat} {wr : World} (h : DigAt g o R D G w dg false wr) (hG : G < 4294967296) (hg : val R < val D * 4294967296 → val R < val D * (G + 1)) :
    DigitAt g o R D w (.returned (.int .u32 (dg : Int))) wr := by
  obtain ⟨r, hrl, hro, hh, hw, hd, h1, _⟩ := h
  obtain ⟨h2, h3⟩ := h1 rfl
  refine ⟨dg, r, rfl, by omega, hrl, hro, hh, hw, h2, fun hlt => ?_⟩
  rcases h3 with rfl | h3
  · have := hg hlt
    rw [Nat.mul_add, Nat.mul_one, Nat.mul_comm (val D)] at this
    omega
  · exact h3
theorem DigAt.start {g o : Nat} {R D : List Nat} {G : Nat} {w w' : World} {j : Nat} (hD : ok D) (hRl : R.length = j + 2) (hDl : D.length = j + 1) (hG : G < 4294967296) {c : Nat} {r : List Nat} (hrl : r.length = R.length) (hro : ok r) (hh : Hold w' g o r)
    (hv : val r + val D * G = val R + pw R.length * c) (hw : Wr g o R.length w w') : c ≤ 1 ∧ DigAt g o R D G w G (c != 0) w' := by
  have h1 := val_lt hro
  rw [hrl] at h1
  have h2 : val D * G < pw R.length := by
    have h3 := val_lt hD
    rw [hDl] at h3
    rw [hRl]
    have h4 : val D * G ≤ val D * 4294967295 := Nat.mul_le_mul_left _ (by omega)
    have h5 : pw (j + 2) = 4294967296 * pw (j + 1) := rfl
    omega
  have hc : c ≤ 1 := by
    rcases Nat.lt_or_ge 1 c with h | h
    · have := Nat.mul_le_mul_left (pw R.length) (show 2 ≤ c from h)
      omega
    · exact h
  refine ⟨hc, r, hrl, hro, hh, hw, Nat.le_refl _, fun e => ?_, fun e => ?_⟩
  · have : c = 0 := by simpa using e
    subst this
    rw [Nat.mul_comm G]
    exact ⟨by omega, .inl rfl⟩
  · have : c = 1 := by
      have : c ≠ 0 := by simpa using e
      omega
    subst this
    rw [Nat.mul_comm G]
    omega
theorem DigAt.step {g o : Nat} {R D : List Nat} {G : Nat} {w wr : World} {dg : Nat} (h : DigAt g o R D G w (dg + 1) true wr) (hD : val D ≤ pw R.length) :
    ∃ s : List Nat, s.length = R.length ∧ ok s ∧ Hold wr g o s ∧ ∀ (c : Nat) (t : List Nat) (w' : World), t.length = s.length → ok t → Hold w' g o t → val t + pw s.length * c = val s + val D * 1 → Wr g o s.length wr w' → c ≤ 1 ∧ DigAt g o R D G w dg (c == 0) w' := by
  obtain ⟨r, hrl, hro, hh, hw, hd, _, h2⟩ := h
  refine ⟨r, hrl, hro, hh, fun c t w' htl hto hth htv htw => ?_⟩
  have h3 := h2 rfl
  have h4 := val_lt hro
  have h5 := val_lt hto
  rw [htl] at h5
  rw [hrl] at h4 h5 htv htw htl
  rw [Nat.mul_one] at htv
  rw [Nat.succ_mul] at h3
  have hc : c ≤ 1 := by
    rcases Nat.lt_or_ge 1 c with h | h
    · have := Nat.mul_le_mul_left (pw R.length) (show 2 ≤ c from h)
      omega
    · exact h
  refine ⟨hc, t, htl, hto, hth, hw.trans htw, by omega, fun e => ?_, fun e => ?_⟩
  · have hc1 : c = 1 := by
      have : c ≠ 0 := by simpa using e
      omega
    subst hc1
    exact ⟨by omega, .inr (by omega)⟩
  · have hc0 : c = 0 := by simpa using e
    subst hc0
    omega

set_option maxRecDepth 100000 in
set_option maxHeartbeats 4000000 in
theorem takeDigit_lt (g o n cap g2 o2 n2 cap2 j : Nat) (R D : List Nat) (eR : R.length = n) (eD : D.length = n2) (en : n = j + 2) (en2 : n2 = j + 1) (hj : j ≤ 1048576) (hR : ok R) (hD : ok D) (hne : g2 ≠ g) (w : World) (h : Hold w g o R) (h2 : Hold w g2 o2 D)
    (htop : R[j + 1]?.getD 0 < D[j]?.getD 0) :
    Calls Try.prog 133 #[.slice (some ⟨g, o, none⟩) n cap, .slice (some ⟨g2, o2, none⟩) n2 cap2] w (DigitAt g o R D w) := by
  subst en; subst en2
  have c1 := (h (j + 1) (by omega)).1
  have c0 := (h j (by omega)).1
  have d0 := (h2 j (by omega)).1
  have x1 := ok_get hR (j + 1)
  have x0 := ok_get hR j
  have y0 := ok_get hD j
  have HG := Lib.hid (fun G hG => guess_ge (R := R) (D := D) hR eR eD G hG)
  have HR := Lib.hid hR
  have HD := Lib.hid hD
  have HH := Lib.hid h
  have HH2 := Lib.hid h2
  have ER := Lib.hid eR
  have ED := Lib.hid eD
  have HDP : Hid (val D ≤ pw R.length) := Lib.hid (Nat.le_of_lt (Nat.lt_of_lt_of_le (val_lt hD) (pw_mono (by omega))))
  clear h h2 hR hD eR eD
  generalize R[j + 1]?.getD 0 = r1 at *
  generalize R[j]?.getD 0 = r0 at *
  generalize D[j]?.getD 0 = d at *
  have HT := Lib.hid htop
  have ht : (r1 : Int) < (d : Int) := by omega
  have q1 : IntKind.i64.wrap ((j : Int) + 1) = (j : Int) + 1 := IntWalk.i64_in _ (by omega)
  have q2 : (0 : Int) ≤ (j : Int) + 1 := by omega
  have q3 : ((j : Int) + 1).toNat = j + 1 := by omega
  have q4 : (0 : Int) ≤ (j : Int) := by omega
  have q5 : (j : Int) < (j : Int) + 1 := by omega
  have q6 : (j : Int) < (j : Int) + 2 := by omega
  have q7 : (j : Int) + 1 < (j : Int) + 2 := by omega
  go_enter Try.func133, Try.ntmps133
  go_wp2
  go_quiet (fail)
  have HQ := Lib.hid (fun w => Nb.div32 r1 r0 d htop x0 y0 w)
  obtain ⟨G, hG⟩ : ∃ G, (r1 * 4294967296 + r0) / d = G := ⟨_, rfl⟩
  have hG32 : G < 4294967296 := by
    rw [← hG]
    apply Nat.div_lt_of_lt_mul
    have := Nat.mul_le_mul_right 4294967296 (show r1 + 1 ≤ d from htop)
    omega
  have HGE : Hid (val R < val D * 4294967296 → val R < val D * (G + 1)) := Lib.hid (HG.out G ⟨fun _ => hG.symm, fun h => absurd h (by have := HT.out; omega)⟩)
  rw [hG] at HQ
  clear hG HG HT
  go_wp2
  have C1 : (w.drewN nq).cell? ⟨g, o + (j + 1), none⟩ = some (.int .u32 (r1 : Int)) := c1
  have C0 : (w.drewN nq).cell? ⟨g, o + j, none⟩ = some (.int .u32 (r0 : Int)) := c0
  have D0 : (w.drewN nq).cell? ⟨g2, o2 + j, none⟩ = some (.int .u32 (d : Int)) := d0
  have HHd : Hid (Hold (w.drewN nq) g o R) := Lib.hid HH.out
  have HH2d : Hid (Hold (w.drewN nq) g2 o2 D) := Lib.hid HH2.out
  have HWd : Hid (Wr g o R.length w (w.drewN nq)) := Lib.hid ((Wr.refl _ _ _ w).drewN nq)
  clear c1 c0 d0 HH HH2
  generalize w.drewN nq = wd at *
  go_quiet ((go_at_call 135; exact Calls.quiet_of (HQ.out _)))
  have HH : Hid (Hold (wd.drewN nq) g o R) := Lib.hid HHd.out
  have HH2 : Hid (Hold (wd.drewN nq) g2 o2 D) := Lib.hid HH2d.out
  have HW : Hid (Wr g o R.length w (wd.drewN nq)) := Lib.hid (HWd.out.drewN nq)
  clear HHd HH2d HWd C1 C0 D0
  generalize wd.drewN nq = wq at *
  go_wp2_with fail
  refine (takeProduct_n g o (j + 2) R cap (some ⟨g2, o2, none⟩) (j + 1) D cap2 G ER.out ED.out hG32 HR.out HD.out (by omega) (by omega) _ HH.out (HH2.out.rdN hne)).mono ?_
  rintro e w1 ⟨c, r, rfl, hrl, hro, hrh, hv, _, hw⟩
  obtain ⟨hc, hA⟩ := DigAt.start (G := G) (w := w) HD.out ER.out ED.out hG32 hrl hro hrh hv (HW.out.trans hw)
  have H0 := Lib.hid hA
  clear hrl hro hrh hv hw hA
  generalize hneg : (c != 0) = neg at *
  have hneg2 : ((c : Int) != 0) = neg := by rw [← hneg, Bool.eq_iff_iff]; simp
  clear hneg hc
  go_wp2
  go_loopw [6, 7] (fun dv nv wr => ∃ (dg : Nat) (b : Bool), dv = .int .u32 dg ∧ nv = .bool b ∧ dg < 4294967296 ∧ DigAt g o R D G w dg b wr) (fun dv _ _ => (intOf dv).toNat)
  case atStart => exact ⟨G, neg, rfl, rfl, hG32, H0.out⟩
  case round =>
    obtain ⟨dg, b, rfl, rfl, hdg, hA⟩ := hrel
    have HA := Lib.hid hA
    clear hA H0 hneg2 q1 q2 q3 q4 q5 q6 q7
    cases b
    · go_wp2
      go_ret
      exact HA.out.done hG32 HGE.out
    · obtain ⟨dg, rfl⟩ : ∃ k, dg = k + 1 := ⟨dg - 1, by have := HA.out.pos; omega⟩
      obtain ⟨s, hsl, hso, hsh, hnext⟩ := HA.out.step HDP.out
      have HS := Lib.hid hsl
      have HSO := Lib.hid hso
      have HSH := Lib.hid hsh
      have HN := Lib.hid hnext
      have HWR := Lib.hid (HA.out.wr0 HW.out)
      clear hsl hso hsh hnext
      go_wp2_with fail
      refine (addProduct_n g o (j + 2) s cap (some ⟨g2, o2, none⟩) (j + 1) D cap2 1 (HS.out.trans ER.out) ED.out (by decide) HSO.out HD.out (by omega) (by omega) _ HSH.out ((HH2.out.rdN hne).wr HWR.out)).mono ?_
      rintro e w2 ⟨c2, t, rfl, htl, hto, hth, hv, _, hw⟩
      obtain ⟨hc2, hA2⟩ := HN.out c2 t w2 htl hto hth hv hw
      have HA2 := Lib.hid hA2
      clear htl hto hth hv hw hA2
      generalize hb : (c2 == 0) = b at *
      have hb2 : ((c2 : Int) == 0) = b := by rw [← hb, Bool.eq_iff_iff]; simp
      clear hb hc2
      go_wp2
      go_roundw
      case rel => exact ⟨dg, b, by go_num, rfl, by omega, HA2.out⟩
      case measure => simp [intOf]

set_option maxRecDepth 100000 in
set_option maxHeartbeats 4000000 in
theorem takeDigit_ge (g o n cap g2 o2 n2 cap2 j : Nat) (R D : List Nat) (eR : R.length = n) (eD : D.length = n2) (en : n = j + 2) (en2 : n2 = j + 1) (hj : j ≤ 1048576) (hR : ok R) (hD : ok D) (hne : g2 ≠ g) (w : World) (h : Hold w g o R) (h2 : Hold w g2 o2 D)
    (htop : D[j]?.getD 0 ≤ R[j + 1]?.getD 0) :
    Calls Try.prog 133 #[.slice (some ⟨g, o, none⟩) n cap, .slice (some ⟨g2, o2, none⟩) n2 cap2] w (DigitAt g o R D w) := by
  subst en; subst en2
  have c1 := (h (j + 1) (by omega)).1
  have c0 := (h j (by omega)).1
  have d0 := (h2 j (by omega)).1
  have x1 := ok_get hR (j + 1)
  have x0 := ok_get hR j
  have y0 := ok_get hD j
  have HG := Lib.hid (fun G hG => guess_ge (R := R) (D := D) hR eR eD G hG)
  have HR := Lib.hid hR
  have HD := Lib.hid hD
  have HH := Lib.hid h
  have HH2 := Lib.hid h2
  have ER := Lib.hid eR
  have ED := Lib.hid eD
  have HDP : Hid (val D ≤ pw R.length) := Lib.hid (Nat.le_of_lt (Nat.lt_of_lt_of_le (val_lt hD) (pw_mono (by omega))))
  clear h h2 hR hD eR eD
  generalize R[j + 1]?.getD 0 = r1 at *
  generalize R[j]?.getD 0 = r0 at *
  generalize D[j]?.getD 0 = d at *
  have HT := Lib.hid htop
  have ht : (d : Int) ≤ (r1 : Int) := by omega
  have q1 : IntKind.i64.wrap ((j : Int) + 1) = (j : Int) + 1 := IntWalk.i64_in _ (by omega)
  have q2 : (0 : Int) ≤ (j : Int) + 1 := by omega
  have q3 : ((j : Int) + 1).toNat = j + 1 := by omega
  have q4 : (0 : Int) ≤ (j : Int) := by omega
  have q5 : (j : Int) < (j : Int) + 1 := by omega
  have q6 : (j : Int) < (j : Int) + 2 := by omega
  have q7 : (j : Int) + 1 < (j : Int) + 2 := by omega
  go_enter Try.func133, Try.ntmps133
  go_wp2
  go_quiet (fail)
  obtain ⟨G, hG⟩ : ∃ G : Nat, G = 4294967295 := ⟨_, rfl⟩
  have hG32 : G < 4294967296 := by omega
  have HGE : Hid (val R < val D * 4294967296 → val R < val D * (G + 1)) := Lib.hid (HG.out G ⟨fun h => absurd h (by have := HT.out; omega), fun _ => hG⟩)
  have HGI : Hid ((4294967295 : Int) = (G : Int)) := Lib.hid (by rw [hG]; rfl)
  clear HG HT hG
  have HHd : Hid (Hold (w.drewN nq) g o R) := Lib.hid HH.out
  have HH2d : Hid (Hold (w.drewN nq) g2 o2 D) := Lib.hid HH2.out
  have HW : Hid (Wr g o R.length w (w.drewN nq)) := Lib.hid ((Wr.refl _ _ _ w).drewN nq)
  clear c1 c0 d0 HH HH2
  have HH := HHd
  have HH2 := HH2d
  clear HHd HH2d
  generalize w.drewN nq = wq at *
  go_wp2_with fail
  rw [HGI.out]
  refine (takeProduct_n g o (j + 2) R cap (some ⟨g2, o2, none⟩) (j + 1) D cap2 G ER.out ED.out hG32 HR.out HD.out (by omega) (by omega) _ HH.out (HH2.out.rdN hne)).mono ?_
  rintro e w1 ⟨c, r, rfl, hrl, hro, hrh, hv, _, hw⟩
  obtain ⟨hc, hA⟩ := DigAt.start (G := G) (w := w) HD.out ER.out ED.out hG32 hrl hro hrh hv (HW.out.trans hw)
  have H0 := Lib.hid hA
  clear hrl hro hrh hv hw hA
  generalize hneg : (c != 0) = neg at *
  have hneg2 : ((c : Int) != 0) = neg := by rw [← hneg, Bool.eq_iff_iff]; simp
  clear hneg hc
  go_wp2
  go_loopw [6, 7] (fun dv nv wr => ∃ (dg : Nat) (b : Bool), dv = .int .u32 dg ∧ nv = .bool b ∧ dg < 4294967296 ∧ DigAt g o R D G w dg b wr) (fun dv _ _ => (intOf dv).toNat)
  case atStart => exact ⟨G, neg, rfl, rfl, hG32, H0.out⟩
  case round =>
    obtain ⟨dg, b, rfl, rfl, hdg, hA⟩ := hrel
    have HA := Lib.hid hA
    clear hA H0 hneg2 q1 q2 q3 q4 q5 q6 q7
    cases b
    · go_wp2
      go_ret
      exact HA.out.done hG32 HGE.out
    · obtain ⟨dg, rfl⟩ : ∃ k, dg = k + 1 := ⟨dg - 1, by have := HA.out.pos; omega⟩
      obtain ⟨s, hsl, hso, hsh, hnext⟩ := HA.out.step HDP.out
      have HS := Lib.hid hsl
      have HSO := Lib.hid hso
      have HSH := Lib.hid hsh
      have HN := Lib.hid hnext
      have HWR := Lib.hid (HA.out.wr0 HW.out)
      clear hsl hso hsh hnext
      go_wp2_with fail
      refine (addProduct_n g o (j + 2) s cap (some ⟨g2, o2, none⟩) (j + 1) D cap2 1 (HS.out.trans ER.out) ED.out (by decide) HSO.out HD.out (by omega) (by omega) _ HSH.out ((HH2.out.rdN hne).wr HWR.out)).mono ?_
      rintro e w2 ⟨c2, t, rfl, htl, hto, hth, hv, _, hw⟩
      obtain ⟨hc2, hA2⟩ := HN.out c2 t w2 htl hto hth hv hw
      have HA2 := Lib.hid hA2
      clear htl hto hth hv hw hA2
      generalize hb : (c2 == 0) = b at *
      have hb2 : ((c2 : Int) == 0) = b := by rw [← hb, Bool.eq_iff_iff]; simp
      clear hb hc2
      go_wp2
      go_roundw
      case rel => exact ⟨dg, b, by go_num, rfl, by omega, HA2.out⟩
      case measure => simp [intOf]

theorem takeDigit_any (g o n cap g2 o2 n2 cap2 : Nat) (R D : List Nat) (eR : R.length = n) (eD : D.length = n2) (en : n = n2 + 1) (h0 : 0 < n2) (hn : n2 ≤ 1048576) (hR : ok R) (hD : ok D) (hne : g2 ≠ g) (w : World) (h : Hold w g o R) (h2 : Hold w g2 o2 D) :
    Calls Try.prog 133 #[.slice (some ⟨g, o, none⟩) n cap, .slice (some ⟨g2, o2, none⟩) n2 cap2] w (DigitAt g o R D w) := by
  rcases Nat.lt_or_ge (R[n2 - 1 + 1]?.getD 0) (D[n2 - 1]?.getD 0) with h1 | h1
  · exact takeDigit_lt g o n cap g2 o2 n2 cap2 (n2 - 1) R D eR eD (by omega) (by omega) (by omega) hR hD hne w h h2 h1
  · exact takeDigit_ge g o n cap g2 o2 n2 cap2 (n2 - 1) R D eR eD (by omega) (by omega) (by omega) hR hD hne w h h2 h1
end Go.Proofs.Ytiefnhpbniaklaa.Nk
