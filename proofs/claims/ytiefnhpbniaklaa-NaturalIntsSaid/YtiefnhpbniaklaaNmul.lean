/- The contract of natural's Mul. -/
import Derived.Test.YtiefnhpbniaklaaNsub
namespace Go.Proofs.Ytiefnhpbniaklaa.Nk
open Go.RowKit Go.Proofs.Ytiefnhpbniaklaa.Nm Go.Proofs.Ytiefnhpbniaklaa.Ne Go.Proofs.Ytiefnhpbniaklaa.Nf

/-- The product of the first k words has been added up. -/
def MulAt (w : World) (g : Nat) (l kk : List Nat) (k : Nat) (wr : World) : Prop :=
  ∃ r : List Nat, r.length = l.length + kk.length ∧ ok r ∧ Hold wr g 0 r ∧ val r = val (l.take k) * val kk ∧ Gr w wr
theorem MulAt.start {w wr : World} {g : Nat} {l kk : List Nat} {N : Nat} (hN : N = l.length + kk.length) (h : Hold wr g 0 (List.replicate N 0)) (hg : Gr w wr) : MulAt w g l kk 0 wr :=
  ⟨_, by simp [hN], ok_replicate _, h, by simp [val_replicate, val], hg⟩
/-- The words of the product into which the next multiple is added. -/
theorem MulAt.open {w wr : World} {g : Nat} {l kk : List Nat} {k : Nat} (h : MulAt w g l kk k wr) (hl : ok l) (hkk : ok kk) (hk : k < l.length) :
    ∃ s : List Nat, s.length = kk.length + 1 ∧ ok s ∧ Hold wr g k s ∧
      ∀ (c : Nat) (t : List Nat) (w' : World), t.length = s.length → ok t → Hold w' g k t → val t + pw s.length * c = val s + val kk * l[k]?.getD 0 → Wr g k s.length wr w' → w.heap.size ≤ g → MulAt w g l kk (k + 1) w' := by
  obtain ⟨r, hrl, hro, hh, hv, hg⟩ := h
  refine ⟨(r.drop k).take (kk.length + 1), by simp; omega, ok_take (ok_drop hro _) _, ?_, ?_⟩
  · have e : r = r.take k ++ r.drop k := (List.take_append_drop k r).symm
    rw [e] at hh
    have h1 := (Hold.append.1 hh).2
    rw [List.length_take, Nat.min_eq_left (by omega), Nat.zero_add] at h1
    rw [← List.take_append_drop (kk.length + 1) (r.drop k)] at h1
    exact (Hold.append.1 h1).1
  · intro c t w' htl hto hth htv hw hgb
    have hsl : ((r.drop k).take (kk.length + 1)).length = kk.length + 1 := by simp; omega
    rw [hsl] at htl htv hw
    have e2 : r = r.take k ++ ((r.drop k).take (kk.length + 1) ++ r.drop (k + (kk.length + 1))) := by
      rw [← List.drop_drop, List.take_append_drop, List.take_append_drop]
    have v1 : val r = val (r.take k) + pw k * (val ((r.drop k).take (kk.length + 1)) + pw (kk.length + 1) * val (r.drop (k + (kk.length + 1)))) := by
      conv => lhs; rw [e2]
      rw [val_append, val_append, hsl, List.length_take, Nat.min_eq_left (by omega)]
    have b1 : val (l.take (k + 1)) = val (l.take k) + pw k * l[k]?.getD 0 := val_take_succ l k hk
    have b2 := val_take_lt hl (k + 1)
    have b3 := val_lt hkk
    have b4 : val (l.take (k + 1)) * val kk < pw (k + 1) * pw kk.length := Nat.mul_lt_mul'' b2 b3
    rw [← pw_add] at b4
    have v2 : val (l.take (k + 1)) * val kk = val r + pw k * (val kk * l[k]?.getD 0) := by
      rw [b1, Nat.add_mul, hv, Nat.mul_assoc, Nat.mul_comm (l[k]?.getD 0)]
    have hlt : val ((r.drop k).take (kk.length + 1)) + val kk * l[k]?.getD 0 < pw (kk.length + 1) := by
      rcases Nat.lt_or_ge (val ((r.drop k).take (kk.length + 1)) + val kk * l[k]?.getD 0) (pw (kk.length + 1)) with h | h
      · exact h
      · have h1 := Nat.mul_le_mul_left (pw k) h
        rw [← pw_add, Nat.mul_add] at h1
        rw [Nat.mul_add] at v1
        have h2 : k + 1 + kk.length = k + (kk.length + 1) := by omega
        rw [h2] at b4
        omega
    have hc : c = 0 := by
      rcases Nat.eq_zero_or_pos c with h | h
      · exact h
      · have := Nat.le_mul_of_pos_right (pw (kk.length + 1)) h
        omega
    subst hc
    rw [Nat.mul_zero, Nat.add_zero] at htv
    refine ⟨r.take k ++ (t ++ r.drop (k + (kk.length + 1))), by simp; omega, ok_append.2 ⟨ok_take hro _, ok_append.2 ⟨hto, ok_drop hro _⟩⟩, ?_, ?_, Wr.gr hg hw hgb⟩
    · rw [e2] at hh
      have h1 := Hold.append.1 hh
      have h2 := Hold.append.1 h1.2
      rw [hsl, List.length_take, Nat.min_eq_left (by omega), Nat.zero_add] at h2
      refine Hold.append.2 ⟨h1.1.wr hw (.inl (by simp; omega)), ?_⟩
      rw [List.length_take, Nat.min_eq_left (by omega), Nat.zero_add]
      refine Hold.append.2 ⟨hth, ?_⟩
      rw [htl]
      exact h2.2.wr hw (.inr (by omega))
    · rw [val_append, val_append, htl, List.length_take, Nat.min_eq_left (by omega), htv, v2, v1]
      simp only [Nat.mul_add]
      omega

set_option maxHeartbeats 2000000 in
theorem Mul_bad (p q : Option Addr) (n m c d : Nat) (l k : List Nat) (w : World) (hl : Nw w p n c l) (hk : Nw w q m d k) (hv : decide (valid l) = false ∨ decide (valid k) = false) :
    Calls Try.prog 39 #[.agg #[.slice p n c], .agg #[.slice q m d]] w (Failed 1 w) := by
  have HL := Lib.hid hl
  have HK := Lib.hid hk
  have HV := Lib.hid hv
  have G0 := Lib.hid ((((Gr.refl w).alloc (.cells #[.slice p n c] 24)).alloc (.cells #[.slice q m d] 24)).alloc (.cells #[.slice none 0 0] 24))
  clear hl hk hv
  go_enter Try.func39, Try.ntmps39
  go_wp2_with fail
  refine (Valid_n p n c l _ (HL.out.grow G0.out)).mono ?_
  rintro e w1 ⟨rfl, hg⟩
  have c2 := hg.cell (p := ⟨w.heap.size + 1, 0, none⟩) (v := .slice q m d) (by simp [go_sem])
  have c3 := hg.cell (p := ⟨w.heap.size + 1 + 1, 0, none⟩) (v := .slice none 0 0) (by simp [go_sem])
  have f3 := hg.frozen (p := ⟨w.heap.size + 1 + 1, 0, none⟩) (v := .slice none 0 0) (by simp [go_sem]) (by simp [go_sem])
  have GA := Lib.hid (G0.out.trans hg)
  clear hg
  cases hv1 : decide (valid l)
  · clear hv1
    go_wp2
    exact bodyPost_ret (v := .tuple #[.agg #[.slice none 0 0], .int .i64 1]) (by simp [results, Try.results39, go_sem, c3]) rfl ⟨rfl, GA.out.setCell (by simp; omega) _⟩
  · have hv2 : decide (valid k) = false := by
      rcases HV.out with h | h
      · rw [hv1] at h; cases h
      · exact h
    clear hv1
    go_wp2_with fail
    refine (Valid_n q m d k _ (HK.out.grow GA.out)).mono ?_
    rintro e w2 ⟨rfl, hg⟩
    rw [hv2]
    have e3 := hg.cell c3
    have f4 := hg.frozen c3 f3
    have GB := Lib.hid (GA.out.trans hg)
    clear hg hv2 c2 c3 f3
    go_wp2
    exact bodyPost_ret (v := .tuple #[.agg #[.slice none 0 0], .int .i64 1]) (by simp [results, Try.results39, go_sem, e3]) rfl ⟨rfl, GB.out.setCell (by simp; omega) _⟩


set_option maxRecDepth 100000 in
set_option maxHeartbeats 4000000 in
theorem Mul_ok (p q : Option Addr) (n m c d : Nat) (l k : List Nat) (w : World) (hl : Nw w p n c l) (hk : Nw w q m d k) (hv1 : decide (valid l) = true) (hv2 : decide (valid k) = true) (hx : val l * val k < pw 64) :
    Calls Try.prog 39 #[.agg #[.slice p n c], .agg #[.slice q m d]] w (Gave (val l * val k) w) := by
  obtain ⟨i0, hi, hz0, hz1, hz2⟩ := info_parts infoW
  have HL := Lib.hid hl
  have HK := Lib.hid hk
  have HV1 := Lib.hid hv1
  have HV2 := Lib.hid hv2
  have HX := Lib.hid hx
  have hnb := (of_decide_eq_true hv1).1
  have hmb := (of_decide_eq_true hv2).1
  rw [hl.len] at hnb
  rw [hk.len] at hmb
  have G0 := Lib.hid ((((Gr.refl w).alloc (.cells #[.slice p n c] 24)).alloc (.cells #[.slice q m d] 24)).alloc (.cells #[.slice none 0 0] 24))
  clear hl hk hv1 hv2 hx
  go_enter Try.func39, Try.ntmps39
  go_wp2_with fail
  refine (Valid_n p n c l _ (HL.out.grow G0.out)).mono ?_
  rintro e w1 ⟨rfl, hg⟩
  rw [HV1.out]
  have c1 := hg.cell (p := ⟨w.heap.size, 0, none⟩) (v := .slice p n c) (by simp [go_sem])
  have c2 := hg.cell (p := ⟨w.heap.size + 1, 0, none⟩) (v := .slice q m d) (by simp [go_sem])
  have c3 := hg.cell (p := ⟨w.heap.size + 1 + 1, 0, none⟩) (v := .slice none 0 0) (by simp [go_sem])
  have f3 := hg.frozen (p := ⟨w.heap.size + 1 + 1, 0, none⟩) (v := .slice none 0 0) (by simp [go_sem]) (by simp [go_sem])
  have GA := Lib.hid (G0.out.trans hg)
  clear hg
  go_wp2_with fail
  refine (Valid_n q m d k _ (HK.out.grow GA.out)).mono ?_
  rintro e w2 ⟨rfl, hg⟩
  rw [HV2.out]
  have e1 := hg.cell c1
  have e2 := hg.cell c2
  have e3 := hg.cell c3
  have f4 := hg.frozen c3 f3
  have GB := Lib.hid (GA.out.trans hg)
  clear hg c1 c2 c3 f3 GA G0
  have hz3 : w.heap.size + 1 + 1 < w2.heap.size := World.block_lt_of_cell? w2 _ e3
  go_wp2_with (refine wpList_make_full (o := ⟨some 25, _, _, _, _, _⟩) _ rfl _ _ _ rfl w2.heap.size 62 i0 (.int .u32 0) 1 Try.underlying22 hi hz0 hz1 .i64 .i64 _ _ (n + m) rfl rfl (by omega) (by omega) (by rw [hz2]; omega) (by unfold maxLen; omega) (Nat.le_refl _) ?_; intro w3 hown hgrow; have k1 := (Gr.grown hgrow).cell e1; have k2 := (Gr.grown hgrow).cell e2; have k3 := (Gr.grown hgrow).cell e3; have g3 := (Gr.grown hgrow).frozen e3 f4; have HO := Lib.hid hown; have G3 := Lib.hid (Gr.grown hgrow); clear hown hgrow)
  have H0 : Hid (MulAt w2 w2.heap.size l k 0 w3) := Lib.hid (MulAt.start (by rw [HL.out.len, HK.out.len]) (hold_made HO.out) G3.out)
  clear HO k1 k2 k3 g3
  go_loopw [29] (fun i wr => ∃ j : Nat, j ≤ n ∧ i = .int .i64 j ∧ MulAt w2 w2.heap.size l k j wr) (fun i _ => n - (intOf i).toNat)
  case atStart => exact ⟨0, Nat.zero_le _, rfl, H0.out⟩
  case round =>
    obtain ⟨j, hj, rfl, hA⟩ := hrel
    have HA := Lib.hid hA
    have hGr : Gr w2 wr := hA.choose_spec.2.2.2.2
    have c2 := hGr.cell e2
    have c3 := hGr.cell e3
    have f3 := hGr.frozen e3 f4
    have HGR := Lib.hid (GB.out.trans hGr)
    have HGR2 := Lib.hid hGr
    clear hA hGr
    by_cases hlt : j < n
    · obtain ⟨b, off, rfl, hc⟩ := (HGR.out.rd HL.out.rd).at (by rw [HL.out.len]; omega)
      have hcj := hc j (by rw [HL.out.len]; omega)
      have hx := ok_get HL.out.ok j
      obtain ⟨s, hs, hso, hsh, hnext⟩ := HA.out.open HL.out.ok HK.out.ok (by rw [HL.out.len]; exact hlt)
      have HS := Lib.hid hs
      have HSO := Lib.hid hso
      have HSH := Lib.hid hsh
      have HNX := Lib.hid hnext
      clear hc hs hso hsh hnext
      generalize l[j]?.getD 0 = x at *
      go_wp2
      have hkl := HK.out.len
      have q1 : (j : Int) ≤ (j : Int) + (m : Int) + 1 := by omega
      have q2 : (n + m = j) = False := eq_false (by omega)
      have q3 : j + m + 1 - j = m + 1 := by omega
      have q4 : IntKind.i64.wrap ((j : Int) + (m : Int)) = (j : Int) + (m : Int) := IntWalk.i64_in _ (by omega)
      have q5 : IntKind.i64.wrap ((j : Int) + (m : Int) + 1) = (j : Int) + (m : Int) + 1 := IntWalk.i64_in _ (by omega)
      have q6 : (0 : Int) ≤ (j : Int) + (m : Int) + 1 := by omega
      have q7 : (j : Int) + (m : Int) + 1 ≤ (n : Int) + (m : Int) := by omega
      have q8 : ((j : Int) + (m : Int) + 1).toNat = j + m + 1 := by omega
      clear hkl
      go_still_tail 12, (by kernel_rfl)
      change wpList _ _ _ _ _ wr.drew
      have HSH2 : Hid (Hold wr.drew w2.heap.size j s) := Lib.hid HSH.out
      have HG4 : Hid (Gr w wr.drew) := Lib.hid HGR.out.drew
      have HWR : Hid (∀ w', Wr w2.heap.size j s.length wr.drew w' → Wr w2.heap.size j s.length wr w') := Lib.hid (fun w' hw => ((Wr.refl _ _ _ wr).drewN 1).trans hw)
      have c2d : wr.drew.cell? ⟨w.heap.size + 1, 0, none⟩ = some (.slice q m d) := c2
      clear HSH q1 q2 q3 q4 q5 q6 q7 q8 hcj c2 c3 f3 HGR
      generalize wr.drew = wd at *
      go_wp2_with fail
      refine (addProduct_n w2.heap.size j (m + 1) s (n + m - j) q m k d x (by rw [HS.out, HK.out.len]) HK.out.len hx HSO.out HK.out.ok (by omega) (by omega) wd HSH2.out (RdN.of HK.out.rd HG4.out (by omega))).mono ?_
      rintro e w5 ⟨cr, r, rfl, hrl, hro, hrh, hv, hc, hw⟩
      have HN := Lib.hid (HNX.out cr r w5 hrl hro hrh hv (HWR.out w5 hw) (Nat.le_refl _))
      clear hrl hro hrh hv hw
      go_wp2
      go_roundw
      case rel => exact ⟨j + 1, by omega, by go_num, HN.out⟩
      case measure => simp [intOf]; omega
    · obtain rfl : j = n := by omega
      obtain ⟨r, hrl, hro, hrh, hv, _⟩ := HA.out
      rw [← HL.out.len, List.take_length] at hv
      rw [HL.out.len, HK.out.len] at hrl
      have HRL := Lib.hid hrl
      have HRO := Lib.hid hro
      have HRH := Lib.hid hrh
      have HRV := Lib.hid hv
      clear hrl hro hrh hv HA
      go_wp2_with fail
      refine (fit_gave (some ⟨w2.heap.size, 0, none⟩) (j + m) (j + m) r HRL.out (Nat.le_refl _) (by omega) (fun e => by cases e) HRO.out w.heap.size _ (HRH.out.own (by omega)) (by rw [HRV.out]; exact HX.out)).mono ?_
      rintro e w6 ⟨n6, rfl, hr6, hg6⟩
      have HR6 := Lib.hid hr6
      clear hr6
      have o3 := hg6.cell c3
      have of3 := hg6.frozen c3 f3
      have G6 := Lib.hid (HGR.out.trans hg6)
      clear hg6 c3 f3
      go_wp2
      exact bodyPost_ret (v := .tuple #[.agg #[.slice (some ⟨w2.heap.size, 0, none⟩) n6 (j + m)], .int .i64 0]) (by simp [results, Try.results39, go_sem, o3]) rfl ⟨_, _, _, rfl, by rw [← HRV.out]; exact HR6.out.set _ _ (fun x e => by cases e; simp; omega), G6.out.setCell (by simp; omega) _⟩

set_option maxRecDepth 100000 in
set_option maxHeartbeats 4000000 in
theorem Mul_big (p q : Option Addr) (n m c d : Nat) (l k : List Nat) (w : World) (hl : Nw w p n c l) (hk : Nw w q m d k) (hv1 : decide (valid l) = true) (hv2 : decide (valid k) = true) (hx : pw 64 ≤ val l * val k) :
    Calls Try.prog 39 #[.agg #[.slice p n c], .agg #[.slice q m d]] w (Failed 9 w) := by
  obtain ⟨i0, hi, hz0, hz1, hz2⟩ := info_parts infoW
  have HL := Lib.hid hl
  have HK := Lib.hid hk
  have HV1 := Lib.hid hv1
  have HV2 := Lib.hid hv2
  have HX := Lib.hid hx
  have hnb := (of_decide_eq_true hv1).1
  have hmb := (of_decide_eq_true hv2).1
  rw [hl.len] at hnb
  rw [hk.len] at hmb
  have G0 := Lib.hid ((((Gr.refl w).alloc (.cells #[.slice p n c] 24)).alloc (.cells #[.slice q m d] 24)).alloc (.cells #[.slice none 0 0] 24))
  clear hl hk hv1 hv2 hx
  go_enter Try.func39, Try.ntmps39
  go_wp2_with fail
  refine (Valid_n p n c l _ (HL.out.grow G0.out)).mono ?_
  rintro e w1 ⟨rfl, hg⟩
  rw [HV1.out]
  have c1 := hg.cell (p := ⟨w.heap.size, 0, none⟩) (v := .slice p n c) (by simp [go_sem])
  have c2 := hg.cell (p := ⟨w.heap.size + 1, 0, none⟩) (v := .slice q m d) (by simp [go_sem])
  have c3 := hg.cell (p := ⟨w.heap.size + 1 + 1, 0, none⟩) (v := .slice none 0 0) (by simp [go_sem])
  have f3 := hg.frozen (p := ⟨w.heap.size + 1 + 1, 0, none⟩) (v := .slice none 0 0) (by simp [go_sem]) (by simp [go_sem])
  have GA := Lib.hid (G0.out.trans hg)
  clear hg
  go_wp2_with fail
  refine (Valid_n q m d k _ (HK.out.grow GA.out)).mono ?_
  rintro e w2 ⟨rfl, hg⟩
  rw [HV2.out]
  have e1 := hg.cell c1
  have e2 := hg.cell c2
  have e3 := hg.cell c3
  have f4 := hg.frozen c3 f3
  have GB := Lib.hid (GA.out.trans hg)
  clear hg c1 c2 c3 f3 GA G0
  have hz3 : w.heap.size + 1 + 1 < w2.heap.size := World.block_lt_of_cell? w2 _ e3
  go_wp2_with (refine wpList_make_full (o := ⟨some 25, _, _, _, _, _⟩) _ rfl _ _ _ rfl w2.heap.size 62 i0 (.int .u32 0) 1 Try.underlying22 hi hz0 hz1 .i64 .i64 _ _ (n + m) rfl rfl (by omega) (by omega) (by rw [hz2]; omega) (by unfold maxLen; omega) (Nat.le_refl _) ?_; intro w3 hown hgrow; have k1 := (Gr.grown hgrow).cell e1; have k2 := (Gr.grown hgrow).cell e2; have k3 := (Gr.grown hgrow).cell e3; have g3 := (Gr.grown hgrow).frozen e3 f4; have HO := Lib.hid hown; have G3 := Lib.hid (Gr.grown hgrow); clear hown hgrow)
  have H0 : Hid (MulAt w2 w2.heap.size l k 0 w3) := Lib.hid (MulAt.start (by rw [HL.out.len, HK.out.len]) (hold_made HO.out) G3.out)
  clear HO k1 k2 k3 g3
  go_loopw [29] (fun i wr => ∃ j : Nat, j ≤ n ∧ i = .int .i64 j ∧ MulAt w2 w2.heap.size l k j wr) (fun i _ => n - (intOf i).toNat)
  case atStart => exact ⟨0, Nat.zero_le _, rfl, H0.out⟩
  case round =>
    obtain ⟨j, hj, rfl, hA⟩ := hrel
    have HA := Lib.hid hA
    have hGr : Gr w2 wr := hA.choose_spec.2.2.2.2
    have c2 := hGr.cell e2
    have c3 := hGr.cell e3
    have f3 := hGr.frozen e3 f4
    have HGR := Lib.hid (GB.out.trans hGr)
    have HGR2 := Lib.hid hGr
    clear hA hGr
    by_cases hlt : j < n
    · obtain ⟨b, off, rfl, hc⟩ := (HGR.out.rd HL.out.rd).at (by rw [HL.out.len]; omega)
      have hcj := hc j (by rw [HL.out.len]; omega)
      have hx := ok_get HL.out.ok j
      obtain ⟨s, hs, hso, hsh, hnext⟩ := HA.out.open HL.out.ok HK.out.ok (by rw [HL.out.len]; exact hlt)
      have HS := Lib.hid hs
      have HSO := Lib.hid hso
      have HSH := Lib.hid hsh
      have HNX := Lib.hid hnext
      clear hc hs hso hsh hnext
      generalize l[j]?.getD 0 = x at *
      go_wp2
      have hkl := HK.out.len
      have q1 : (j : Int) ≤ (j : Int) + (m : Int) + 1 := by omega
      have q2 : (n + m = j) = False := eq_false (by omega)
      have q3 : j + m + 1 - j = m + 1 := by omega
      have q4 : IntKind.i64.wrap ((j : Int) + (m : Int)) = (j : Int) + (m : Int) := IntWalk.i64_in _ (by omega)
      have q5 : IntKind.i64.wrap ((j : Int) + (m : Int) + 1) = (j : Int) + (m : Int) + 1 := IntWalk.i64_in _ (by omega)
      have q6 : (0 : Int) ≤ (j : Int) + (m : Int) + 1 := by omega
      have q7 : (j : Int) + (m : Int) + 1 ≤ (n : Int) + (m : Int) := by omega
      have q8 : ((j : Int) + (m : Int) + 1).toNat = j + m + 1 := by omega
      clear hkl
      go_still_tail 12, (by kernel_rfl)
      change wpList _ _ _ _ _ wr.drew
      have HSH2 : Hid (Hold wr.drew w2.heap.size j s) := Lib.hid HSH.out
      have HG4 : Hid (Gr w wr.drew) := Lib.hid HGR.out.drew
      have HWR : Hid (∀ w', Wr w2.heap.size j s.length wr.drew w' → Wr w2.heap.size j s.length wr w') := Lib.hid (fun w' hw => ((Wr.refl _ _ _ wr).drewN 1).trans hw)
      have c2d : wr.drew.cell? ⟨w.heap.size + 1, 0, none⟩ = some (.slice q m d) := c2
      clear HSH q1 q2 q3 q4 q5 q6 q7 q8 hcj c2 c3 f3 HGR
      generalize wr.drew = wd at *
      go_wp2_with fail
      refine (addProduct_n w2.heap.size j (m + 1) s (n + m - j) q m k d x (by rw [HS.out, HK.out.len]) HK.out.len hx HSO.out HK.out.ok (by omega) (by omega) wd HSH2.out (RdN.of HK.out.rd HG4.out (by omega))).mono ?_
      rintro e w5 ⟨cr, r, rfl, hrl, hro, hrh, hv, hc, hw⟩
      have HN := Lib.hid (HNX.out cr r w5 hrl hro hrh hv (HWR.out w5 hw) (Nat.le_refl _))
      clear hrl hro hrh hv hw
      go_wp2
      go_roundw
      case rel => exact ⟨j + 1, by omega, by go_num, HN.out⟩
      case measure => simp [intOf]; omega
    · obtain rfl : j = n := by omega
      obtain ⟨r, hrl, hro, hrh, hv, _⟩ := HA.out
      rw [← HL.out.len, List.take_length] at hv
      rw [HL.out.len, HK.out.len] at hrl
      have HRL := Lib.hid hrl
      have HRO := Lib.hid hro
      have HRH := Lib.hid hrh
      have HRV := Lib.hid hv
      clear hrl hro hrh hv HA
      go_wp2_with fail
      refine (fit_failed (some ⟨w2.heap.size, 0, none⟩) (j + m) (j + m) r HRL.out (Nat.le_refl _) (by omega) HRO.out _ HRH.out.rd (by rw [HRV.out]; exact HX.out)).mono ?_
      rintro e w6 ⟨rfl, hg6⟩
      have o3 := hg6.cell c3
      have of3 := hg6.frozen c3 f3
      have G6 := Lib.hid (HGR.out.trans hg6)
      clear hg6 c3 f3
      go_wp2
      exact bodyPost_ret (v := .tuple #[.agg #[.slice none 0 0], .int .i64 9]) (by simp [results, Try.results39, go_sem, o3]) rfl ⟨rfl, G6.out.setCell (by simp; omega) _⟩
end Go.Proofs.Ytiefnhpbniaklaa.Nk
