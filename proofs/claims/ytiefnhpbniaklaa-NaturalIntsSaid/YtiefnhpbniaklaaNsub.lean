/- The contract of natural's Sub. -/
import Derived.Test.YtiefnhpbniaklaaNshift
namespace Go.Proofs.Ytiefnhpbniaklaa.Nk
open Go.RowKit Go.Proofs.Ytiefnhpbniaklaa.Nm Go.Proofs.Ytiefnhpbniaklaa.Ne Go.Proofs.Ytiefnhpbniaklaa.Nf

set_option maxHeartbeats 2000000 in
theorem Sub_bad (p q : Option Addr) (n m c d : Nat) (l k : List Nat) (w : World) (hl : Nw w p n c l) (hk : Nw w q m d k) (hv : decide (valid l) = false ∨ decide (valid k) = false) :
    Calls Try.prog 34 #[.agg #[.slice p n c], .agg #[.slice q m d]] w (Failed 1 w) := by
  have HL := Lib.hid hl
  have HK := Lib.hid hk
  have HV := Lib.hid hv
  have G0 := Lib.hid ((((Gr.refl w).alloc (.cells #[.slice p n c] 24)).alloc (.cells #[.slice q m d] 24)).alloc (.cells #[.slice none 0 0] 24))
  clear hl hk hv
  go_enter Try.func34, Try.ntmps34
  go_wp2_with fail
  refine (Valid_n p n c l _ (HL.out.grow G0.out)).mono ?_
  rintro e w1 ⟨rfl, hg⟩
  have c2 := hg.cell (p := ⟨w.heap.size + 1, 0, none⟩) (v := .slice q m d) (by simp [go_sem])
  have c3 := hg.cell (p := ⟨w.heap.size + 1 + 1, 0, none⟩) (v := .slice none 0 0) (by simp [go_sem])
  have f3 := hg.frozen (p := ⟨w.heap.size + 1 + 1, 0, none⟩) (v := .slice none 0 0) (by simp [go_sem]) (by simp [go_sem])
  have GA := Lib.hid (G0.out.trans hg)
  clear hg
  cases hv1 : decide (valid l)
  · clear hv1
    go_wp2
    exact bodyPost_ret (v := .tuple #[.agg #[.slice none 0 0], .int .i64 1]) (by simp [results, Try.results34, go_sem, c3]) rfl ⟨rfl, GA.out.setCell (by simp; omega) _⟩
  · have hv2 : decide (valid k) = false := by
      rcases HV.out with h | h
      · rw [hv1] at h; cases h
      · exact h
    clear hv1
    go_wp2_with fail
    refine (Valid_n q m d k _ (HK.out.grow GA.out)).mono ?_
    rintro e w2 ⟨rfl, hg⟩
    rw [hv2]
    have e3 := hg.cell c3
    have f4 := hg.frozen c3 f3
    have GB := Lib.hid (GA.out.trans hg)
    clear hg hv2 c2 c3 f3
    go_wp2
    exact bodyPost_ret (v := .tuple #[.agg #[.slice none 0 0], .int .i64 1]) (by simp [results, Try.results34, go_sem, e3]) rfl ⟨rfl, GB.out.setCell (by simp; omega) _⟩


set_option maxRecDepth 100000 in
set_option maxHeartbeats 4000000 in
theorem Sub_neg (p q : Option Addr) (n m c d : Nat) (l k : List Nat) (w : World) (hl : Nw w p n c l) (hk : Nw w q m d k) (hv1 : decide (valid l) = true) (hv2 : decide (valid k) = true) (hx : val l < val k) :
    Calls Try.prog 34 #[.agg #[.slice p n c], .agg #[.slice q m d]] w (Failed 2 w) := by
  have HL := Lib.hid hl
  have HK := Lib.hid hk
  have HV1 := Lib.hid hv1
  have HV2 := Lib.hid hv2
  have HX := Lib.hid hx
  have hnb := (of_decide_eq_true hv1).1
  have hmb := (of_decide_eq_true hv2).1
  rw [hl.len] at hnb
  rw [hk.len] at hmb
  have G0 := Lib.hid ((((Gr.refl w).alloc (.cells #[.slice p n c] 24)).alloc (.cells #[.slice q m d] 24)).alloc (.cells #[.slice none 0 0] 24))
  clear hl hk hv1 hv2 hx
  go_enter Try.func34, Try.ntmps34
  go_wp2_with fail
  refine (Valid_n p n c l _ (HL.out.grow G0.out)).mono ?_
  rintro e w1 ⟨rfl, hg⟩
  rw [HV1.out]
  have c1 := hg.cell (p := ⟨w.heap.size, 0, none⟩) (v := .slice p n c) (by simp [go_sem])
  have c2 := hg.cell (p := ⟨w.heap.size + 1, 0, none⟩) (v := .slice q m d) (by simp [go_sem])
  have c3 := hg.cell (p := ⟨w.heap.size + 1 + 1, 0, none⟩) (v := .slice none 0 0) (by simp [go_sem])
  have f3 := hg.frozen (p := ⟨w.heap.size + 1 + 1, 0, none⟩) (v := .slice none 0 0) (by simp [go_sem]) (by simp [go_sem])
  have GA := Lib.hid (G0.out.trans hg)
  clear hg
  go_wp2_with fail
  refine (Valid_n q m d k _ (HK.out.grow GA.out)).mono ?_
  rintro e w2 ⟨rfl, hg⟩
  rw [HV2.out]
  have e1 := hg.cell c1
  have e2 := hg.cell c2
  have e3 := hg.cell c3
  have f4 := hg.frozen c3 f3
  have GB := Lib.hid (GA.out.trans hg)
  clear hg c1 c2 c3 f3 GA G0
  go_wp2_with fail
  refine (Compare_ok p q n m c d l k _ (HL.out.grow GB.out) (HK.out.grow GB.out) HV1.out HV2.out).mono ?_
  rintro e w3 ⟨rfl, hg⟩
  have k1 := hg.cell e1
  have k2 := hg.cell e2
  have k3 := hg.cell e3
  have g3 := hg.frozen e3 f4
  have GC := Lib.hid (GB.out.trans hg)
  clear hg e1 e2 e3 f4 GB
  rw [ord_lt HX.out]
  go_wp2
  exact bodyPost_ret (v := .tuple #[.agg #[.slice none 0 0], .int .i64 2]) (by simp [results, Try.results34, go_sem, k3]) rfl ⟨rfl, GC.out.setCell (by simp; omega) _⟩

set_option maxRecDepth 100000 in
set_option maxHeartbeats 4000000 in
theorem Sub_ok (p q : Option Addr) (n m c d : Nat) (l k : List Nat) (w : World) (hl : Nw w p n c l) (hk : Nw w q m d k) (hv1 : decide (valid l) = true) (hv2 : decide (valid k) = true) (hx : val k ≤ val l) :
    Calls Try.prog 34 #[.agg #[.slice p n c], .agg #[.slice q m d]] w (Gave (val l - val k) w) := by
  have HL := Lib.hid hl
  have HK := Lib.hid hk
  have HV1 := Lib.hid hv1
  have HV2 := Lib.hid hv2
  have HX := Lib.hid hx
  have hnb := (of_decide_eq_true hv1).1
  have hmb := (of_decide_eq_true hv2).1
  rw [hl.len] at hnb
  rw [hk.len] at hmb
  have G0 := Lib.hid ((((Gr.refl w).alloc (.cells #[.slice p n c] 24)).alloc (.cells #[.slice q m d] 24)).alloc (.cells #[.slice none 0 0] 24))
  clear hl hk hv1 hv2 hx
  go_enter Try.func34, Try.ntmps34
  go_wp2_with fail
  refine (Valid_n p n c l _ (HL.out.grow G0.out)).mono ?_
  rintro e w1 ⟨rfl, hg⟩
  rw [HV1.out]
  have c1 := hg.cell (p := ⟨w.heap.size, 0, none⟩) (v := .slice p n c) (by simp [go_sem])
  have c2 := hg.cell (p := ⟨w.heap.size + 1, 0, none⟩) (v := .slice q m d) (by simp [go_sem])
  have c3 := hg.cell (p := ⟨w.heap.size + 1 + 1, 0, none⟩) (v := .slice none 0 0) (by simp [go_sem])
  have f3 := hg.frozen (p := ⟨w.heap.size + 1 + 1, 0, none⟩) (v := .slice none 0 0) (by simp [go_sem]) (by simp [go_sem])
  have GA := Lib.hid (G0.out.trans hg)
  clear hg
  go_wp2_with fail
  refine (Valid_n q m d k _ (HK.out.grow GA.out)).mono ?_
  rintro e w2 ⟨rfl, hg⟩
  rw [HV2.out]
  have e1 := hg.cell c1
  have e2 := hg.cell c2
  have e3 := hg.cell c3
  have f4 := hg.frozen c3 f3
  have GB := Lib.hid (GA.out.trans hg)
  clear hg c1 c2 c3 f3 GA G0
  go_wp2_with fail
  refine (Compare_ok p q n m c d l k _ (HL.out.grow GB.out) (HK.out.grow GB.out) HV1.out HV2.out).mono ?_
  rintro e w3 ⟨rfl, hg⟩
  have k1 := hg.cell e1
  have k2 := hg.cell e2
  have k3 := hg.cell e3
  have g3 := hg.frozen e3 f4
  have GC := Lib.hid (GB.out.trans hg)
  clear hg e1 e2 e3 f4 GB
  have ho : 0 ≤ ord (val l) (val k) := by
    unfold ord
    have := HX.out
    rw [if_neg (by omega)]
    split <;> omega
  generalize ord (val l) (val k) = O at *
  go_wp2_with fail
  refine (clone_at p l n c HL.out.len HL.out.small HL.out.nil _ (GC.out.rd HL.out.rd)).mono ?_
  rintro e w4 ⟨a, cap, rfl, hac, han, how, hg⟩
  have m2 := hg.cell k2
  have m3 := hg.cell k3
  have mf := hg.frozen k3 g3
  have hz : w.heap.size + 1 + 1 < w3.heap.size := World.block_lt_of_cell? w3 _ k3
  have GD := Lib.hid (GC.out.trans hg)
  have HO := Lib.hid how
  have HA := Lib.hid han
  clear hg k1 k2 k3 g3 how han
  by_cases hn0 : n = 0
  · subst hn0
    have hl0 : l = [] := List.length_eq_zero_iff.1 HL.out.len
    have hk0 : k = [] := by
      have h1 := HX.out
      rw [hl0] at h1
      by_cases h : k = []
      · exact h
      · have := val_pos (of_decide_eq_true HV2.out).2 h
        simp [val] at h1
        omega
    have hm0 : m = 0 := by rw [← HK.out.len, hk0]; rfl
    subst hm0
    have E : Hid (val l - val k = val []) := Lib.hid (by rw [hl0]; simp [val])
    clear hl0 hk0
    go_wp2_with fail
    refine (takeProduct_nil a q cap d 1 _).mono ?_
    rintro e w5 ⟨rfl, rfl⟩
    go_wp2_with fail
    refine (fit_gave a 0 cap [] rfl (Nat.zero_le _) (by decide) (fun e => ⟨rfl, (HA.out e).2⟩) ok_nil w.heap.size _ (.inl rfl) (pw_pos 64)).mono ?_
    rintro e w6 ⟨n6, rfl, hr6, hg6⟩
    have o3 := hg6.cell m3
    have of3 := hg6.frozen m3 mf
    have G6 := Lib.hid (GD.out.trans hg6)
    have HR6 := Lib.hid hr6
    clear hg6 m3 mf hr6
    go_wp2
    exact bodyPost_ret (v := .tuple #[.agg #[.slice a n6 cap], .int .i64 0]) (by simp [results, Try.results34, go_sem, o3]) rfl
      ⟨_, _, _, rfl, by rw [E.out]; exact HR6.out.set' _ _ (fun x e => .inr (by rw [val_digs]; rfl)) (tight_digs _), G6.out.setCell (by simp; omega) _⟩
  · obtain ⟨b, off, rfl, hb, hh⟩ : ∃ b off, a = some ⟨b, off, none⟩ ∧ w3.heap.size ≤ b ∧ Hold w4 b off l := by
      rcases HO.out with h | ⟨b, off, h1, h2, h3⟩
      · exact absurd (by rw [← HL.out.len, h]; rfl) hn0
      · exact ⟨b, off, h1, h2, h3⟩
    have HH := Lib.hid hh
    have hmn : m ≤ n := by
      have := length_le_of_val HL.out.ok (of_decide_eq_true HV2.out).2 HX.out
      rwa [HL.out.len, HK.out.len] at this
    clear hh HO HA
    go_wp2_with fail
    refine (takeProduct_n b off n l cap q m k d 1 HL.out.len HK.out.len (by decide) HL.out.ok HK.out.ok (by omega) hmn w4 HH.out (RdN.of HK.out.rd GD.out (by have := GC.out.le; omega))).mono ?_
    rintro e w5 ⟨cr, r, rfl, hrl, hro, hrh, hv, hc, hw⟩
    rw [Nat.mul_one] at hv
    have hv2 : val r = val l - val k := by
      have h1 := val_lt hro
      rw [hrl] at h1
      rcases Nat.eq_zero_or_pos cr with h | h
      · subst h; omega
      · have := Nat.le_mul_of_pos_right (pw l.length) h
        have := HX.out
        omega
    have m5 := (hw.cellOf (b' := w.heap.size + 1 + 1) (o := 0) (by omega)).trans m3
    have mf5 := (hw.frozen ⟨w.heap.size + 1 + 1, 0, none⟩).trans mf
    have G5 := Lib.hid (Wr.gr GD.out hw (by have := GC.out.le; omega))
    have HRL : Hid (r.length = n) := Lib.hid (hrl.trans HL.out.len)
    have HRO := Lib.hid hro
    have HRH := Lib.hid hrh
    have HRV := Lib.hid hv2
    have hbw : w.heap.size ≤ b := by omega
    have HLT : Hid (val l - val k < pw 64) := Lib.hid (Nat.lt_of_le_of_lt (Nat.sub_le _ _) (Nat.lt_of_lt_of_le (val_lt HL.out.ok) (pw_mono (by rw [HL.out.len]; omega))))
    clear hrl hro hrh hv hv2 hw hc m2 m3 mf HH
    go_wp2_with fail
    refine (fit_gave (some ⟨b, off, none⟩) n cap r HRL.out hac (by omega) (fun e => by cases e) HRO.out w.heap.size w5 (HRH.out.own hbw) (by rw [HRV.out]; exact HLT.out)).mono ?_
    rintro e w6 ⟨n6, rfl, hr6, hg6⟩
    have o3 := hg6.cell m5
    have of3 := hg6.frozen m5 mf5
    have G6 := Lib.hid (G5.out.trans hg6)
    have HR6 := Lib.hid hr6
    clear hg6 m5 mf5 hr6
    go_wp2
    exact bodyPost_ret (v := .tuple #[.agg #[.slice (some ⟨b, off, none⟩) n6 cap], .int .i64 0]) (by simp [results, Try.results34, go_sem, o3]) rfl
      ⟨_, _, _, rfl, by rw [← HRV.out]; exact HR6.out.set _ _ (fun x e => by cases e; simp; omega), G6.out.setCell (by simp; omega) _⟩
end Go.Proofs.Ytiefnhpbniaklaa.Nk
