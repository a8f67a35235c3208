/- The contract of the reference's Sub. -/
import Derived.Test.YtiefnhpbniaklaaNrbld
import Derived.Deep.RegionHeld3
import Derived.Deep.Cut
namespace Go.Proofs.Ytiefnhpbniaklaa.Nr2
open Go.RowKit Go.Shelf Go.Proofs.Ytiefnhpbniaklaa.Nm Go.Proofs.Ytiefnhpbniaklaa.Ne Go.Proofs.Ytiefnhpbniaklaa.Nf Go.Proofs.Ytiefnhpbniaklaa.Nk Go.Proofs.Ytiefnhpbniaklaa.Nv

/-- k words of the difference. -/
def DifAt (x y k c : Nat) (r : List Nat) : Prop := r.length = k ∧ ok r ∧ val r + y % pw k = x % pw k + pw k * c ∧ c ≤ 1
theorem DifAt.start (x y : Nat) : DifAt x y 0 0 [] := ⟨rfl, ok_nil, by have : pw 0 = 1 := rfl; rw [this, Nat.mod_one, Nat.mod_one]; rfl, by decide⟩
theorem DifAt.step {x y k c v c' : Nat} {r : List Nat} (h : DifAt x y k c r) (hv : v < 4294967296) (hc : c' ≤ 1) (e : v + dg y k + c = dg x k + 4294967296 * c') : DifAt x y (k + 1) c' (r ++ [v]) := by
  obtain ⟨h1, h2, h3, h4⟩ := h
  refine ⟨by simp [h1], ok_append.2 ⟨h2, ok_cons.2 ⟨hv, ok_nil⟩⟩, ?_, hc⟩
  rw [val_snoc, h1, mod_step, mod_step]
  have e2 : pw (k + 1) = pw k * 4294967296 := by rw [pw_add]; rfl
  have e3 : pw k * v + pw k * dg y k + pw k * c = pw k * dg x k + pw k * 4294967296 * c' := by
    rw [← Nat.mul_add, ← Nat.mul_add, e, Nat.mul_add, Nat.mul_assoc]
  rw [e2]
  omega
theorem DifAt.done {x y k c : Nat} {r : List Nat} (h : DifAt x y k c r) (hx : x < pw k) (hyx : y ≤ x) : val r = x - y := by
  obtain ⟨h1, h2, h3, h4⟩ := h
  rw [Nat.mod_eq_of_lt hx, Nat.mod_eq_of_lt (Nat.lt_of_le_of_lt hyx hx)] at h3
  have h5 := val_lt h2
  rw [h1] at h5
  rcases Nat.eq_zero_or_pos c with h0 | h0
  · subst h0; omega
  · have : c = 1 := by omega
    subst this
    omega

set_option maxRecDepth 100000 in
set_option maxHeartbeats 8000000 in
theorem rsub_v (p q : Option Addr) (n c m d x y : Nat) (hn : n ≤ 1000) (hyx : y ≤ x) (w : World) (h : Nw w p n c (digs x)) (h2 : Nw w q m d (digs y)) :
    Calls Try.prog 38 #[.agg #[.slice p n c], .agg #[.slice q m d]] w (Num (x - y) w) := by
  obtain ⟨i0, hi, hz0, hz1, hz2⟩ := info_parts infoW
  have HA := Lib.hid h
  have HB := Lib.hid h2
  have HXn : Hid (x < pw n) := Lib.hid ((digs_length_le x n).1 (by rw [h.len]; exact Nat.le_refl _))
  have HYX := Lib.hid hyx
  clear h h2 hyx
  obtain ⟨W0, hW0⟩ : ∃ W0, W0 = ((w.alloc (.cells #[.slice p n c] 24)).alloc (.cells #[.slice q m d] 24)).alloc (.cells #[.slice none 0 0] 24) := ⟨_, rfl⟩
  have e0 : W0.heap.size = w.heap.size + 1 + 1 + 1 := by rw [hW0]; simp
  have KA : Hid (W0.cell? ⟨w.heap.size, 0, none⟩ = some (.slice p n c)) := Lib.hid (by rw [hW0]; simp [go_sem])
  have KB : Hid (W0.cell? ⟨w.heap.size + 1, 0, none⟩ = some (.slice q m d)) := Lib.hid (by rw [hW0]; simp [go_sem])
  have KC : Hid (W0.cell? ⟨w.heap.size + 1 + 1, 0, none⟩ = some (.slice none 0 0)) := Lib.hid (by rw [hW0]; simp [go_sem])
  have KF : Hid (W0.frozen? ⟨w.heap.size + 1 + 1, 0, none⟩ = false) := Lib.hid (by rw [hW0]; simp [go_sem])
  have GW : Hid (Gr w W0) := Lib.hid (by rw [hW0]; exact (((Gr.refl w).alloc _).alloc _).alloc _)
  have HW0 := Lib.hid hW0
  have E0 := Lib.hid e0
  clear hW0 e0
  go_enter Try.func38, Try.ntmps38
  go_wp2
  go_loopw [5, 6, 7] (fun o cr i wr => ∃ (k cc : Nat) (r : List Nat), k ≤ n ∧ i = .int .i64 k ∧ cr = .int .i64 cc ∧ Hid (DifAt x y k cc r) ∧ cc ≤ 1 ∧ Hid (Bld W0 o r wr) ∧ ∃ po co, o = .slice po k co) (fun _ _ i _ => n - (intOf i).toNat)
  case atStart => exact ⟨0, 0, [], Nat.zero_le _, rfl, rfl, DifAt.start x y, by decide, by rw [← HW0.out]; exact Bld.start W0, none, 0, rfl⟩
  case round =>
    obtain ⟨k, cc, r, hk, rfl, rfl, HS, hcc, HBl, po, co, rfl⟩ := hrel
    have b1 := HBl.out.cell KA.out
    have b2 := HBl.out.cell KB.out
    have HG : Hid (Gr w wr) := Lib.hid (GW.out.trans HBl.out.2.2)
    by_cases hlt : k < n
    · have HK1 := Lib.hid (fun W (hW : Gr w W) => rword_v p n c k x W (HA.out.grow hW))
      have HK2 := Lib.hid (fun W (hW : Gr w W) => rword_v q m d k y W (HB.out.grow hW))
      have HST := Lib.hid (fun v c' => HS.out.step (v := v) (c' := c'))
      have hd1 := dg_lt x k
      have hd2 := dg_lt y k
      obtain ⟨a, ha⟩ : ∃ a, dg x k = a := ⟨_, rfl⟩
      obtain ⟨b, hb⟩ : ∃ b, dg y k = b := ⟨_, rfl⟩
      rw [ha] at HK1 hd1
      rw [hb] at HK2 hd2
      simp only [ha, hb] at HST
      have w1 : IntKind.i64.wrap ((a : Int) - (b : Int)) = (a : Int) - (b : Int) := IntWalk.i64_in _ (by omega)
      have HL : Hid (r.length = k) := Lib.hid HS.out.1
      by_cases hneg : a < b + cc
      · obtain ⟨v, hv⟩ : ∃ v, a + 4294967296 - b - cc = v := ⟨_, rfl⟩
        obtain ⟨D, hD⟩ : ∃ D : Int, (a : Int) - (b : Int) - (cc : Int) = D := ⟨_, rfl⟩
        have w2 : IntKind.i64.wrap ((a : Int) - (b : Int) - (cc : Int)) = D := by rw [hD]; exact IntWalk.i64_in _ (by omega)
        have hD0 : D < 0 := by omega
        have w3 : IntKind.i64.wrap (D + 4294967296) = (v : Int) := by rw [IntWalk.i64_in _ (by omega)]; omega
        have u1 : IntKind.u32.wrap (v : Int) = (v : Int) := by rw [IntKind.wrap_u32]; omega
        have u2 : (v : Int) % 4294967296 = (v : Int) := by omega
        have HS2 := Lib.hid (HST.out v 1 (by omega) (by decide) (by omega))
        clear ha hb hd1 hd2 hneg hv hD
        have Z1 : wr.drew.cell? ⟨w.heap.size, 0, none⟩ = some (.slice p n c) := b1
        have Z2 : wr.drew.cell? ⟨w.heap.size + 1, 0, none⟩ = some (.slice q m d) := b2
        have GD : Gr w wr.drew := HG.out.drew
        have GR : Gr wr wr.drew := (Gr.refl wr).drew
        go_upto_region 6 with fail
        clear b1 b2
        first
        | (go_region_held3 (fun W' => W'.cell? ⟨w.heap.size, 0, none⟩ = some (.slice p n c) ∧ W'.cell? ⟨w.heap.size + 1, 0, none⟩ = some (.slice q m d) ∧ Gr w W' ∧ Gr wr W')
            (first | exact ⟨Z1, Z2, GD, GR⟩ | (refine ⟨?_, ?_, ?_, ?_⟩ <;> assumption))
            (first
            | (go_at_call_of 88 p; refine (HK1.out _ ?_).mono ?_; assumption; rintro e y1 ⟨rfl, hg1⟩; have z1 := hg1.cell (p := ⟨w.heap.size, 0, none⟩) (v := .slice p n c) (by assumption); have z2 := hg1.cell (p := ⟨w.heap.size + 1, 0, none⟩) (v := .slice q m d) (by assumption); have g1 : Gr w y1 := Gr.trans (by assumption) hg1; have r1 : Gr wr y1 := Gr.trans (by assumption) hg1)
            | (go_at_call_of 88 q; refine (HK2.out _ ?_).mono ?_; assumption; rintro e y2 ⟨rfl, hg2⟩; have x1 := hg2.cell (p := ⟨w.heap.size, 0, none⟩) (v := .slice p n c) (by assumption); have x2 := hg2.cell (p := ⟨w.heap.size + 1, 0, none⟩) (v := .slice q m d) (by assumption); have g2 : Gr w y2 := Gr.trans (by assumption) hg2; have r2 : Gr wr y2 := Gr.trans (by assumption) hg2)))
        | fail
        have HB2 := Lib.hid (HBl.out.grow r2)
        have HOW := Lib.hid (HB2.out.row HL.out (.cells #[.int .u32 (v : Int)] 62))
        have hbase : W0.heap.size ≤ (y2.alloc (.cells #[.int .u32 (v : Int)] 62)).heap.size := Nat.le_trans HB2.out.2.2.size (by simp)
        clear Z1 Z2 GD GR z1 z2 g1 r1 hg1 hg2 x1 x2 r2
        go_wp2_with (at_builtin; refine wpList_append_own _ rfl _ _ 22 rfl W0.heap.size 62 i0 (.int .u32 0) 1 4 Try.underlying22 hi hz0 hz1 hz2 rfl (by decide) (.slice po k co) k (cw r) rfl HOW.out ⟨y2.heap.size, 0, none⟩ 1 1 [.int .u32 (v : Int)] rfl rfl (one_new y2 v) (by simp [Value.oneCell']) (by unfold maxLen; omega) (by omega) hbase ?_; intro v1 w3 hown hgrow _; have hb3 := Bld.step HL.out (HB2.out.grow ((Gr.refl y2).alloc _)) hown hgrow; have HB3 := Lib.hid hb3.1; obtain ⟨p3, cap3, rfl⟩ := hb3.2; clear hown hgrow hb3 hbase)
        go_roundw
        case rel => exact ⟨k + 1, 1, r ++ [v], by omega, by go_num, rfl, HS2, by decide, HB3, p3, cap3, rfl⟩
        case measure => simp [intOf]; omega
      · obtain ⟨v, hv⟩ : ∃ v, a - b - cc = v := ⟨_, rfl⟩
        have w2 : IntKind.i64.wrap ((a : Int) - (b : Int) - (cc : Int)) = (v : Int) := by rw [IntWalk.i64_in _ (by omega)]; omega
        have hD0 : ¬ (v : Int) < 0 := by omega
        have u1 : IntKind.u32.wrap (v : Int) = (v : Int) := by rw [IntKind.wrap_u32]; omega
        have u2 : (v : Int) % 4294967296 = (v : Int) := by omega
        have HS2 := Lib.hid (HST.out v 0 (by omega) (by decide) (by omega))
        clear ha hb hd1 hd2 hneg hv
        have Z1 : wr.drew.cell? ⟨w.heap.size, 0, none⟩ = some (.slice p n c) := b1
        have Z2 : wr.drew.cell? ⟨w.heap.size + 1, 0, none⟩ = some (.slice q m d) := b2
        have GD : Gr w wr.drew := HG.out.drew
        have GR : Gr wr wr.drew := (Gr.refl wr).drew
        go_upto_region 6 with fail
        clear b1 b2
        first
        | (go_region_held3 (fun W' => W'.cell? ⟨w.heap.size, 0, none⟩ = some (.slice p n c) ∧ W'.cell? ⟨w.heap.size + 1, 0, none⟩ = some (.slice q m d) ∧ Gr w W' ∧ Gr wr W')
            (first | exact ⟨Z1, Z2, GD, GR⟩ | (refine ⟨?_, ?_, ?_, ?_⟩ <;> assumption))
            (first
            | (go_at_call_of 88 p; refine (HK1.out _ ?_).mono ?_; assumption; rintro e y1 ⟨rfl, hg1⟩; have z1 := hg1.cell (p := ⟨w.heap.size, 0, none⟩) (v := .slice p n c) (by assumption); have z2 := hg1.cell (p := ⟨w.heap.size + 1, 0, none⟩) (v := .slice q m d) (by assumption); have g1 : Gr w y1 := Gr.trans (by assumption) hg1; have r1 : Gr wr y1 := Gr.trans (by assumption) hg1)
            | (go_at_call_of 88 q; refine (HK2.out _ ?_).mono ?_; assumption; rintro e y2 ⟨rfl, hg2⟩; have x1 := hg2.cell (p := ⟨w.heap.size, 0, none⟩) (v := .slice p n c) (by assumption); have x2 := hg2.cell (p := ⟨w.heap.size + 1, 0, none⟩) (v := .slice q m d) (by assumption); have g2 : Gr w y2 := Gr.trans (by assumption) hg2; have r2 : Gr wr y2 := Gr.trans (by assumption) hg2)))
        | fail
        have HB2 := Lib.hid (HBl.out.grow r2)
        have HOW := Lib.hid (HB2.out.row HL.out (.cells #[.int .u32 (v : Int)] 62))
        have hbase : W0.heap.size ≤ (y2.alloc (.cells #[.int .u32 (v : Int)] 62)).heap.size := Nat.le_trans HB2.out.2.2.size (by simp)
        clear Z1 Z2 GD GR z1 z2 g1 r1 hg1 hg2 x1 x2 r2
        go_wp2_with (at_builtin; refine wpList_append_own _ rfl _ _ 22 rfl W0.heap.size 62 i0 (.int .u32 0) 1 4 Try.underlying22 hi hz0 hz1 hz2 rfl (by decide) (.slice po k co) k (cw r) rfl HOW.out ⟨y2.heap.size, 0, none⟩ 1 1 [.int .u32 (v : Int)] rfl rfl (one_new y2 v) (by simp [Value.oneCell']) (by unfold maxLen; omega) (by omega) hbase ?_; intro v1 w3 hown hgrow _; have hb3 := Bld.step HL.out (HB2.out.grow ((Gr.refl y2).alloc _)) hown hgrow; have HB3 := Lib.hid hb3.1; obtain ⟨p3, cap3, rfl⟩ := hb3.2; clear hown hgrow hb3 hbase)
        go_roundw
        case rel => exact ⟨k + 1, 0, r ++ [v], by omega, by go_num, rfl, HS2, by decide, HB3, p3, cap3, rfl⟩
        case measure => simp [intOf]; omega
    · obtain rfl : k = n := by omega
      have HD := Lib.hid (HS.out.done HXn.out HYX.out)
      have HOK := Lib.hid HS.out.2.1
      have HL : Hid (r.length = k) := Lib.hid HS.out.1
      clear HS
      go_wp2_with fail
      refine (rtrim_any po k co r _ (HBl.out.nw' HOK.out (by rw [HL.out]; omega))).mono ?_
      rintro e w5 ⟨p5, n5, c5, rfl, hr, hg⟩
      have c5' := hg.cell (HBl.out.cell KC.out)
      have f5 := hg.frozen (HBl.out.cell KC.out) (HBl.out.frozen KC.out KF.out)
      have HR := Lib.hid (hr.mono (show w.heap.size + 1 + 1 + 1 ≤ _ by rw [← E0.out]; exact HBl.out.2.2.size))
      have GG := Lib.hid ((GW.out.trans HBl.out.2.2).trans hg)
      clear hr hg b1 b2
      go_wp2
      refine bodyPost_ret (v := .agg #[.slice p5 n5 c5]) (by simp [results, Try.results38, go_sem, c5']) rfl ⟨_, _, _, rfl, ?_, GG.out.setCell (by simp; omega) _⟩
      have h1 : val r = x - y := HD.out
      rw [← h1]
      exact (HR.out.set' _ _ (fun x e => own_ne HR.out e) (tight_digs _)).mono (by omega)
end Go.Proofs.Ytiefnhpbniaklaa.Nr2
