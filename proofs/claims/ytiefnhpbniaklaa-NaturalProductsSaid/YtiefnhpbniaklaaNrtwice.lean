/- The contract of the reference's twice. -/
import Derived.Test.YtiefnhpbniaklaaNrbld
import Derived.Deep.RegionHeld3
import Derived.Deep.Cut
namespace Go.Proofs.Ytiefnhpbniaklaa.Nr2
open Go.RowKit Go.Shelf Go.Proofs.Ytiefnhpbniaklaa.Nm Go.Proofs.Ytiefnhpbniaklaa.Ne Go.Proofs.Ytiefnhpbniaklaa.Nf Go.Proofs.Ytiefnhpbniaklaa.Nk Go.Proofs.Ytiefnhpbniaklaa.Nv

/-- k words of twice a number, and a bit. -/
def TwAt (x b k c : Nat) (r : List Nat) : Prop := r.length = k ∧ ok r ∧ val r + pw k * c = 2 * (x % pw k) + b ∧ c ≤ 1
theorem TwAt.start (x b : Nat) (hb : b ≤ 1) : TwAt x b 0 b [] := ⟨rfl, ok_nil, by have : pw 0 = 1 := rfl; rw [this, Nat.mod_one]; simp [val], hb⟩
theorem TwAt.step {x b k c : Nat} {r : List Nat} (h : TwAt x b k c r) : TwAt x b (k + 1) (dg x k / 2147483648) (r ++ [(dg x k * 2 + c) % 4294967296]) := by
  obtain ⟨h1, h2, h3, h4⟩ := h
  have d1 := dg_lt x k
  refine ⟨by simp [h1], ok_append.2 ⟨h2, ok_cons.2 ⟨Nat.mod_lt _ (by decide), ok_nil⟩⟩, ?_, by omega⟩
  rw [val_snoc, h1, mod_step]
  have e : pw (k + 1) = pw k * 4294967296 := by rw [pw_add]; rfl
  have e2 : (dg x k * 2 + c) % 4294967296 + 4294967296 * (dg x k / 2147483648) = dg x k * 2 + c := by omega
  have e3 : pw k * ((dg x k * 2 + c) % 4294967296) + pw k * 4294967296 * (dg x k / 2147483648) = pw k * dg x k * 2 + pw k * c := by
    rw [Nat.mul_assoc, ← Nat.mul_add, e2, Nat.mul_add, Nat.mul_assoc]
  rw [e]
  omega
theorem TwAt.done {x b k c : Nat} {r : List Nat} (h : TwAt x b k c r) (hx : x < pw k) : val (r ++ [c]) = 2 * x + b ∧ ok (r ++ [c]) := by
  obtain ⟨h1, h2, h3, h4⟩ := h
  rw [Nat.mod_eq_of_lt hx] at h3
  exact ⟨by rw [val_snoc, h1]; exact h3, ok_append.2 ⟨h2, ok_cons.2 ⟨by omega, ok_nil⟩⟩⟩

set_option maxRecDepth 100000 in
set_option maxHeartbeats 8000000 in
theorem rtwice_0 (p : Option Addr) (n c x : Nat) (hn : n ≤ 1000) (w : World) (h : Nw w p n c (digs x)) :
    Calls Try.prog 100 #[.agg #[.slice p n c], .bool false] w (Num (2 * x + Bool.toNat false) w) := by
  obtain ⟨i0, hi, hz0, hz1, hz2⟩ := info_parts infoW
  have HA := Lib.hid h
  have HXn : Hid (x < pw n) := Lib.hid ((digs_length_le x n).1 (by rw [h.len]; exact Nat.le_refl _))
  clear h
  obtain ⟨W0, hW0⟩ : ∃ W0, W0 = (w.alloc (.cells #[.slice p n c] 24)).alloc (.cells #[.slice none 0 0] 24) := ⟨_, rfl⟩
  have e0 : W0.heap.size = w.heap.size + 1 + 1 := by rw [hW0]; simp
  have KA : Hid (W0.cell? ⟨w.heap.size, 0, none⟩ = some (.slice p n c)) := Lib.hid (by rw [hW0]; simp [go_sem])
  have KC : Hid (W0.cell? ⟨w.heap.size + 1, 0, none⟩ = some (.slice none 0 0)) := Lib.hid (by rw [hW0]; simp [go_sem])
  have KF : Hid (W0.frozen? ⟨w.heap.size + 1, 0, none⟩ = false) := Lib.hid (by rw [hW0]; simp [go_sem])
  have GW : Hid (Gr w W0) := Lib.hid (by rw [hW0]; exact ((Gr.refl w).alloc _).alloc _)
  have HW0 := Lib.hid hW0
  have E0 := Lib.hid e0
  clear hW0 e0
  go_enter Try.func100, Try.ntmps100
  go_wp2
  go_loopw [5, 6, 7] (fun o cr i wr => ∃ (k cc : Nat) (r : List Nat), k ≤ n ∧ i = .int .i64 k ∧ cr = .int .u32 cc ∧ Hid (TwAt x (Bool.toNat false) k cc r) ∧ cc ≤ 1 ∧ Hid (Bld W0 o r wr) ∧ ∃ po co, o = .slice po k co) (fun _ _ i _ => n - (intOf i).toNat)
  case atStart => exact ⟨0, Bool.toNat false, [], Nat.zero_le _, rfl, rfl, TwAt.start x _ (by decide), by decide, by rw [← HW0.out]; exact Bld.start W0, none, 0, rfl⟩
  case round =>
    obtain ⟨k, cc, r, hk, rfl, rfl, HS, hcc, HBl, po, co, rfl⟩ := hrel
    have b1 := HBl.out.cell KA.out
    have HG : Hid (Gr w wr) := Lib.hid (GW.out.trans HBl.out.2.2)
    by_cases hlt : k < n
    · have HST := Lib.hid HS.out.step
      have hd1 := dg_lt x k
      have hdg := digs_get k x
      obtain ⟨b, off, rfl, hc⟩ := (HG.out.rd HA.out.rd).at (by rw [HA.out.len]; omega)
      have hc1 := hc k (by rw [HA.out.len]; omega)
      rw [show (digs x)[k]?.getD 0 = dg x k from hdg] at hc1
      clear hc hdg
      obtain ⟨a, ha⟩ : ∃ a, dg x k = a := ⟨_, rfl⟩
      rw [ha] at HST hd1 hc1
      obtain ⟨lo, hlo⟩ : ∃ lo, (a * 2 + cc) % 4294967296 = lo := ⟨_, rfl⟩
      obtain ⟨hh, hhi⟩ : ∃ hh, a / 2147483648 = hh := ⟨_, rfl⟩
      rw [hlo, hhi] at HST
      have m1 : IntKind.u32.wrap (IntKind.u32.wrap ((a : Int) * 2) + (cc : Int)) = (lo : Int) := by rw [IntKind.wrap_u32, IntKind.wrap_u32]; omega
      have m2 : ((a : Int) * 2 % 4294967296 + (cc : Int)) % 4294967296 = (lo : Int) := by omega
      have m3 : ((a : Int) * 2 + (cc : Int)) % 4294967296 = (lo : Int) := by omega
      have m5 : (a : Int) * 2 % 4294967296 + (cc : Int) = (lo : Int) := by omega
      have m4 : (a : Int) / 2147483648 = (hh : Int) := by omega
      have hh1 : hh ≤ 1 := by omega
      have HL : Hid (r.length = k) := Lib.hid HS.out.1
      have HOW := Lib.hid (HBl.out.row HL.out (.cells #[.int .u32 (lo : Int)] 62))
      have hbase : W0.heap.size ≤ (wr.alloc (.cells #[.int .u32 (lo : Int)] 62)).heap.size := Nat.le_trans HBl.out.2.2.size (by simp)
      have hk0 : (0 : Int) ≤ (k : Int) := by omega
      have hk1 : (k : Int) < (n : Int) := by omega
      have b3 := ((Gr.refl wr).alloc (.cells #[.int .u32 (lo : Int)] 62)).cell b1
      have HAV := Lib.hid ha
      clear ha hd1 hlo hhi hlt
      go_wp2_with (at_builtin; refine wpList_append_own _ rfl _ _ 22 rfl W0.heap.size 62 i0 (.int .u32 0) 1 4 Try.underlying22 hi hz0 hz1 hz2 rfl (by decide) (.slice po k co) k (cw r) rfl HOW.out ⟨wr.heap.size, 0, none⟩ 1 1 [.int .u32 (lo : Int)] rfl rfl (one_new wr lo) (by simp [Value.oneCell']) (by unfold maxLen; omega) (by omega) hbase ?_; intro v1 w3 hown hgrow _; have hb3 := Bld.step HL.out (HBl.out.grow ((Gr.refl wr).alloc _)) hown hgrow; have HB3 := Lib.hid hb3.1; obtain ⟨p3, cap3, rfl⟩ := hb3.2; have d1 := HB3.out.cell KA.out; have d2 := (Gr.trans GW.out HB3.out.2.2).rd HA.out.rd; obtain ⟨b', off', ee, hcc2⟩ := d2.at (by rw [HA.out.len]; omega); cases ee; have d3 := hcc2 k (by rw [HA.out.len]; omega); rw [show (digs x)[k]?.getD 0 = a from (digs_get k x).trans HAV.out] at d3; clear hown hgrow hb3 hbase d2 hcc2)
      go_roundw
      case rel => exact ⟨k + 1, hh, r ++ [lo], by omega, by go_num, rfl, HST, hh1, HB3, p3, cap3, rfl⟩
      case measure => simp [intOf]; omega
    · obtain rfl : k = n := by omega
      have HD := Lib.hid (HS.out.done HXn.out)
      have HL : Hid (r.length = k) := Lib.hid HS.out.1
      have HOW := Lib.hid (HBl.out.row HL.out (.cells #[.int .u32 (cc : Int)] 62))
      have hbase : W0.heap.size ≤ (wr.alloc (.cells #[.int .u32 (cc : Int)] 62)).heap.size := Nat.le_trans HBl.out.2.2.size (by simp)
      clear HS
      go_wp2_with (at_builtin; refine wpList_append_own _ rfl _ _ 22 rfl W0.heap.size 62 i0 (.int .u32 0) 1 4 Try.underlying22 hi hz0 hz1 hz2 rfl (by decide) (.slice po k co) k (cw r) rfl HOW.out ⟨wr.heap.size, 0, none⟩ 1 1 [.int .u32 (cc : Int)] rfl rfl (one_new wr cc) (by simp [Value.oneCell']) (by unfold maxLen; omega) (by omega) hbase ?_; intro v1 w3 hown hgrow _; have hb3 := Bld.step HL.out (HBl.out.grow ((Gr.refl wr).alloc _)) hown hgrow; have HB3 := Lib.hid hb3.1; obtain ⟨p3, cap3, rfl⟩ := hb3.2; clear hown hgrow hb3 hbase)
      refine (rtrim_any p3 (k + 1) cap3 (r ++ [cc]) _ (HB3.out.nw' HD.out.2 (by rw [List.length_append, HL.out]; simp; omega))).mono ?_
      rintro e w5 ⟨p5, n5, c5, rfl, hr, hg⟩
      have c5' := hg.cell (HB3.out.cell KC.out)
      have f5 := hg.frozen (HB3.out.cell KC.out) (HB3.out.frozen KC.out KF.out)
      have HR := Lib.hid (hr.mono (show w.heap.size + 1 + 1 ≤ _ by rw [← E0.out]; exact HB3.out.2.2.size))
      have GG := Lib.hid ((GW.out.trans HB3.out.2.2).trans hg)
      clear hr hg b1
      go_wp2
      refine bodyPost_ret (v := .agg #[.slice p5 n5 c5]) (by simp [results, Try.results100, go_sem, c5']) rfl ⟨_, _, _, rfl, ?_, GG.out.setCell (by simp) _⟩
      have h1 : val (r ++ [cc]) = 2 * x + Bool.toNat false := HD.out.1
      rw [← h1]
      exact (HR.out.set' _ _ (fun x e => own_ne HR.out e) (tight_digs _)).mono (by omega)

set_option maxRecDepth 100000 in
set_option maxHeartbeats 8000000 in
theorem rtwice_1 (p : Option Addr) (n c x : Nat) (hn : n ≤ 1000) (w : World) (h : Nw w p n c (digs x)) :
    Calls Try.prog 100 #[.agg #[.slice p n c], .bool true] w (Num (2 * x + Bool.toNat true) w) := by
  obtain ⟨i0, hi, hz0, hz1, hz2⟩ := info_parts infoW
  have HA := Lib.hid h
  have HXn : Hid (x < pw n) := Lib.hid ((digs_length_le x n).1 (by rw [h.len]; exact Nat.le_refl _))
  clear h
  obtain ⟨W0, hW0⟩ : ∃ W0, W0 = (w.alloc (.cells #[.slice p n c] 24)).alloc (.cells #[.slice none 0 0] 24) := ⟨_, rfl⟩
  have e0 : W0.heap.size = w.heap.size + 1 + 1 := by rw [hW0]; simp
  have KA : Hid (W0.cell? ⟨w.heap.size, 0, none⟩ = some (.slice p n c)) := Lib.hid (by rw [hW0]; simp [go_sem])
  have KC : Hid (W0.cell? ⟨w.heap.size + 1, 0, none⟩ = some (.slice none 0 0)) := Lib.hid (by rw [hW0]; simp [go_sem])
  have KF : Hid (W0.frozen? ⟨w.heap.size + 1, 0, none⟩ = false) := Lib.hid (by rw [hW0]; simp [go_sem])
  have GW : Hid (Gr w W0) := Lib.hid (by rw [hW0]; exact ((Gr.refl w).alloc _).alloc _)
  have HW0 := Lib.hid hW0
  have E0 := Lib.hid e0
  clear hW0 e0
  go_enter Try.func100, Try.ntmps100
  go_wp2
  go_loopw [5, 6, 7] (fun o cr i wr => ∃ (k cc : Nat) (r : List Nat), k ≤ n ∧ i = .int .i64 k ∧ cr = .int .u32 cc ∧ Hid (TwAt x (Bool.toNat true) k cc r) ∧ cc ≤ 1 ∧ Hid (Bld W0 o r wr) ∧ ∃ po co, o = .slice po k co) (fun _ _ i _ => n - (intOf i).toNat)
  case atStart => exact ⟨0, Bool.toNat true, [], Nat.zero_le _, rfl, rfl, TwAt.start x _ (by decide), by decide, by rw [← HW0.out]; exact Bld.start W0, none, 0, rfl⟩
  case round =>
    obtain ⟨k, cc, r, hk, rfl, rfl, HS, hcc, HBl, po, co, rfl⟩ := hrel
    have b1 := HBl.out.cell KA.out
    have HG : Hid (Gr w wr) := Lib.hid (GW.out.trans HBl.out.2.2)
    by_cases hlt : k < n
    · have HST := Lib.hid HS.out.step
      have hd1 := dg_lt x k
      have hdg := digs_get k x
      obtain ⟨b, off, rfl, hc⟩ := (HG.out.rd HA.out.rd).at (by rw [HA.out.len]; omega)
      have hc1 := hc k (by rw [HA.out.len]; omega)
      rw [show (digs x)[k]?.getD 0 = dg x k from hdg] at hc1
      clear hc hdg
      obtain ⟨a, ha⟩ : ∃ a, dg x k = a := ⟨_, rfl⟩
      rw [ha] at HST hd1 hc1
      obtain ⟨lo, hlo⟩ : ∃ lo, (a * 2 + cc) % 4294967296 = lo := ⟨_, rfl⟩
      obtain ⟨hh, hhi⟩ : ∃ hh, a / 2147483648 = hh := ⟨_, rfl⟩
      rw [hlo, hhi] at HST
      have m1 : IntKind.u32.wrap (IntKind.u32.wrap ((a : Int) * 2) + (cc : Int)) = (lo : Int) := by rw [IntKind.wrap_u32, IntKind.wrap_u32]; omega
      have m2 : ((a : Int) * 2 % 4294967296 + (cc : Int)) % 4294967296 = (lo : Int) := by omega
      have m3 : ((a : Int) * 2 + (cc : Int)) % 4294967296 = (lo : Int) := by omega
      have m5 : (a : Int) * 2 % 4294967296 + (cc : Int) = (lo : Int) := by omega
      have m4 : (a : Int) / 2147483648 = (hh : Int) := by omega
      have hh1 : hh ≤ 1 := by omega
      have HL : Hid (r.length = k) := Lib.hid HS.out.1
      have HOW := Lib.hid (HBl.out.row HL.out (.cells #[.int .u32 (lo : Int)] 62))
      have hbase : W0.heap.size ≤ (wr.alloc (.cells #[.int .u32 (lo : Int)] 62)).heap.size := Nat.le_trans HBl.out.2.2.size (by simp)
      have hk0 : (0 : Int) ≤ (k : Int) := by omega
      have hk1 : (k : Int) < (n : Int) := by omega
      have b3 := ((Gr.refl wr).alloc (.cells #[.int .u32 (lo : Int)] 62)).cell b1
      have HAV := Lib.hid ha
      clear ha hd1 hlo hhi hlt
      go_wp2_with (at_builtin; refine wpList_append_own _ rfl _ _ 22 rfl W0.heap.size 62 i0 (.int .u32 0) 1 4 Try.underlying22 hi hz0 hz1 hz2 rfl (by decide) (.slice po k co) k (cw r) rfl HOW.out ⟨wr.heap.size, 0, none⟩ 1 1 [.int .u32 (lo : Int)] rfl rfl (one_new wr lo) (by simp [Value.oneCell']) (by unfold maxLen; omega) (by omega) hbase ?_; intro v1 w3 hown hgrow _; have hb3 := Bld.step HL.out (HBl.out.grow ((Gr.refl wr).alloc _)) hown hgrow; have HB3 := Lib.hid hb3.1; obtain ⟨p3, cap3, rfl⟩ := hb3.2; have d1 := HB3.out.cell KA.out; have d2 := (Gr.trans GW.out HB3.out.2.2).rd HA.out.rd; obtain ⟨b', off', ee, hcc2⟩ := d2.at (by rw [HA.out.len]; omega); cases ee; have d3 := hcc2 k (by rw [HA.out.len]; omega); rw [show (digs x)[k]?.getD 0 = a from (digs_get k x).trans HAV.out] at d3; clear hown hgrow hb3 hbase d2 hcc2)
      go_roundw
      case rel => exact ⟨k + 1, hh, r ++ [lo], by omega, by go_num, rfl, HST, hh1, HB3, p3, cap3, rfl⟩
      case measure => simp [intOf]; omega
    · obtain rfl : k = n := by omega
      have HD := Lib.hid (HS.out.done HXn.out)
      have HL : Hid (r.length = k) := Lib.hid HS.out.1
      have HOW := Lib.hid (HBl.out.row HL.out (.cells #[.int .u32 (cc : Int)] 62))
      have hbase : W0.heap.size ≤ (wr.alloc (.cells #[.int .u32 (cc : Int)] 62)).heap.size := Nat.le_trans HBl.out.2.2.size (by simp)
      clear HS
      go_wp2_with (at_builtin; refine wpList_append_own _ rfl _ _ 22 rfl W0.heap.size 62 i0 (.int .u32 0) 1 4 Try.underlying22 hi hz0 hz1 hz2 rfl (by decide) (.slice po k co) k (cw r) rfl HOW.out ⟨wr.heap.size, 0, none⟩ 1 1 [.int .u32 (cc : Int)] rfl rfl (one_new wr cc) (by simp [Value.oneCell']) (by unfold maxLen; omega) (by omega) hbase ?_; intro v1 w3 hown hgrow _; have hb3 := Bld.step HL.out (HBl.out.grow ((Gr.refl wr).alloc _)) hown hgrow; have HB3 := Lib.hid hb3.1; obtain ⟨p3, cap3, rfl⟩ := hb3.2; clear hown hgrow hb3 hbase)
      refine (rtrim_any p3 (k + 1) cap3 (r ++ [cc]) _ (HB3.out.nw' HD.out.2 (by rw [List.length_append, HL.out]; simp; omega))).mono ?_
      rintro e w5 ⟨p5, n5, c5, rfl, hr, hg⟩
      have c5' := hg.cell (HB3.out.cell KC.out)
      have f5 := hg.frozen (HB3.out.cell KC.out) (HB3.out.frozen KC.out KF.out)
      have HR := Lib.hid (hr.mono (show w.heap.size + 1 + 1 ≤ _ by rw [← E0.out]; exact HB3.out.2.2.size))
      have GG := Lib.hid ((GW.out.trans HB3.out.2.2).trans hg)
      clear hr hg b1
      go_wp2
      refine bodyPost_ret (v := .agg #[.slice p5 n5 c5]) (by simp [results, Try.results100, go_sem, c5']) rfl ⟨_, _, _, rfl, ?_, GG.out.setCell (by simp) _⟩
      have h1 : val (r ++ [cc]) = 2 * x + Bool.toNat true := HD.out.1
      rw [← h1]
      exact (HR.out.set' _ _ (fun x e => own_ne HR.out e) (tight_digs _)).mono (by omega)
theorem rtwice_v (p : Option Addr) (n c x : Nat) (bit : Bool) (hn : n ≤ 1000) (w : World) (h : Nw w p n c (digs x)) :
    Calls Try.prog 100 #[.agg #[.slice p n c], .bool bit] w (Num (2 * x + bit.toNat) w) := by
  cases bit with
  | false => exact rtwice_0 p n c x hn w h
  | true => exact rtwice_1 p n c x hn w h
end Go.Proofs.Ytiefnhpbniaklaa.Nr2
