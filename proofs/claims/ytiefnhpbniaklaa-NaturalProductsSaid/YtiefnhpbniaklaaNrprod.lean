/- The contracts of the reference's product and Mul. -/
import Derived.Test.YtiefnhpbniaklaaNrbld
import Derived.Deep.QuietTactic
import Derived.BigQuiet
namespace Go.Proofs.Ytiefnhpbniaklaa.Nr2
open Go.RowKit Go.Shelf Go.Proofs.Ytiefnhpbniaklaa.Nm Go.Proofs.Ytiefnhpbniaklaa.Ne Go.Proofs.Ytiefnhpbniaklaa.Nf Go.Proofs.Ytiefnhpbniaklaa.Nk Go.Proofs.Ytiefnhpbniaklaa.Nv

theorem val_set : ∀ (r : List Nat) (j v : Nat), j < r.length → val (r.set j v) + pw j * r[j]?.getD 0 = val r + pw j * v
  | [], _, _, h => by simp at h
  | a :: r, 0, v, _ => by
    have p0 : pw 0 = 1 := rfl
    simp only [List.set_cons_zero, List.getElem?_cons_zero, Option.getD_some, val, p0]
    omega
  | a :: r, j + 1, v, h => by
    have := val_set r j v (by simpa using h)
    simp only [List.set_cons_succ, List.getElem?_cons_succ, val]
    have e : pw (j + 1) = 4294967296 * pw j := rfl
    rw [e, Nat.mul_assoc, Nat.mul_assoc]
    omega
/-- Row i of the product, k words of it: the words r, the carry c. -/
def RowAt (x y m N i k c : Nat) (r : List Nat) : Prop :=
  r.length = N ∧ ok r ∧ val r + pw (i + k) * c = x % pw i * y + pw i * (dg x i * (y % pw k)) ∧ c < 4294967296 ∧ ∀ j, i + m ≤ j → r[j]?.getD 0 = 0
def ProdAt (x y m N i : Nat) (r : List Nat) : Prop :=
  r.length = N ∧ ok r ∧ val r = x % pw i * y ∧ ∀ j, i + m ≤ j → r[j]?.getD 0 = 0
theorem ProdAt.start (x y m N : Nat) : ProdAt x y m N 0 (List.replicate N 0) :=
  ⟨by simp, ok_replicate N, by have p0 : pw 0 = 1 := rfl; rw [p0, Nat.mod_one, Nat.zero_mul]; exact val_replicate N, fun j _ => by
    rw [List.getElem?_replicate]; split <;> rfl⟩
theorem ProdAt.row {x y m N i : Nat} {r : List Nat} (h : ProdAt x y m N i r) : RowAt x y m N i 0 0 r := by
  obtain ⟨h1, h2, h3, h4⟩ := h
  have p0 : pw 0 = 1 := rfl
  exact ⟨h1, h2, by rw [h3, p0, Nat.mod_one]; simp, by decide, h4⟩
theorem row_bound {a b o c : Nat} (ha : a < 4294967296) (hb : b < 4294967296) (ho : o < 4294967296) (hc : c < 4294967296) : a * b + o + c < 18446744073709551616 := by
  have := Nat.mul_le_mul (show a ≤ 4294967295 by omega) (show b ≤ 4294967295 by omega)
  omega
theorem RowAt.step {x y m N i k c : Nat} {r : List Nat} (h : RowAt x y m N i k c r) (hk : k < m) (hN : i + k < N) :
    RowAt x y m N i (k + 1) ((dg x i * dg y k + r[i + k]?.getD 0 + c) / 4294967296) (r.set (i + k) ((dg x i * dg y k + r[i + k]?.getD 0 + c) % 4294967296)) := by
  obtain ⟨h1, h2, h3, h4, h5⟩ := h
  have b := row_bound (dg_lt x i) (dg_lt y k) (ok_get h2 (i + k)) h4
  have hs := val_set r (i + k) ((dg x i * dg y k + r[i + k]?.getD 0 + c) % 4294967296) (by omega)
  obtain ⟨o, ho⟩ : ∃ o, r[i + k]?.getD 0 = o := ⟨_, rfl⟩
  rw [ho] at hs b ⊢
  obtain ⟨t, ht⟩ : ∃ t, dg x i * dg y k + o + c = t := ⟨_, rfl⟩
  have e1 : pw (i + (k + 1)) = pw (i + k) * 4294967296 := by rw [← Nat.add_assoc, pw_add]; rfl
  have e2 : pw (i + k) * (t % 4294967296) + pw (i + k) * 4294967296 * (t / 4294967296) = pw (i + k) * t := by
    rw [Nat.mul_assoc, ← Nat.mul_add, Nat.mod_add_div]
  have e3 : pw (i + k) * t = pw (i + k) * (dg x i * dg y k) + pw (i + k) * o + pw (i + k) * c := by rw [← ht, Nat.mul_add, Nat.mul_add]
  have e4 : pw i * (dg x i * (y % pw (k + 1))) = pw i * (dg x i * (y % pw k)) + pw (i + k) * (dg x i * dg y k) := by
    rw [mod_step, Nat.mul_add, Nat.mul_add, pw_add i k, Nat.mul_left_comm (dg x i) (pw k), Nat.mul_assoc (pw i) (pw k)]
  rw [ht] at hs ⊢
  refine ⟨by simpa using h1, ok_set h2 _ _ (Nat.mod_lt _ (by decide)), ?_, by omega, fun j hj => ?_⟩
  · rw [e1, e4]
    omega
  · rw [List.getElem?_set_ne (by omega)]
    exact h5 j hj
theorem RowAt.done {x y m N i c : Nat} {r : List Nat} (h : RowAt x y m N i m c r) (hy : y < pw m) (hN : i + m < N) : ProdAt x y m N (i + 1) (r.set (i + m) c) := by
  obtain ⟨h1, h2, h3, h4, h5⟩ := h
  have hs := val_set r (i + m) c (by omega)
  rw [h5 (i + m) (Nat.le_refl _)] at hs
  rw [Nat.mod_eq_of_lt hy] at h3
  refine ⟨by simpa using h1, ok_set h2 _ _ h4, ?_, fun j hj => ?_⟩
  · rw [mod_step, Nat.add_mul, Nat.mul_assoc]
    omega
  · rw [List.getElem?_set_ne (by omega)]
    exact h5 j (by omega)

theorem hold_set0 {w : World} {g k x : Nat} {r : List Nat} (h : Hold w g 0 r) (hk : k < r.length) : Hold (w.setCell ⟨g, k, none⟩ (.int .u32 (x : Int))) g 0 (r.set k x) := by
  have := h.set k x hk
  rwa [Nat.zero_add] at this
theorem wr_set0 {u w : World} {g k N : Nat} {v : Value} (h : Wr g 0 N u w) (hk : k < N) : Wr g 0 N u (w.setCell ⟨g, k, none⟩ v) := by
  have := h.setCell k hk v
  rwa [Nat.zero_add] at this
theorem hold_drewN {w : World} {g n : Nat} {r : List Nat} (h : Hold w g 0 r) : Hold (w.drewN n) g 0 r := h
theorem hold_at {w : World} {g k : Nat} {r : List Nat} (h : Hold w g 0 r) (hk : k < r.length) : w.cell? ⟨g, k, none⟩ = some (.int .u32 ((r[k]?.getD 0 : Nat) : Int)) ∧ w.frozen? ⟨g, k, none⟩ = false := by
  have := h k hk
  rwa [Nat.zero_add] at this
theorem hold_nw {w : World} {g n : Nat} {r : List Nat} (h : Hold w g 0 r) (hl : r.length = n) (hok : ok r) (hs : n ≤ 1048576) : Nw w (some ⟨g, 0, none⟩) n n r :=
  ⟨hl, Nat.le_refl _, (fun e => by cases e), .inr ⟨g, 0, rfl, fun i hi => (h i hi).1⟩, hok, hs⟩

set_option maxRecDepth 100000 in
set_option maxHeartbeats 16000000 in
theorem rproduct_v (p q : Option Addr) (n c m d x y : Nat) (hn : n ≤ 1000) (hm : m ≤ 1000) (w : World) (h : Nw w p n c (digs x)) (h2 : Nw w q m d (digs y)) :
    Calls Try.prog 99 #[.agg #[.slice p n c], .agg #[.slice q m d]] w (Num (x * y) w) := by
  obtain ⟨i0, hi, hz0, hz1, hz2⟩ := info_parts infoW
  have HA := Lib.hid h
  have HB := Lib.hid h2
  have HXn : Hid (x < pw n) := Lib.hid ((digs_length_le x n).1 (by rw [h.len]; exact Nat.le_refl _))
  have HYm : Hid (y < pw m) := Lib.hid ((digs_length_le y m).1 (by rw [h2.len]; exact Nat.le_refl _))
  clear h h2
  have s1 : IntKind.i64.wrap ((n : Int) + (m : Int)) = (n : Int) + (m : Int) := IntWalk.i64_in _ (by omega)
  have s2 : IntKind.i64.wrap ((n : Int) + (m : Int) + 1) = (n : Int) + (m : Int) + 1 := IntWalk.i64_in _ (by omega)
  obtain ⟨W0, hW0⟩ : ∃ W0, W0 = ((w.alloc (.cells #[.slice p n c] 24)).alloc (.cells #[.slice q m d] 24)).alloc (.cells #[.slice none 0 0] 24) := ⟨_, rfl⟩
  have e0 : W0.heap.size = w.heap.size + 1 + 1 + 1 := by rw [hW0]; simp
  have k1 : W0.cell? ⟨w.heap.size, 0, none⟩ = some (.slice p n c) := by rw [hW0]; simp [go_sem]
  have k2 : W0.cell? ⟨w.heap.size + 1, 0, none⟩ = some (.slice q m d) := by rw [hW0]; simp [go_sem]
  have k3 : W0.cell? ⟨w.heap.size + 1 + 1, 0, none⟩ = some (.slice none 0 0) := by rw [hW0]; simp [go_sem]
  have f3 : W0.frozen? ⟨w.heap.size + 1 + 1, 0, none⟩ = false := by rw [hW0]; simp [go_sem]
  have GW : Hid (Gr w W0) := Lib.hid (by rw [hW0]; exact (((Gr.refl w).alloc _).alloc _).alloc _)
  have E0 := Lib.hid e0
  clear e0
  go_enter Try.func99, Try.ntmps99
  go_upto_region 1 with fail
  rw [← hW0]
  clear hW0
  go_wp2_with (refine wpList_make_full _ rfl _ _ _ rfl W0.heap.size 62 i0 (.int .u32 0) 1 Try.underlying22 hi hz0 hz1 .i64 .i64 _ _ (n + m + 1) rfl rfl (by omega) (by omega) (by rw [hz2]; omega) (by unfold maxLen; omega) (Nat.le_refl _) ?_; intro w3 hown hgrow; have c1 := (Gr.grown hgrow).cell k1; have c2 := (Gr.grown hgrow).cell k2; have c3 := (Gr.grown hgrow).cell k3; have g3 := (Gr.grown hgrow).frozen k3 f3; have HO := Lib.hid hown; have G3 := Lib.hid (Gr.grown hgrow); clear hown hgrow)
  clear c1 c2 c3 g3
  have HK1 := Lib.hid ((Gr.refl W0).cell k1)
  have HK2 := Lib.hid ((Gr.refl W0).cell k2)
  have HK3 := Lib.hid ((Gr.refl W0).cell k3)
  have HF3 := Lib.hid f3
  obtain ⟨N, hN⟩ : ∃ N, n + m + 1 = N := ⟨_, rfl⟩
  obtain ⟨g, hg⟩ : ∃ g, W0.heap.size = g := ⟨_, rfl⟩
  rw [hN, hg] at HO ⊢
  have HNN := Lib.hid hN
  have HGG := Lib.hid hg
  clear k1 k2 k3 f3 hN hg
  go_loopw [6] (fun i wr => ∃ (j : Nat) (r : List Nat), j ≤ n ∧ i = .int .i64 j ∧ Hid (ProdAt x y m N j r) ∧ Hid (Hold wr g 0 r) ∧ Hid (Wr g 0 N w3 wr)) (fun i _ => n - (intOf i).toNat)
  case atStart => exact ⟨0, List.replicate N 0, Nat.zero_le _, rfl, ProdAt.start x y m N, hold_made HO.out, Wr.refl _ _ _ _⟩
  case round =>
    obtain ⟨j, r, hj, rfl, HP, HH, HW⟩ := hrel
    have HG0 : Hid (Gr W0 wr) := Lib.hid (Wr.gr G3.out HW.out (by rw [HGG.out]; exact Nat.le_refl _))
    have b1 := HG0.out.cell HK1.out
    have b2 := HG0.out.cell HK2.out
    by_cases hlt : j < n
    · have HR0 := Lib.hid HP.out.row
      go_wp2
      go_loopw [7, 8] (fun cr i wi => ∃ (k cc : Nat) (r' : List Nat), k ≤ m ∧ i = .int .i64 k ∧ cr = .int .u64 cc ∧ Hid (RowAt x y m N j k cc r') ∧ Hid (Hold wi g 0 r') ∧ Hid (Wr g 0 N w3 wi)) (fun _ i _ => m - (intOf i).toNat)
      case atStart => exact ⟨0, 0, r, Nat.zero_le _, rfl, rfl, HR0, HH, HW⟩
      case round =>
        obtain ⟨k, cc, r', hk, rfl, rfl, HRA, HHi, HWi⟩ := hrel
        have HG1 : Hid (Gr W0 wr) := Lib.hid (Wr.gr G3.out HWi.out (by rw [HGG.out]; exact Nat.le_refl _))
        have HGw : Hid (Gr w wr) := Lib.hid (GW.out.trans HG1.out)
        have b1 := HG1.out.cell HK1.out
        have b2 := HG1.out.cell HK2.out
        have hcc := HRA.out.2.2.2.1
        have hNN := HNN.out
        by_cases hkm : k < m
        · obtain ⟨ba, oa, rfl, hca⟩ := (HGw.out.rd HA.out.rd).at (by rw [HA.out.len]; omega)
          obtain ⟨bb, ob, rfl, hcb⟩ := (HGw.out.rd HB.out.rd).at (by rw [HB.out.len]; omega)
          have hc1 := hca j (by rw [HA.out.len]; omega)
          have hc2 := hcb k (by rw [HB.out.len]; omega)
          rw [show (digs x)[j]?.getD 0 = dg x j from digs_get j x] at hc1
          rw [show (digs y)[k]?.getD 0 = dg y k from digs_get k y] at hc2
          obtain ⟨hco, hcf⟩ := hold_at HHi.out (show j + k < r'.length by rw [HRA.out.1]; omega)
          have HST := Lib.hid (HRA.out.step hkm (by omega))
          have hbd := row_bound (dg_lt x j) (dg_lt y k) (ok_get HRA.out.2.1 (j + k)) hcc
          have la := dg_lt x j
          have lb := dg_lt y k
          have lo2 := ok_get HRA.out.2.1 (j + k)
          obtain ⟨a, ha⟩ : ∃ a, dg x j = a := ⟨_, rfl⟩
          obtain ⟨b, hb⟩ : ∃ b, dg y k = b := ⟨_, rfl⟩
          obtain ⟨o, ho⟩ : ∃ o, r'[j + k]?.getD 0 = o := ⟨_, rfl⟩
          rw [ha] at HST hbd hc1 la
          rw [hb] at HST hbd hc2 lb
          rw [ho] at HST hbd hco lo2
          obtain ⟨Q, hQ⟩ : ∃ Q, a * b = Q := ⟨_, rfl⟩
          rw [hQ] at HST hbd
          obtain ⟨lo, hlo⟩ : ∃ lo, (Q + o + cc) % 4294967296 = lo := ⟨_, rfl⟩
          obtain ⟨hh, hhi⟩ : ∃ hh, (Q + o + cc) / 4294967296 = hh := ⟨_, rfl⟩
          rw [hlo, hhi] at HST
          have m0 : (a : Int) * (b : Int) = (Q : Int) := by rw [← hQ, Int.natCast_mul]
          have v1 : IntKind.u64.wrap (a : Int) = (a : Int) := by rw [IntKind.wrap_u64]; omega
          have v2 : IntKind.u64.wrap (b : Int) = (b : Int) := by rw [IntKind.wrap_u64]; omega
          have v3 : IntKind.u64.wrap (o : Int) = (o : Int) := by rw [IntKind.wrap_u64]; omega
          have m1 : IntKind.u64.wrap ((a : Int) * (b : Int)) = (Q : Int) := by rw [m0, IntKind.wrap_u64]; omega
          have m2 : IntKind.u64.wrap ((Q : Int) + (o : Int)) = (Q : Int) + (o : Int) := by rw [IntKind.wrap_u64]; omega
          have m3 : IntKind.u64.wrap ((Q : Int) + (o : Int) + (cc : Int)) = (Q : Int) + (o : Int) + (cc : Int) := by rw [IntKind.wrap_u64]; omega
          have t1 : ((Q : Int) + (o : Int) + (cc : Int)).tmod 4294967296 = (lo : Int) := by rw [Int.tmod_eq_emod_of_nonneg (by omega)]; omega
          have t2 : ((Q : Int) + (o : Int) + (cc : Int)).tdiv 4294967296 = (hh : Int) := by rw [Int.tdiv_eq_ediv_of_nonneg (by omega)]; omega
          have t3 : ((Q : Int) + (o : Int) + (cc : Int)) % 4294967296 = (lo : Int) := by omega
          have t4 : ((Q : Int) + (o : Int) + (cc : Int)) / 4294967296 = (hh : Int) := by omega
          have u1 : IntKind.u32.wrap (lo : Int) = (lo : Int) := by rw [IntKind.wrap_u32]; omega
          have u2 : (lo : Int) % 4294967296 = (lo : Int) := by omega
          have u3 : IntKind.u64.wrap (hh : Int) = (hh : Int) := by rw [IntKind.wrap_u64]; omega
          have x1 : IntKind.i64.wrap ((j : Int) + (k : Int)) = (j : Int) + (k : Int) := IntWalk.i64_in _ (by omega)
          have x2 : ((j : Int) + (k : Int)).toNat = j + k := by omega
          have y1 : (0 : Int) ≤ (j : Int) + (k : Int) := by omega
          have y2 : (j : Int) + (k : Int) < (N : Int) := by omega
          have y3 : (0 : Int) ≤ (j : Int) := by omega
          have y4 : (j : Int) < (n : Int) := by omega
          have y5 : (0 : Int) ≤ (k : Int) := by omega
          have y6 : (k : Int) < (m : Int) := by omega
          have HJK : Hid (j + k < N) := Lib.hid (by omega)
          have HLN : Hid (r'.length = N) := Lib.hid HRA.out.1
          clear hca hcb la lb lo2 ha hb ho hQ hlo hhi hbd m0 hNN
          go_wp2
          go_quiet (fail)
          go_wp2
          go_roundw
          case rel => exact ⟨k + 1, hh, r'.set (j + k) lo, by omega, by go_num, rfl, HST, hold_drewN (hold_set0 HHi.out (by rw [HLN.out]; exact HJK.out)), (wr_set0 HWi.out HJK.out).drewN _⟩
          case measure => simp [intOf]; omega
        · obtain rfl : k = m := by omega
          have HPD := Lib.hid (HRA.out.done HYm.out (by omega))
          obtain ⟨hco, hcf⟩ := hold_at HHi.out (show j + k < r'.length by rw [HRA.out.1]; omega)
          obtain ⟨o, ho⟩ : ∃ o, r'[j + k]?.getD 0 = o := ⟨_, rfl⟩
          rw [ho] at hco
          have u1 : IntKind.u32.wrap (cc : Int) = (cc : Int) := by rw [IntKind.wrap_u32]; omega
          have u2 : (cc : Int) % 4294967296 = (cc : Int) := by omega
          have x1 : IntKind.i64.wrap ((j : Int) + (k : Int)) = (j : Int) + (k : Int) := IntWalk.i64_in _ (by omega)
          have x2 : ((j : Int) + (k : Int)).toNat = j + k := by omega
          have y1 : (0 : Int) ≤ (j : Int) + (k : Int) := by omega
          have y2 : (j : Int) + (k : Int) < (N : Int) := by omega
          have HJK : Hid (j + k < N) := Lib.hid (by omega)
          have HLN : Hid (r'.length = N) := Lib.hid HRA.out.1
          clear ho hNN hcc
          go_wp2
          go_roundw
          case rel => exact ⟨j + 1, r'.set (j + k) cc, by omega, by go_num, HPD, hold_set0 HHi.out (by rw [HLN.out]; exact HJK.out), wr_set0 HWi.out HJK.out⟩
          case measure => simp [intOf]; omega
    · obtain rfl : j = n := by omega
      have HV : Hid (val r = x * y) := Lib.hid (by rw [HP.out.2.2.1, Nat.mod_eq_of_lt HXn.out])
      have HOK := Lib.hid HP.out.2.1
      have HLN : Hid (r.length = N) := Lib.hid HP.out.1
      go_wp2_with fail
      refine (rtrim_any (some ⟨g, 0, none⟩) N N r _ (hold_nw HH.out HLN.out HOK.out (by have := HNN.out; omega))).mono ?_
      rintro e w5 ⟨p5, n5, c5, rfl, hr, hg⟩
      have c5' := hg.cell (HG0.out.cell HK3.out)
      have f5 := hg.frozen (HG0.out.cell HK3.out) (HG0.out.frozen HK3.out HF3.out)
      have HR := Lib.hid (hr.mono (show w.heap.size + 1 + 1 + 1 ≤ _ by rw [← E0.out]; exact HG0.out.le))
      have GG := Lib.hid ((GW.out.trans HG0.out).trans hg)
      clear hr hg b1 b2
      go_wp2
      refine bodyPost_ret (v := .agg #[.slice p5 n5 c5]) (by simp [results, Try.results99, go_sem, c5']) rfl ⟨_, _, _, rfl, ?_, GG.out.setCell (by simp; omega) _⟩
      rw [← HV.out]
      exact (HR.out.set' _ _ (fun x e => own_ne HR.out e) (tight_digs _)).mono (by omega)
end Go.Proofs.Ytiefnhpbniaklaa.Nr2
