/- The contracts of the reference's Int, Compare and longer. -/
import Derived.Test.YtiefnhpbniaklaaNrof
import Derived.Test.YtiefnhpbniaklaaNequal
import Derived.Deep.RegionHeld3
namespace Go.Proofs.Ytiefnhpbniaklaa.Nr2
open Go.RowKit Go.Shelf Go.Proofs.Ytiefnhpbniaklaa.Nm Go.Proofs.Ytiefnhpbniaklaa.Ne Go.Proofs.Ytiefnhpbniaklaa.Nf Go.Proofs.Ytiefnhpbniaklaa.Nk Go.Proofs.Ytiefnhpbniaklaa.Nv

/-- The digit with an index. -/
def dg (x i : Nat) : Nat := x / pw i % 4294967296
theorem dg_lt (x i : Nat) : dg x i < 4294967296 := Nat.mod_lt _ (by decide)
theorem rword_v (p : Option Addr) (n c i x : Nat) (w : World) (h : Nw w p n c (digs x)) :
    Calls Try.prog 88 #[.agg #[.slice p n c], .int .i64 (i : Int)] w fun e w' => e = .returned (.int .i64 (dg x i : Int)) ∧ Gr w w' := by
  have := refword_any p n c i _ w h
  rwa [digs_get] at this
theorem rword_0 (p : Option Addr) (n c x : Nat) (w : World) (h : Nw w p n c (digs x)) :
    Calls Try.prog 88 #[.agg #[.slice p n c], .int .i64 0] w fun e w' => e = .returned (.int .i64 (dg x 0 : Int)) ∧ Gr w w' := rword_v p n c 0 x w h
theorem rword_1 (p : Option Addr) (n c x : Nat) (w : World) (h : Nw w p n c (digs x)) :
    Calls Try.prog 88 #[.agg #[.slice p n c], .int .i64 1] w fun e w' => e = .returned (.int .i64 (dg x 1 : Int)) ∧ Gr w w' := rword_v p n c 1 x w h
theorem dg_top {x y j : Nat} (h : x / pw (j + 1) = y / pw (j + 1)) : (dg x j = dg y j → x / pw j = y / pw j) ∧ (dg x j < dg y j → x < y) := by
  have e : pw (j + 1) = pw j * 4294967296 := by rw [pw_add]; rfl
  have ex : x / pw j / 4294967296 = y / pw j / 4294967296 := by rw [Nat.div_div_eq_div_mul, Nat.div_div_eq_div_mul, ← e]; exact h
  unfold dg
  refine ⟨fun hd => by omega, fun hd => ?_⟩
  apply Nat.lt_of_not_le
  intro hh
  have := Nat.div_le_div_right (c := pw j) hh
  omega

set_option maxRecDepth 100000 in
set_option maxHeartbeats 2000000 in
theorem rint_small (p : Option Addr) (n c x : Nat) (hx : x < 9223372036854775808) (w : World) (h : Nw w p n c (digs x)) :
    Calls Try.prog 32 #[.agg #[.slice p n c]] w fun e w' => e = .returned (.tuple #[.int .i64 (x : Int), .bool true]) ∧ Gr w w' := by
  have hn : n ≤ 2 := by
    have := (digs_length_le x 2).2 (by have : pw 2 = 18446744073709551616 := rfl; omega)
    rwa [h.len] at this
  have p1 : pw 1 = 4294967296 := rfl
  have p0 : pw 0 = 1 := rfl
  have hd1 : dg x 1 = x / 4294967296 := by unfold dg; rw [p1]; omega
  have hd0 : dg x 0 = x % 4294967296 := by unfold dg; rw [p0]; omega
  have H0 := Lib.hid (fun W (hW : Gr w W) => rword_0 p n c x W (h.grow hW))
  have H1 := Lib.hid (fun W (hW : Gr w W) => rword_1 p n c x W (h.grow hW))
  obtain ⟨a1, e1⟩ : ∃ a, dg x 1 = a := ⟨_, rfl⟩
  obtain ⟨a0, e0⟩ : ∃ a, dg x 0 = a := ⟨_, rfl⟩
  rw [e1] at H1
  rw [e0] at H0
  have n1 : ¬ (2 : Int) < (n : Int) := by omega
  have n2 : decide ((2147483648 : Int) ≤ (a1 : Int)) = false := decide_eq_false (by omega)
  have m1 : IntKind.i64.wrap ((a1 : Int) * 4294967296) = (a1 : Int) * 4294967296 := IntWalk.i64_in _ (by omega)
  have m2 : IntKind.i64.wrap ((a1 : Int) * 4294967296 + (a0 : Int)) = (x : Int) := by rw [IntWalk.i64_in _ (by omega)]; omega
  have G0 := Lib.hid ((Gr.refl w).alloc (.cells #[.slice p n c] 24))
  clear h hx hn p1 p0 hd1 hd0 e1 e0
  go_enter Try.func32, Try.ntmps32
  go_wp2_with fail
  refine (H1.out _ G0.out).mono ?_
  rintro e w1 ⟨rfl, hg⟩
  have K0 := hg.cell (p := ⟨w.heap.size, 0, none⟩) (v := .slice p n c) (by simp [go_sem])
  have G1 := G0.out.trans hg
  clear hg
  go_upto_region 3 with fail
  clear n2
  have K1 : w1.drew.cell? ⟨w.heap.size, 0, none⟩ = some (.slice p n c) := K0
  have GD : Gr w w1.drew := G1.drew
  clear K0 G1
  first
  | (go_region_held3 (fun W' => W'.cell? ⟨w.heap.size, 0, none⟩ = some (.slice p n c) ∧ Gr w W')
      (first | exact ⟨K1, GD⟩ | (constructor <;> assumption))
      (first
      | ((fail_if_success (have hh := hg1)); go_at_call 88; refine (H1.out _ ?_).mono ?_; assumption; rintro e y1 ⟨rfl, hg1⟩; have z1 := hg1.cell (p := ⟨w.heap.size, 0, none⟩) (v := .slice p n c) (by assumption); have g1 : Gr w y1 := Gr.trans (by assumption) hg1)
      | (go_at_call 88; refine (H0.out _ ?_).mono ?_; assumption; rintro e y2 ⟨rfl, hg2⟩; have z2 := hg2.cell (p := ⟨w.heap.size, 0, none⟩) (v := .slice p n c) (by assumption); have g2 : Gr w y2 := Gr.trans (by assumption) hg2)))
  | fail
  all_goals
    go_wp2
    go_ret2
    exact ⟨by first | rfl | (rw [← m2]; rfl), by assumption⟩
set_option maxRecDepth 100000 in
set_option maxHeartbeats 2000000 in
theorem rint_big (p : Option Addr) (n c x : Nat) (hx : 9223372036854775808 ≤ x) (w : World) (h : Nw w p n c (digs x)) :
    Calls Try.prog 32 #[.agg #[.slice p n c]] w fun e w' => e = .returned (.tuple #[.int .i64 0, .bool false]) ∧ Gr w w' := by
  have G0 := Lib.hid ((Gr.refl w).alloc (.cells #[.slice p n c] 24))
  by_cases hn : 2 < n
  · have n1 : (2 : Int) < (n : Int) := by omega
    clear hx h hn
    go_enter Try.func32, Try.ntmps32
    go_wp2
    go_ret2
    exact ⟨rfl, G0.out⟩
  · have n1 : ¬ (2 : Int) < (n : Int) := by omega
    have hx2 : x < pw 2 := (digs_length_le x 2).1 (by rw [h.len]; omega)
    have p2 : pw 2 = 18446744073709551616 := rfl
    have p1 : pw 1 = 4294967296 := rfl
    have hd1 : dg x 1 = x / 4294967296 := by unfold dg; rw [p1]; omega
    have H1 := Lib.hid (fun W (hW : Gr w W) => rword_1 p n c x W (h.grow hW))
    obtain ⟨a1, e1⟩ : ∃ a, dg x 1 = a := ⟨_, rfl⟩
    rw [e1] at H1
    have n2 : decide ((2147483648 : Int) ≤ (a1 : Int)) = true := decide_eq_true (by omega)
    clear h hx hn p1 p2 hd1 e1 hx2
    go_enter Try.func32, Try.ntmps32
    go_wp2_with fail
    refine (H1.out _ G0.out).mono ?_
    rintro e w1 ⟨rfl, hg⟩
    have G1 := Lib.hid (G0.out.trans hg)
    clear hg
    go_wp2
    go_ret2
    exact ⟨rfl, G1.out⟩

set_option maxRecDepth 100000 in
set_option maxHeartbeats 4000000 in
theorem rcompare_v (p q : Option Addr) (n c m d x y : Nat) (hx : x < pw 64) (hy : y < pw 64) (w : World) (h : Nw w p n c (digs x)) (h2 : Nw w q m d (digs y)) :
    Calls Try.prog 37 #[.agg #[.slice p n c], .agg #[.slice q m d]] w fun e w' => e = .returned (.int .i64 (ord x y)) ∧ Gr w w' := by
  have H1 := Lib.hid (fun i W (hW : Gr w W) => rword_v p n c i x W (h.grow hW))
  have H2 := Lib.hid (fun i W (hW : Gr w W) => rword_v q m d i y W (h2.grow hW))
  have HE : Hid (x / pw (63 + 1) = y / pw (63 + 1)) := Lib.hid (by rw [Nat.div_eq_of_lt hx, Nat.div_eq_of_lt hy])
  have G0 := Lib.hid (((Gr.refl w).alloc (.cells #[.slice p n c] 24)).alloc (.cells #[.slice q m d] 24))
  clear h h2 hx hy
  go_enter Try.func37, Try.ntmps37
  go_wp2
  go_loopw [5] (fun i wr => ((i = .int .i64 (-1) ∧ Hid (x = y)) ∨ ∃ j : Nat, j < 64 ∧ i = .int .i64 j ∧ Hid (x / pw (j + 1) = y / pw (j + 1))) ∧ wr.cell? ⟨w.heap.size, 0, none⟩ = some (.slice p n c) ∧ wr.cell? ⟨w.heap.size + 1, 0, none⟩ = some (.slice q m d) ∧ Gr w wr) (fun i _ => (intOf i + 1).toNat)
  case atStart => exact ⟨.inr ⟨63, by decide, rfl, HE⟩, by simp [go_sem], by simp [go_sem], G0.out⟩
  case round =>
    obtain ⟨hi, b1, b2, hG⟩ := hrel
    rcases hi with ⟨rfl, HXY⟩ | ⟨j, hj, rfl, HJ⟩
    · go_wp2
      go_ret
      exact ⟨by rw [HXY.out, ord_eq]; rfl, hG⟩
    · have HT := Lib.hid (dg_top HJ.out)
      have HT2 := Lib.hid (dg_top HJ.out.symm)
      have K1 := H1.out j
      have K2 := H2.out j
      have HP : Hid (j = 0 → x / pw j = y / pw j → x = y) := Lib.hid (by rintro rfl hh; have p0 : pw 0 = 1 := rfl; rw [p0, Nat.div_one, Nat.div_one] at hh; exact hh)
      obtain ⟨a, ha⟩ : ∃ a, dg x j = a := ⟨_, rfl⟩
      obtain ⟨b, hb⟩ : ∃ b, dg y j = b := ⟨_, rfl⟩
      rw [ha] at K1
      rw [hb] at K2
      rw [ha, hb] at HT HT2
      have HK1 := Lib.hid K1
      have HK2 := Lib.hid K2
      clear K1 K2 ha hb HJ HE
      have hj0 : (0 : Int) ≤ (j : Int) := by omega
      rcases Nat.lt_trichotomy a b with hab | hab | hab
      · have HO := Lib.hid (ord_lt (HT.out.2 hab))
        have hab2 : (a : Int) < (b : Int) := by omega
        clear hab HT HT2 HP
        go_wp2_with fail
        have Z1 : wr.drew.cell? ⟨w.heap.size, 0, none⟩ = some (.slice p n c) := b1
        have Z2 : wr.drew.cell? ⟨w.heap.size + 1, 0, none⟩ = some (.slice q m d) := b2
        have GD : Gr w wr.drew := hG.drew
        clear b1 b2 hG
        first
        | (go_region_held3 (fun W' => W'.cell? ⟨w.heap.size, 0, none⟩ = some (.slice p n c) ∧ W'.cell? ⟨w.heap.size + 1, 0, none⟩ = some (.slice q m d) ∧ Gr w W')
            (first | exact ⟨Z1, Z2, GD⟩ | (refine ⟨?_, ?_, ?_⟩ <;> assumption))
            (first
            | (go_at_call_of 88 p; refine (HK1.out _ ?_).mono ?_; assumption; rintro e y1 ⟨rfl, hg1⟩; have z1 := hg1.cell (p := ⟨w.heap.size, 0, none⟩) (v := .slice p n c) (by assumption); have z2 := hg1.cell (p := ⟨w.heap.size + 1, 0, none⟩) (v := .slice q m d) (by assumption); have g1 : Gr w y1 := Gr.trans (by assumption) hg1)
            | (go_at_call_of 88 q; refine (HK2.out _ ?_).mono ?_; assumption; rintro e y2 ⟨rfl, hg2⟩; have x1 := hg2.cell (p := ⟨w.heap.size, 0, none⟩) (v := .slice p n c) (by assumption); have x2 := hg2.cell (p := ⟨w.heap.size + 1, 0, none⟩) (v := .slice q m d) (by assumption); have g2 : Gr w y2 := Gr.trans (by assumption) hg2)))
        | fail
        go_wp2
        go_ret
        exact ⟨by rw [HO.out]; rfl, by assumption⟩
      · subst hab
        have HS := Lib.hid (HT.out.1 rfl)
        clear HT HT2
        have hab2 : ¬ (a : Int) < (a : Int) := by omega
        go_wp2_with fail
        have Z1 : wr.drew.cell? ⟨w.heap.size, 0, none⟩ = some (.slice p n c) := b1
        have Z2 : wr.drew.cell? ⟨w.heap.size + 1, 0, none⟩ = some (.slice q m d) := b2
        have GD : Gr w wr.drew := hG.drew
        clear b1 b2 hG
        first
        | (go_region_held3 (fun W' => W'.cell? ⟨w.heap.size, 0, none⟩ = some (.slice p n c) ∧ W'.cell? ⟨w.heap.size + 1, 0, none⟩ = some (.slice q m d) ∧ Gr w W')
            (first | exact ⟨Z1, Z2, GD⟩ | (refine ⟨?_, ?_, ?_⟩ <;> assumption))
            (first
            | (go_at_call_of 88 p; refine (HK1.out _ ?_).mono ?_; assumption; rintro e y1 ⟨rfl, hg1⟩; have z1 := hg1.cell (p := ⟨w.heap.size, 0, none⟩) (v := .slice p n c) (by assumption); have z2 := hg1.cell (p := ⟨w.heap.size + 1, 0, none⟩) (v := .slice q m d) (by assumption); have g1 : Gr w y1 := Gr.trans (by assumption) hg1)
            | (go_at_call_of 88 q; refine (HK2.out _ ?_).mono ?_; assumption; rintro e y2 ⟨rfl, hg2⟩; have x1 := hg2.cell (p := ⟨w.heap.size, 0, none⟩) (v := .slice p n c) (by assumption); have x2 := hg2.cell (p := ⟨w.heap.size + 1, 0, none⟩) (v := .slice q m d) (by assumption); have g2 : Gr w y2 := Gr.trans (by assumption) hg2)))
        | fail
        go_wp2_with fail
        clear Z1 Z2 GD z1 z2 g1
        have Z1 : y2.drew.cell? ⟨w.heap.size, 0, none⟩ = some (.slice p n c) := x1
        have Z2 : y2.drew.cell? ⟨w.heap.size + 1, 0, none⟩ = some (.slice q m d) := x2
        have GD : Gr w y2.drew := g2.drew
        clear x1 x2 g2 hg1 hg2
        first
        | (go_region_held3 (fun W' => W'.cell? ⟨w.heap.size, 0, none⟩ = some (.slice p n c) ∧ W'.cell? ⟨w.heap.size + 1, 0, none⟩ = some (.slice q m d) ∧ Gr w W')
            (first | exact ⟨Z1, Z2, GD⟩ | (refine ⟨?_, ?_, ?_⟩ <;> assumption))
            (first
            | (go_at_call_of 88 p; refine (HK1.out _ ?_).mono ?_; assumption; rintro e y1 ⟨rfl, hg1⟩; have z1 := hg1.cell (p := ⟨w.heap.size, 0, none⟩) (v := .slice p n c) (by assumption); have z2 := hg1.cell (p := ⟨w.heap.size + 1, 0, none⟩) (v := .slice q m d) (by assumption); have g1 : Gr w y1 := Gr.trans (by assumption) hg1)
            | (go_at_call_of 88 q; refine (HK2.out _ ?_).mono ?_; assumption; rintro e y2 ⟨rfl, hg2⟩; have x1 := hg2.cell (p := ⟨w.heap.size, 0, none⟩) (v := .slice p n c) (by assumption); have x2 := hg2.cell (p := ⟨w.heap.size + 1, 0, none⟩) (v := .slice q m d) (by assumption); have g2 : Gr w y2 := Gr.trans (by assumption) hg2)))
        | fail
        go_wp2
        go_roundw
        case rel =>
          refine ⟨?_, by assumption, by assumption, by assumption⟩
          rcases Nat.eq_zero_or_pos j with h0 | h0
          · exact .inl ⟨by subst h0; rfl, HP.out h0 HS.out⟩
          · obtain ⟨i, rfl⟩ : ∃ i, j = i + 1 := ⟨j - 1, by omega⟩
            exact .inr ⟨i, by omega, by congr 1; omega, HS⟩
        case measure => simp [intOf]
      · have HO := Lib.hid (ord_gt (HT2.out.2 hab))
        have hab2 : ¬ (a : Int) < (b : Int) := by omega
        have hab3 : (b : Int) < (a : Int) := by omega
        clear hab HT HT2 HP
        go_wp2_with fail
        have Z1 : wr.drew.cell? ⟨w.heap.size, 0, none⟩ = some (.slice p n c) := b1
        have Z2 : wr.drew.cell? ⟨w.heap.size + 1, 0, none⟩ = some (.slice q m d) := b2
        have GD : Gr w wr.drew := hG.drew
        clear b1 b2 hG
        first
        | (go_region_held3 (fun W' => W'.cell? ⟨w.heap.size, 0, none⟩ = some (.slice p n c) ∧ W'.cell? ⟨w.heap.size + 1, 0, none⟩ = some (.slice q m d) ∧ Gr w W')
            (first | exact ⟨Z1, Z2, GD⟩ | (refine ⟨?_, ?_, ?_⟩ <;> assumption))
            (first
            | (go_at_call_of 88 p; refine (HK1.out _ ?_).mono ?_; assumption; rintro e y1 ⟨rfl, hg1⟩; have z1 := hg1.cell (p := ⟨w.heap.size, 0, none⟩) (v := .slice p n c) (by assumption); have z2 := hg1.cell (p := ⟨w.heap.size + 1, 0, none⟩) (v := .slice q m d) (by assumption); have g1 : Gr w y1 := Gr.trans (by assumption) hg1)
            | (go_at_call_of 88 q; refine (HK2.out _ ?_).mono ?_; assumption; rintro e y2 ⟨rfl, hg2⟩; have x1 := hg2.cell (p := ⟨w.heap.size, 0, none⟩) (v := .slice p n c) (by assumption); have x2 := hg2.cell (p := ⟨w.heap.size + 1, 0, none⟩) (v := .slice q m d) (by assumption); have g2 : Gr w y2 := Gr.trans (by assumption) hg2)))
        | fail
        go_wp2_with fail
        clear Z1 Z2 GD z1 z2 g1
        have Z1 : y2.drew.cell? ⟨w.heap.size, 0, none⟩ = some (.slice p n c) := x1
        have Z2 : y2.drew.cell? ⟨w.heap.size + 1, 0, none⟩ = some (.slice q m d) := x2
        have GD : Gr w y2.drew := g2.drew
        clear x1 x2 g2 hg1 hg2
        first
        | (go_region_held3 (fun W' => W'.cell? ⟨w.heap.size, 0, none⟩ = some (.slice p n c) ∧ W'.cell? ⟨w.heap.size + 1, 0, none⟩ = some (.slice q m d) ∧ Gr w W')
            (first | exact ⟨Z1, Z2, GD⟩ | (refine ⟨?_, ?_, ?_⟩ <;> assumption))
            (first
            | (go_at_call_of 88 p; refine (HK1.out _ ?_).mono ?_; assumption; rintro e y1 ⟨rfl, hg1⟩; have z1 := hg1.cell (p := ⟨w.heap.size, 0, none⟩) (v := .slice p n c) (by assumption); have z2 := hg1.cell (p := ⟨w.heap.size + 1, 0, none⟩) (v := .slice q m d) (by assumption); have g1 : Gr w y1 := Gr.trans (by assumption) hg1)
            | (go_at_call_of 88 q; refine (HK2.out _ ?_).mono ?_; assumption; rintro e y2 ⟨rfl, hg2⟩; have x1 := hg2.cell (p := ⟨w.heap.size, 0, none⟩) (v := .slice p n c) (by assumption); have x2 := hg2.cell (p := ⟨w.heap.size + 1, 0, none⟩) (v := .slice q m d) (by assumption); have g2 : Gr w y2 := Gr.trans (by assumption) hg2)))
        | fail
        go_wp2
        go_ret
        exact ⟨by rw [HO.out]; rfl, by assumption⟩

set_option maxRecDepth 100000 in
set_option maxHeartbeats 2000000 in
theorem rlonger_len (p q : Option Addr) (n c m d : Nat) (hnm : n ≠ m) (w : World) :
    Calls Try.prog 101 #[.agg #[.slice p n c], .agg #[.slice q m d]] w fun e w' => e = .returned (.bool (decide (m < n))) ∧ Gr w w' := by
  have G0 := Lib.hid (((Gr.refl w).alloc (.cells #[.slice p n c] 24)).alloc (.cells #[.slice q m d] 24))
  have h1 : ((n : Int) != (m : Int)) = true := by simp; omega
  have h2 : decide ((m : Int) < (n : Int)) = decide (m < n) := decide_eq_decide.2 (by omega)
  clear hnm
  go_enter Try.func101, Try.ntmps101
  go_wp2
  go_ret
  exact ⟨by first | rfl | simp, G0.out⟩
set_option maxRecDepth 100000 in
set_option maxHeartbeats 2000000 in
theorem rlonger_eq (p q : Option Addr) (n c d x y : Nat) (hx : x < pw 64) (hy : y < pw 64) (w : World) (h : Nw w p n c (digs x)) (h2 : Nw w q n d (digs y)) :
    Calls Try.prog 101 #[.agg #[.slice p n c], .agg #[.slice q n d]] w fun e w' => e = .returned (.bool (decide (y ≤ x))) ∧ Gr w w' := by
  have G0 := Lib.hid (((Gr.refl w).alloc (.cells #[.slice p n c] 24)).alloc (.cells #[.slice q n d] 24))
  have HC := Lib.hid (fun W (hW : Gr w W) => rcompare_v p q n c n d x y hx hy W (h.grow hW) (h2.grow hW))
  have HO : Hid (decide (0 ≤ ord x y) = decide (y ≤ x)) := Lib.hid (decide_eq_decide.2 (by
    rcases Nat.lt_trichotomy x y with h | h | h
    · rw [ord_lt h]; omega
    · subst h; rw [ord_eq]; omega
    · rw [ord_gt h]; omega))
  clear h h2 hx hy
  generalize ord x y = o at *
  go_enter Try.func101, Try.ntmps101
  go_wp2_with fail
  refine (HC.out _ G0.out).mono ?_
  rintro e w1 ⟨rfl, hg⟩
  have G1 := Lib.hid (G0.out.trans hg)
  clear hg
  go_wp2
  go_ret
  exact ⟨by rw [← HO.out]; rfl, G1.out⟩
/-- longer: whether the first number is at least the other one, which is valid. -/
theorem rlonger_v (p q : Option Addr) (n c m d x y : Nat) (hy : y < pw 64) (w : World) (h : Nw w p n c (digs x)) (h2 : Nw w q m d (digs y)) :
    Calls Try.prog 101 #[.agg #[.slice p n c], .agg #[.slice q m d]] w fun e w' => e = .returned (.bool (decide (y ≤ x))) ∧ Gr w w' := by
  by_cases e : n = m
  · subst e
    have hx : x < pw 64 := Nat.lt_of_lt_of_le ((digs_length_le x n).1 (by rw [h.len]; exact Nat.le_refl _)) (pw_mono (by have := (digs_length_le y 64).2 hy; rwa [h2.len] at this))
    exact rlonger_eq p q n c d x y hx hy w h h2
  · have hd : decide (m < n) = decide (y ≤ x) := decide_eq_decide.2 (by
      constructor
      · intro hlt
        apply Nat.le_of_not_lt
        intro hh
        have := length_le_of_val (ok_digs y) (tight_digs x) (by rw [val_digs, val_digs]; omega)
        rw [h.len, h2.len] at this
        omega
      · intro hle
        have := length_le_of_val (ok_digs x) (tight_digs y) (by rw [val_digs, val_digs]; exact hle)
        rw [h.len, h2.len] at this
        omega)
    rw [← hd]
    exact rlonger_len p q n c m d e w
end Go.Proofs.Ytiefnhpbniaklaa.Nr2
