/- The walk of NaturalOwn: results share no memory with arguments, and arguments are not modified. -/
import Derived.Test.YtiefnhpbniaklaaNany
import Derived.Deep.RegionHeld3
namespace Go.Proofs.Ytiefnhpbniaklaa.Nlown
open Go.RowKit Go.Shelf Go.Proofs.Ytiefnhpbniaklaa.Nm Go.Proofs.Ytiefnhpbniaklaa.Ne Go.Proofs.Ytiefnhpbniaklaa.Nf Go.Proofs.Ytiefnhpbniaklaa.Nk Go.Proofs.Ytiefnhpbniaklaa.Nv Go.Proofs.Ytiefnhpbniaklaa.Nl

/-- slices.Clone of an argument: words of the call's own. -/
theorem Clone_v {p : Option Addr} {n c : Nat} {l : List Nat} {w : World} (h : Nw w p n c l) :
    Calls Try.prog 48 #[.slice p n c] w fun e w' => ∃ (q : Option Addr) (d : Nat), e = .returned (.slice q n d) ∧ Nw w' q n d l ∧ Gr w w' := by
  refine (clone_at p l n c h.len h.small h.nil w h.rd).mono ?_
  rintro e w' ⟨q, d, he, h1, h2, h3, h4⟩
  exact ⟨q, d, he, ⟨h.len, h1, h2, h3.rd, h.ok, h.small⟩, h4⟩
theorem Equal_l {p q : Option Addr} {n c d : Nat} {l : List Nat} {w : World} (hl : Nw w p n c l) (hk : Nw w q n d l) :
    Calls Try.prog 49 #[.slice p n c, .slice q n d] w fun e w' => e = .returned (.bool true) ∧ Gr w w' := by
  refine (equal_any p q _ _ n c d hl.len hk.len hl.small w hl.rd hk.rd).mono ?_
  rintro e w' ⟨rfl, j, rfl⟩
  exact ⟨by rw [decide_eq_true rfl], (Gr.refl w).drewN j⟩
theorem _root_.Go.Proofs.Ytiefnhpbniaklaa.Nv.OwnU.mono {B L L' : Nat} {w : World} {p : Option Addr} {n : Nat} (h : OwnU B L w p n) (hl : L ≤ L') : OwnU B L' w p n := by
  rcases h with h0 | ⟨b, off, rfl, hb, h2, hc⟩
  · exact .inl h0
  · exact .inr ⟨b, off, rfl, hb, Nat.lt_of_lt_of_le h2 hl, hc⟩
theorem keep_set {W : World} {a : Addr} {v : Value} {b i : Nat} (h : W.cell? a = some v) (hne : b ≠ a.block) (u : Value) : (W.setCell ⟨b, i, none⟩ u).cell? a = some v := by
  rw [World.cell?_setCell_other _ _ _ _ (by rintro rfl; exact hne rfl)]
  exact h
theorem nats7 (w : World) (p1 p2 p3 p4 p5 p6 p7 : Option Addr) (n1 c1 n2 c2 n3 c3 n4 c4 n5 c5 n6 c6 n7 c7 : Nat) :
    Nats (w.alloc (.cells #[.slice p1 n1 c1, .slice p2 n2 c2, .slice p3 n3 c3, .slice p4 n4 c4, .slice p5 n5 c5, .slice p6 n6 c6, .slice p7 n7 c7] 24)) w.heap.size 0
      [(p1, n1, c1), (p2, n2, c2), (p3, n3, c3), (p4, n4, c4), (p5, n5, c5), (p6, n6, c6), (p7, n7, c7)] := by
  intro i hi
  match i, hi with
  | 0, _ => simp [go_sem]
  | 1, _ => simp [go_sem]
  | 2, _ => simp [go_sem]
  | 3, _ => simp [go_sem]
  | 4, _ => simp [go_sem]
  | 5, _ => simp [go_sem]
  | 6, _ => simp [go_sem]

set_option maxRecDepth 100000 in
set_option maxHeartbeats 8000000 in
theorem great (w : World) (ba bb : Option Addr) (na ca nb cb : Nat) (hg1 : 100 < na ∨ 100 < nb) : Calls Try.prog 10 #[.agg #[.slice ba na ca], .agg #[.slice bb nb cb]] w fun e w' => e = .returned (.bool true) ∧ Gr w w' := by
  have HY := Lib.hid hg1
  have G := Lib.hid (Gr.refl w)
  clear hg1
  have k_a : ((w.alloc (.cells #[.slice ba na ca] 24)).alloc (.cells #[.slice bb nb cb] 24)).cell? ⟨w.heap.size, 0, none⟩ = some (.slice ba na ca) := by simp [go_sem]
  have k_b : ((w.alloc (.cells #[.slice ba na ca] 24)).alloc (.cells #[.slice bb nb cb] 24)).cell? ⟨w.heap.size + 1, 0, none⟩ = some (.slice bb nb cb) := by simp [go_sem]
  go_enter Try.func10, Try.ntmps10
  go_wp2_with fail
  refine (awake_any _).mono ?_
  rintro e w1 ⟨rfl, hg⟩
  replace k_a := hg.cell k_a
  replace k_b := hg.cell k_b
  have gg := (((Gr.refl w).alloc (.cells #[.slice ba na ca] 24)).alloc (.cells #[.slice bb nb cb] 24)).trans hg
  replace G := Lib.hid (G.out.trans gg)
  clear hg gg
  go_wp2_with fail
  replace k_a := ((Gr.refl w1).alloc (.cells #[.slice ba na ca, .slice bb nb cb] 24)).cell k_a
  replace k_b := ((Gr.refl w1).alloc (.cells #[.slice ba na ca, .slice bb nb cb] 24)).cell k_b
  refine (great_yes (n := 2) (c := 2) rfl (by decide) (nats2 w1 ba bb na ca nb cb) (gt2 HY.out)).mono ?_
  rintro e w2 ⟨rfl, hg⟩
  replace k_a := hg.cell k_a
  replace k_b := hg.cell k_b
  have gg := ((Gr.refl w1).alloc (.cells #[.slice ba na ca, .slice bb nb cb] 24)).trans hg
  replace G := Lib.hid (G.out.trans gg)
  clear hg gg
  go_wp2
  go_ret
  exact ⟨rfl, G.out⟩

set_option maxRecDepth 100000 in
set_option maxHeartbeats 16000000 in
theorem ok (w : World) (ba bb : Option Addr) (na ca nb cb : Nat) (la lb : List Nat) (ha : Nw w ba na ca la) (hb : Nw w bb nb cb lb) (sa : na ≤ 100) (sb : nb ≤ 100) : Calls Try.prog 10 #[.agg #[.slice ba na ca], .agg #[.slice bb nb cb]] w fun e w' => e = .returned (.bool true) ∧ Gr w w' := by
  have G := Lib.hid (Gr.refl w)
  have R_a := Lib.hid ha
  have R_b := Lib.hid hb
  have Sa := Lib.hid sa
  have Sb := Lib.hid sb
  clear ha hb sa sb
  have k_a : ((w.alloc (.cells #[.slice ba na ca] 24)).alloc (.cells #[.slice bb nb cb] 24)).cell? ⟨w.heap.size, 0, none⟩ = some (.slice ba na ca) := by simp [go_sem]
  have k_b : ((w.alloc (.cells #[.slice ba na ca] 24)).alloc (.cells #[.slice bb nb cb] 24)).cell? ⟨w.heap.size + 1, 0, none⟩ = some (.slice bb nb cb) := by simp [go_sem]
  go_enter Try.func10, Try.ntmps10
  go_wp2_with fail
  refine (awake_any _).mono ?_
  rintro e w1 ⟨rfl, hg⟩
  replace k_a := hg.cell k_a
  replace k_b := hg.cell k_b
  have gg := (((Gr.refl w).alloc (.cells #[.slice ba na ca] 24)).alloc (.cells #[.slice bb nb cb] 24)).trans hg
  replace R_a := Lib.hid (R_a.out.grow gg)
  replace R_b := Lib.hid (R_b.out.grow gg)
  replace G := Lib.hid (G.out.trans gg)
  clear hg gg
  have sa := Sa.out
  have sb := Sb.out
  go_wp2_with fail
  replace k_a := ((Gr.refl w1).alloc (.cells #[.slice ba na ca, .slice bb nb cb] 24)).cell k_a
  replace k_b := ((Gr.refl w1).alloc (.cells #[.slice ba na ca, .slice bb nb cb] 24)).cell k_b
  refine (great_no (n := 2) (c := 2) rfl (by decide) (nats2 w1 ba bb na ca nb cb) (le2 sa sb)).mono ?_
  rintro e w2 ⟨rfl, hg⟩
  replace k_a := hg.cell k_a
  replace k_b := hg.cell k_b
  have gg := ((Gr.refl w1).alloc (.cells #[.slice ba na ca, .slice bb nb cb] 24)).trans hg
  replace R_a := Lib.hid (R_a.out.grow gg)
  replace R_b := Lib.hid (R_b.out.grow gg)
  replace G := Lib.hid (G.out.trans gg)
  clear hg gg
  clear sa sb
  go_wp2_with fail
  generalize w2 = WE at k_a k_b R_a R_b G ⊢
  have K1 : WE.drew.cell? ⟨w.heap.size, 0, none⟩ = some (.slice ba na ca) := k_a
  have K2 : WE.drew.cell? ⟨w.heap.size + 1, 0, none⟩ = some (.slice bb nb cb) := k_b
  have GD : Gr WE WE.drew := (Gr.refl WE).drew
  clear k_a k_b
  have HC1 := Lib.hid (fun W (hW : Gr WE W) => Clone_v (w := W) (R_a.out.grow hW))
  have HC2 := Lib.hid (fun W (hW : Gr WE W) => Clone_v (w := W) (R_b.out.grow hW))
  go_region_held3 (fun W' => W'.cell? ⟨w.heap.size, 0, none⟩ = some (.slice ba na ca) ∧ W'.cell? ⟨w.heap.size + 1, 0, none⟩ = some (.slice bb nb cb) ∧ Gr WE W')
    (first | exact ⟨K1, K2, GD⟩ | (refine ⟨?_, ?_, ?_⟩ <;> assumption))
    (first
    | (go_at_call_of 48 ba; refine (HC1.out _ ?_).mono ?_; assumption; rintro e wx ⟨px, cx, rfl, nx, hg⟩; have z1 := hg.cell (p := ⟨w.heap.size, 0, none⟩) (v := .slice ba na ca) (by assumption); have z2 := hg.cell (p := ⟨w.heap.size + 1, 0, none⟩) (v := .slice bb nb cb) (by assumption); have z3 : Gr WE wx := Gr.trans (by assumption) hg)
    | (go_at_call_of 48 bb; refine (HC2.out _ ?_).mono ?_; assumption; rintro e wc ⟨py, cy, rfl, ny, hg2⟩; have y1 := hg2.cell (p := ⟨w.heap.size, 0, none⟩) (v := .slice ba na ca) (by assumption); have y2 := hg2.cell (p := ⟨w.heap.size + 1, 0, none⟩) (v := .slice bb nb cb) (by assumption); have y3 : Gr WE wc := Gr.trans (by assumption) hg2))
  have RA0 := Lib.hid (R_a.out.grow y3)
  have RB0 := Lib.hid (R_b.out.grow y3)
  have RX0 := Lib.hid (nx.grow hg2)
  have RY0 := Lib.hid ny
  have KA := Lib.hid y1
  have KB := Lib.hid y2
  have GW := Lib.hid (G.out.trans y3)
  have GB := Lib.hid (Gr.refl wc)
  have k_a := y1
  have k_b := y2
  replace R_a := RA0
  replace R_b := RB0
  clear nx ny hg hg2 z1 z2 z3 y1 y2 y3 K1 K2 GD HC1 HC2 G
  replace k_a := ((Gr.refl wc).alloc (.cells #[.slice none 0 0] 24)).cell k_a
  replace k_b := ((Gr.refl wc).alloc (.cells #[.slice none 0 0] 24)).cell k_b
  have k_zero : (wc.alloc (.cells #[.slice none 0 0] 24)).cell? ⟨wc.heap.size, 0, none⟩ = some (.slice none 0 0) := by simp [go_sem]
  have hB := (GB.out.trans ((Gr.refl wc).alloc (.cells #[.slice none 0 0] 24))).le
  go_wp2_with fail
  refine (Add_any (R_a.out.grow ((Gr.refl wc).alloc (.cells #[.slice none 0 0] 24))) (Nw.zero _)).mono ?_
  rintro e w3 ⟨z1, e1, p1, n1, c1, rfl, hr_s, hg⟩
  replace k_a := hg.cell k_a
  replace k_b := hg.cell k_b
  replace k_zero := hg.cell k_zero
  have gg := ((Gr.refl wc).alloc (.cells #[.slice none 0 0] 24)).trans hg
  replace R_a := Lib.hid (R_a.out.grow gg)
  replace R_b := Lib.hid (R_b.out.grow gg)
  replace GB := Lib.hid (GB.out.trans gg)
  clear hg gg
  have R_s := Lib.hid (hr_s.mono hB)
  clear hB hr_s
  replace k_a := ((Gr.refl w3).alloc (.cells #[.slice p1 n1 c1] 24)).cell k_a
  replace k_b := ((Gr.refl w3).alloc (.cells #[.slice p1 n1 c1] 24)).cell k_b
  replace k_zero := ((Gr.refl w3).alloc (.cells #[.slice p1 n1 c1] 24)).cell k_zero
  have k_s : (w3.alloc (.cells #[.slice p1 n1 c1] 24)).cell? ⟨w3.heap.size, 0, none⟩ = some (.slice p1 n1 c1) := by simp [go_sem]
  have hB := (GB.out.trans ((Gr.refl w3).alloc (.cells #[.slice p1 n1 c1] 24))).le
  go_wp2_with fail
  refine (Sub_any (R_a.out.grow ((Gr.refl w3).alloc (.cells #[.slice p1 n1 c1] 24))) (Nw.zero _)).mono ?_
  rintro e w4 ⟨z2, e2, p2, n2, c2, rfl, hr_d, hg⟩
  replace k_a := hg.cell k_a
  replace k_b := hg.cell k_b
  replace k_zero := hg.cell k_zero
  replace k_s := hg.cell k_s
  have gg := ((Gr.refl w3).alloc (.cells #[.slice p1 n1 c1] 24)).trans hg
  replace R_a := Lib.hid (R_a.out.grow gg)
  replace R_b := Lib.hid (R_b.out.grow gg)
  replace R_s := Lib.hid (R_s.out.grow gg)
  replace GB := Lib.hid (GB.out.trans gg)
  clear hg gg
  have R_d := Lib.hid (hr_d.mono hB)
  clear hB hr_d
  replace k_a := ((Gr.refl w4).alloc (.cells #[.slice p2 n2 c2] 24)).cell k_a
  replace k_b := ((Gr.refl w4).alloc (.cells #[.slice p2 n2 c2] 24)).cell k_b
  replace k_zero := ((Gr.refl w4).alloc (.cells #[.slice p2 n2 c2] 24)).cell k_zero
  replace k_s := ((Gr.refl w4).alloc (.cells #[.slice p2 n2 c2] 24)).cell k_s
  have k_d : (w4.alloc (.cells #[.slice p2 n2 c2] 24)).cell? ⟨w4.heap.size, 0, none⟩ = some (.slice p2 n2 c2) := by simp [go_sem]
  have hB := (GB.out.trans ((Gr.refl w4).alloc (.cells #[.slice p2 n2 c2] 24))).le
  go_wp2_with fail
  refine (Shift0_any (R_a.out.grow ((Gr.refl w4).alloc (.cells #[.slice p2 n2 c2] 24)))).mono ?_
  rintro e w5 ⟨z3, e3, p3, n3, c3, rfl, hr_t, hg⟩
  replace k_a := hg.cell k_a
  replace k_b := hg.cell k_b
  replace k_zero := hg.cell k_zero
  replace k_s := hg.cell k_s
  replace k_d := hg.cell k_d
  have gg := ((Gr.refl w4).alloc (.cells #[.slice p2 n2 c2] 24)).trans hg
  replace R_a := Lib.hid (R_a.out.grow gg)
  replace R_b := Lib.hid (R_b.out.grow gg)
  replace R_s := Lib.hid (R_s.out.grow gg)
  replace R_d := Lib.hid (R_d.out.grow gg)
  replace GB := Lib.hid (GB.out.trans gg)
  clear hg gg
  have R_t := Lib.hid (hr_t.mono hB)
  clear hB hr_t
  replace k_a := ((Gr.refl w5).alloc (.cells #[.slice p3 n3 c3] 24)).cell k_a
  replace k_b := ((Gr.refl w5).alloc (.cells #[.slice p3 n3 c3] 24)).cell k_b
  replace k_zero := ((Gr.refl w5).alloc (.cells #[.slice p3 n3 c3] 24)).cell k_zero
  replace k_s := ((Gr.refl w5).alloc (.cells #[.slice p3 n3 c3] 24)).cell k_s
  replace k_d := ((Gr.refl w5).alloc (.cells #[.slice p3 n3 c3] 24)).cell k_d
  have k_t : (w5.alloc (.cells #[.slice p3 n3 c3] 24)).cell? ⟨w5.heap.size, 0, none⟩ = some (.slice p3 n3 c3) := by simp [go_sem]
  have hB := (GB.out.trans ((Gr.refl w5).alloc (.cells #[.slice p3 n3 c3] 24))).le
  go_wp2_with fail
  refine (Div_any (R_a.out.grow ((Gr.refl w5).alloc (.cells #[.slice p3 n3 c3] 24))) (R_b.out.grow ((Gr.refl w5).alloc (.cells #[.slice p3 n3 c3] 24)))).mono ?_
  rintro e w6 ⟨z4, z5, e4, p4, p5, n4, c4, n5, c5, rfl, hr_q, hr_r, hg⟩
  replace k_a := hg.cell k_a
  replace k_b := hg.cell k_b
  replace k_zero := hg.cell k_zero
  replace k_s := hg.cell k_s
  replace k_d := hg.cell k_d
  replace k_t := hg.cell k_t
  have gg := ((Gr.refl w5).alloc (.cells #[.slice p3 n3 c3] 24)).trans hg
  replace R_a := Lib.hid (R_a.out.grow gg)
  replace R_b := Lib.hid (R_b.out.grow gg)
  replace R_s := Lib.hid (R_s.out.grow gg)
  replace R_d := Lib.hid (R_d.out.grow gg)
  replace R_t := Lib.hid (R_t.out.grow gg)
  replace GB := Lib.hid (GB.out.trans gg)
  clear hg gg
  have R_q := Lib.hid (hr_q.mono hB)
  have R_r := Lib.hid (hr_r.mono hB)
  clear hB hr_q hr_r
  replace k_a := ((Gr.refl w6).alloc (.cells #[.slice p4 n4 c4] 24)).cell k_a
  replace k_b := ((Gr.refl w6).alloc (.cells #[.slice p4 n4 c4] 24)).cell k_b
  replace k_zero := ((Gr.refl w6).alloc (.cells #[.slice p4 n4 c4] 24)).cell k_zero
  replace k_s := ((Gr.refl w6).alloc (.cells #[.slice p4 n4 c4] 24)).cell k_s
  replace k_d := ((Gr.refl w6).alloc (.cells #[.slice p4 n4 c4] 24)).cell k_d
  replace k_t := ((Gr.refl w6).alloc (.cells #[.slice p4 n4 c4] 24)).cell k_t
  have k_q : (w6.alloc (.cells #[.slice p4 n4 c4] 24)).cell? ⟨w6.heap.size, 0, none⟩ = some (.slice p4 n4 c4) := by simp [go_sem]
  replace k_a := ((Gr.refl (w6.alloc (.cells #[.slice p4 n4 c4] 24))).alloc (.cells #[.slice p5 n5 c5] 24)).cell k_a
  replace k_b := ((Gr.refl (w6.alloc (.cells #[.slice p4 n4 c4] 24))).alloc (.cells #[.slice p5 n5 c5] 24)).cell k_b
  replace k_zero := ((Gr.refl (w6.alloc (.cells #[.slice p4 n4 c4] 24))).alloc (.cells #[.slice p5 n5 c5] 24)).cell k_zero
  replace k_s := ((Gr.refl (w6.alloc (.cells #[.slice p4 n4 c4] 24))).alloc (.cells #[.slice p5 n5 c5] 24)).cell k_s
  replace k_d := ((Gr.refl (w6.alloc (.cells #[.slice p4 n4 c4] 24))).alloc (.cells #[.slice p5 n5 c5] 24)).cell k_d
  replace k_t := ((Gr.refl (w6.alloc (.cells #[.slice p4 n4 c4] 24))).alloc (.cells #[.slice p5 n5 c5] 24)).cell k_t
  replace k_q := ((Gr.refl (w6.alloc (.cells #[.slice p4 n4 c4] 24))).alloc (.cells #[.slice p5 n5 c5] 24)).cell k_q
  have k_r : ((w6.alloc (.cells #[.slice p4 n4 c4] 24)).alloc (.cells #[.slice p5 n5 c5] 24)).cell? ⟨w6.heap.size + 1, 0, none⟩ = some (.slice p5 n5 c5) := by simp [go_sem]
  have hB := (GB.out.trans (((Gr.refl w6).alloc (.cells #[.slice p4 n4 c4] 24)).alloc (.cells #[.slice p5 n5 c5] 24))).le
  go_wp2_with fail
  refine (Mul_any (R_a.out.grow (((Gr.refl w6).alloc (.cells #[.slice p4 n4 c4] 24)).alloc (.cells #[.slice p5 n5 c5] 24))) (R_b.out.grow (((Gr.refl w6).alloc (.cells #[.slice p4 n4 c4] 24)).alloc (.cells #[.slice p5 n5 c5] 24)))).mono ?_
  rintro e w7 ⟨z6, e6, p6, n6, c6, rfl, hr_p, hg⟩
  replace k_a := hg.cell k_a
  replace k_b := hg.cell k_b
  replace k_zero := hg.cell k_zero
  replace k_s := hg.cell k_s
  replace k_d := hg.cell k_d
  replace k_t := hg.cell k_t
  replace k_q := hg.cell k_q
  replace k_r := hg.cell k_r
  have gg := (((Gr.refl w6).alloc (.cells #[.slice p4 n4 c4] 24)).alloc (.cells #[.slice p5 n5 c5] 24)).trans hg
  replace R_a := Lib.hid (R_a.out.grow gg)
  replace R_b := Lib.hid (R_b.out.grow gg)
  replace R_s := Lib.hid (R_s.out.grow gg)
  replace R_d := Lib.hid (R_d.out.grow gg)
  replace R_t := Lib.hid (R_t.out.grow gg)
  replace R_q := Lib.hid (R_q.out.grow gg)
  replace R_r := Lib.hid (R_r.out.grow gg)
  replace GB := Lib.hid (GB.out.trans gg)
  clear hg gg
  have R_p := Lib.hid (hr_p.mono hB)
  clear hB hr_p
  replace k_a := ((Gr.refl w7).alloc (.cells #[.slice p6 n6 c6] 24)).cell k_a
  replace k_b := ((Gr.refl w7).alloc (.cells #[.slice p6 n6 c6] 24)).cell k_b
  replace k_zero := ((Gr.refl w7).alloc (.cells #[.slice p6 n6 c6] 24)).cell k_zero
  replace k_s := ((Gr.refl w7).alloc (.cells #[.slice p6 n6 c6] 24)).cell k_s
  replace k_d := ((Gr.refl w7).alloc (.cells #[.slice p6 n6 c6] 24)).cell k_d
  replace k_t := ((Gr.refl w7).alloc (.cells #[.slice p6 n6 c6] 24)).cell k_t
  replace k_q := ((Gr.refl w7).alloc (.cells #[.slice p6 n6 c6] 24)).cell k_q
  replace k_r := ((Gr.refl w7).alloc (.cells #[.slice p6 n6 c6] 24)).cell k_r
  have k_p : (w7.alloc (.cells #[.slice p6 n6 c6] 24)).cell? ⟨w7.heap.size, 0, none⟩ = some (.slice p6 n6 c6) := by simp [go_sem]
  have hB := (GB.out.trans ((Gr.refl w7).alloc (.cells #[.slice p6 n6 c6] 24))).le
  go_wp2_with fail
  refine (Add_any (Nw.zero _) (R_b.out.grow ((Gr.refl w7).alloc (.cells #[.slice p6 n6 c6] 24)))).mono ?_
  rintro e w8 ⟨z7, e7, p7, n7, c7, rfl, hr_u, hg⟩
  replace k_a := hg.cell k_a
  replace k_b := hg.cell k_b
  replace k_zero := hg.cell k_zero
  replace k_s := hg.cell k_s
  replace k_d := hg.cell k_d
  replace k_t := hg.cell k_t
  replace k_q := hg.cell k_q
  replace k_r := hg.cell k_r
  replace k_p := hg.cell k_p
  have gg := ((Gr.refl w7).alloc (.cells #[.slice p6 n6 c6] 24)).trans hg
  replace R_a := Lib.hid (R_a.out.grow gg)
  replace R_b := Lib.hid (R_b.out.grow gg)
  replace R_s := Lib.hid (R_s.out.grow gg)
  replace R_d := Lib.hid (R_d.out.grow gg)
  replace R_t := Lib.hid (R_t.out.grow gg)
  replace R_q := Lib.hid (R_q.out.grow gg)
  replace R_r := Lib.hid (R_r.out.grow gg)
  replace R_p := Lib.hid (R_p.out.grow gg)
  replace GB := Lib.hid (GB.out.trans gg)
  clear hg gg
  have R_u := Lib.hid (hr_u.mono hB)
  clear hB hr_u
  replace k_a := ((Gr.refl w8).alloc (.cells #[.slice p7 n7 c7] 24)).cell k_a
  replace k_b := ((Gr.refl w8).alloc (.cells #[.slice p7 n7 c7] 24)).cell k_b
  replace k_zero := ((Gr.refl w8).alloc (.cells #[.slice p7 n7 c7] 24)).cell k_zero
  replace k_s := ((Gr.refl w8).alloc (.cells #[.slice p7 n7 c7] 24)).cell k_s
  replace k_d := ((Gr.refl w8).alloc (.cells #[.slice p7 n7 c7] 24)).cell k_d
  replace k_t := ((Gr.refl w8).alloc (.cells #[.slice p7 n7 c7] 24)).cell k_t
  replace k_q := ((Gr.refl w8).alloc (.cells #[.slice p7 n7 c7] 24)).cell k_q
  replace k_r := ((Gr.refl w8).alloc (.cells #[.slice p7 n7 c7] 24)).cell k_r
  replace k_p := ((Gr.refl w8).alloc (.cells #[.slice p7 n7 c7] 24)).cell k_p
  have k_u : (w8.alloc (.cells #[.slice p7 n7 c7] 24)).cell? ⟨w8.heap.size, 0, none⟩ = some (.slice p7 n7 c7) := by simp [go_sem]
  have HI : ∃ xs : List (Option Addr × Nat × Nat), xs.length = 7 ∧ (∀ x ∈ xs, x.2.1 ≤ 1048576) ∧ OInv wc (w8.heap.size + 1) xs ((w8.alloc (.cells #[.slice p7 n7 c7] 24)).alloc (.cells #[.slice p1 n1 c1, .slice p2 n2 c2, .slice p3 n3 c3, .slice p4 n4 c4, .slice p5 n5 c5, .slice p6 n6 c6, .slice p7 n7 c7] 24)) := by
    refine ⟨[(p1, n1, c1), (p2, n2, c2), (p3, n3, c3), (p4, n4, c4), (p5, n5, c5), (p6, n6, c6), (p7, n7, c7)], rfl, ?_, ⟨GB.out.trans (((Gr.refl w8).alloc (.cells #[.slice p7 n7 c7] 24)).alloc _), ?_, ?_, by simp [World.size_alloc]⟩⟩
    · exact List.forall_mem_cons.2 ⟨R_s.out.small, List.forall_mem_cons.2 ⟨R_d.out.small, List.forall_mem_cons.2 ⟨R_t.out.small, List.forall_mem_cons.2 ⟨R_q.out.small, List.forall_mem_cons.2 ⟨R_r.out.small, List.forall_mem_cons.2 ⟨R_p.out.small, List.forall_mem_cons.2 ⟨R_u.out.small, fun _ h => by cases h⟩⟩⟩⟩⟩⟩⟩
    · have := nats7 (w8.alloc (.cells #[.slice p7 n7 c7] 24)) p1 p2 p3 p4 p5 p6 p7 n1 c1 n2 c2 n3 c3 n4 c4 n5 c5 n6 c6 n7 c7
      rwa [World.size_alloc] at this
    · exact List.forall_mem_cons.2 ⟨((OwnU.of R_s.out).mono (Nat.le_succ _)).grow (((Gr.refl w8).alloc (.cells #[.slice p7 n7 c7] 24)).alloc _), List.forall_mem_cons.2 ⟨((OwnU.of R_d.out).mono (Nat.le_succ _)).grow (((Gr.refl w8).alloc (.cells #[.slice p7 n7 c7] 24)).alloc _), List.forall_mem_cons.2 ⟨((OwnU.of R_t.out).mono (Nat.le_succ _)).grow (((Gr.refl w8).alloc (.cells #[.slice p7 n7 c7] 24)).alloc _), List.forall_mem_cons.2 ⟨((OwnU.of R_q.out).mono (Nat.le_succ _)).grow (((Gr.refl w8).alloc (.cells #[.slice p7 n7 c7] 24)).alloc _), List.forall_mem_cons.2 ⟨((OwnU.of R_r.out).mono (Nat.le_succ _)).grow (((Gr.refl w8).alloc (.cells #[.slice p7 n7 c7] 24)).alloc _), List.forall_mem_cons.2 ⟨((OwnU.of R_p.out).mono (Nat.le_succ _)).grow (((Gr.refl w8).alloc (.cells #[.slice p7 n7 c7] 24)).alloc _), List.forall_mem_cons.2 ⟨((OwnU.of R_u.out).mono (Nat.le_succ _)).grow (((Gr.refl w8).alloc (.cells #[.slice p7 n7 c7] 24)).alloc _), fun _ h => by cases h⟩⟩⟩⟩⟩⟩⟩
  obtain ⟨xs, hlen, hsm, hI0⟩ := HI
  have HL := Lib.hid hlen
  have HS := Lib.hid hsm
  have HI := Lib.hid hI0
  clear hlen hsm hI0
  clear R_s
  clear R_d
  clear R_t
  clear R_q
  clear R_r
  clear R_p
  clear R_u
  go_wp2
  go_loopw [82] (fun i wr => ∃ j : Nat, j ≤ 7 ∧ i = .int .i64 j ∧ OInv wc (w8.heap.size + 1) xs wr) (fun i _ => 7 - (intOf i).toNat)
  case atStart => exact ⟨0, Nat.zero_le _, rfl, HI.out⟩
  case round =>
    obtain ⟨j, hj, rfl, hI⟩ := hrel
    have HJ := Lib.hid hI
    clear hI HI k_a k_b k_zero k_s k_d k_t k_q k_r k_p k_u
    by_cases hlt : j < 7
    · obtain ⟨pp, nn, cc, hx⟩ : ∃ p n c, xs[j]?.getD (none, 0, 0) = (p, n, c) := ⟨_, _, _, rfl⟩
      have hc := HJ.out.list j (by rw [HL.out]; exact hlt)
      rw [hx, Nat.zero_add] at hc
      have hm : (pp, nn, cc) ∈ xs := by
        rw [← hx, List.getElem?_eq_getElem (by rw [HL.out]; exact hlt)]
        exact List.getElem_mem _
      have hn := HS.out _ hm
      have HM := Lib.hid hm
      clear hx hm
      have hj0 : (0 : Int) ≤ (j : Int) := by omega
      have hj1 : (j : Int) < 7 := by omega
      go_wp2
      go_loopw [89] (fun i wi => ∃ t : Nat, t ≤ nn ∧ i = .int .i64 t ∧ wi.cell? ⟨wr.heap.size, 0, none⟩ = some (.slice pp nn cc) ∧ OInv wc (w8.heap.size + 1) xs wi ∧ wr.heap.size ≠ w8.heap.size + 1 ∧ w8.heap.size + 1 < wr.heap.size) (fun i _ => nn - (intOf i).toNat)
      case atStart => exact ⟨0, Nat.zero_le _, rfl, by simp [go_sem], HJ.out.alloc _, Nat.ne_of_gt HJ.out.lt, HJ.out.lt⟩
      case round =>
        obtain ⟨t, ht, rfl, hk, hI, hne, hlt2⟩ := hrel
        have HK := Lib.hid hI
        clear hI hc
        by_cases htn : t < nn
        · rcases HK.out.own _ HM.out with h0 | ⟨b, off, rfl, hb, hl, hcc⟩
          · exact absurd h0 (by show ¬ nn = 0; omega)
          · obtain ⟨⟨v, hv⟩, hf⟩ := hcc t htn
            have HB := Lib.hid hb
            have HBL := Lib.hid hl
            have HLT := Lib.hid hlt2
            clear hcc hb hl hlt2 hne
            have ht0 : (0 : Int) ≤ (t : Int) := by omega
            have ht1 : (t : Int) < (nn : Int) := by omega
            have hk2 := fun u => keep_set (b := b) (i := off + t) hk (Nat.ne_of_lt (Nat.lt_trans HBL.out HLT.out)) u
            go_wp2
            go_roundw
            case rel => exact ⟨t + 1, by omega, by go_num, hk2 _, HK.out.set b (off + t) HB.out HBL.out _, Nat.ne_of_gt HLT.out, HLT.out⟩
            case measure => simp [intOf]; omega
        · obtain rfl : t = nn := by omega
          go_wp2
          go_roundw
          case rel => exact ⟨j + 1, by omega, by go_num, HK.out⟩
          case measure => simp [intOf]; omega
    · obtain rfl : j = 7 := by omega
      have gg : Gr wc wr := HJ.out.below
      have k_a := gg.cell KA.out
      have k_b := gg.cell KB.out
      have GG := Lib.hid gg
      clear gg
      go_wp2_with fail
      refine (Equal_l (RA0.out.grow GG.out) (RX0.out.grow GG.out)).mono ?_
      rintro e wz ⟨rfl, hg⟩
      have k_b2 := hg.cell k_b
      have GZ := Lib.hid (GG.out.trans hg)
      clear hg k_a k_b
      go_wp2_with fail
      refine (Equal_l (RB0.out.grow GZ.out) (RY0.out.grow GZ.out)).mono ?_
      rintro e wy ⟨rfl, hg⟩
      have GY := Lib.hid (GW.out.trans (GZ.out.trans hg))
      clear hg k_b2
      go_wp2
      go_ret
      exact ⟨rfl, GY.out⟩

theorem NaturalOwn (w : World) (ba : Option Addr) (na ca : Nat) (bb : Option Addr) (nb cb : Nat) (h1 : Nin w ba na ca) (h2 : Nin w bb nb cb) : Calls Try.prog 10 #[.agg #[.slice ba na ca], .agg #[.slice bb nb cb]] w fun e w' => e = .returned (.bool true) ∧ Gr w w' := by
  by_cases g1 : 100 < na ∨ 100 < nb
  · exact great w ba bb na ca nb cb g1
  have sa : na ≤ 100 := by omega
  have sb : nb ≤ 100 := by omega
  obtain ⟨la, ha⟩ := h1.nw (by omega)
  obtain ⟨lb, hb⟩ := h2.nw (by omega)
  exact ok w ba bb na ca nb cb la lb ha hb sa sb

end Go.Proofs.Ytiefnhpbniaklaa.Nlown
