/- The contract of natural's Div: where it divides. -/
import Derived.Test.YtiefnhpbniaklaaNdivx
import Derived.Test.YtiefnhpbniaklaaNdivide
namespace Go.Proofs.Ytiefnhpbniaklaa.Nk
open Go.RowKit Go.Shelf Go.Proofs.Ytiefnhpbniaklaa.Nm Go.Proofs.Ytiefnhpbniaklaa.Ne Go.Proofs.Ytiefnhpbniaklaa.Nf


/-- trim, for words of the call's own. -/
theorem trim_own (p : Option Addr) (l : List Nat) (cap B : Nat) (hn : l.length ≤ cap) (hs : l.length ≤ 1000) (hok : ok l) (w : World) (h : Ne.Own B w p l) :
    Calls Try.prog 96 #[.slice p l.length cap] w fun e w' => e = .returned (.slice p (digs (val l)).length cap) ∧ w' = w :=
  (trim_any p l cap hn (by omega) w h.rd).mono fun _ _ ⟨h1, h2⟩ => ⟨by rw [h1, trim_eq_digs hok], h2⟩
theorem trim_nr (p : Option Addr) (l : List Nat) (cap B : Nat) (hn : l.length ≤ cap) (hs : l.length ≤ 1000) (hp : p = none → l.length = 0 ∧ cap = 0) (hok : ok l) (w : World) (h : Ne.Own B w p l) :
    Nr B w p (digs (val l)).length cap (digs (val l)) := by
  have h1 := trim_eq_digs hok
  have h2 := trim_length_le l
  rw [h1] at h2
  have h3 : digs (val l) = l.take (digs (val l)).length := by
    rw [← h1]
    have : trim l <+: l := by
      unfold trim
      have := List.dropWhile_suffix (l := l.reverse) (· == 0)
      have := List.reverse_prefix.2 this
      rwa [List.reverse_reverse] at this
    exact List.prefix_iff_eq_take.1 this
  have ho : Ne.Own B w p (digs (val l)) := by rw [h3]; exact h.take _
  exact ⟨⟨rfl, by omega, fun e => ⟨by have := (hp e).1; omega, (hp e).2⟩, ho.rd, ok_digs _, by omega⟩, ho⟩

set_option maxRecDepth 100000 in
set_option maxHeartbeats 4000000 in
theorem Div_ok (p q : Option Addr) (n m c d : Nat) (l k : List Nat) (w : World) (hl : Nw w p n c l) (hk : Nw w q m d k) (hv1 : decide (valid l) = true) (hv2 : decide (valid k) = true) (hm : 0 < m) (hx : val k ≤ val l) :
    Calls Try.prog 40 #[.agg #[.slice p n c], .agg #[.slice q m d]] w (DivGave (val l / val k) (val l % val k) w) := by
  have HL := Lib.hid hl
  have HK := Lib.hid hk
  have HV1 := Lib.hid hv1
  have HV2 := Lib.hid hv2
  have HX := Lib.hid hx
  have hm0 : (m : Int) = 0 ↔ False := by
    refine ⟨fun h => ?_, False.elim⟩
    omega
  have hm1 : m ≠ 0 := by omega
  have hmn : m ≤ n := by
    have := length_le_of_val hl.ok (of_decide_eq_true hv2).2 hx
    rwa [hl.len, hk.len] at this
  have hn : n ≤ 64 := by
    have := (of_decide_eq_true hv1).1
    rwa [hl.len] at this
  have HMN := Lib.hid hmn
  have HN := Lib.hid hn
  have G0 := Lib.hid (((((Gr.refl w).alloc (.cells #[.slice p n c] 24)).alloc (.cells #[.slice q m d] 24)).alloc (.cells #[.slice none 0 0] 24)).alloc (.cells #[.slice none 0 0] 24))
  clear hl hk hv1 hv2 hx hmn hn
  go_enter Try.func40, Try.ntmps40
  go_wp2_with fail
  refine (Valid_n p n c l _ (HL.out.grow G0.out)).mono ?_
  rintro e w1 ⟨rfl, hg⟩
  rw [HV1.out]
  have c1 := hg.cell (p := ⟨w.heap.size, 0, none⟩) (v := .slice p n c) (by simp [go_sem])
  have c2 := hg.cell (p := ⟨w.heap.size + 1, 0, none⟩) (v := .slice q m d) (by simp [go_sem])
  have c3 := hg.cell (p := ⟨w.heap.size + 1 + 1, 0, none⟩) (v := .slice none 0 0) (by simp [go_sem])
  have f3 := hg.frozen (p := ⟨w.heap.size + 1 + 1, 0, none⟩) (v := .slice none 0 0) (by simp [go_sem]) (by simp [go_sem])
  have c4 := hg.cell (p := ⟨w.heap.size + 1 + 1 + 1, 0, none⟩) (v := .slice none 0 0) (by simp [go_sem])
  have f4 := hg.frozen (p := ⟨w.heap.size + 1 + 1 + 1, 0, none⟩) (v := .slice none 0 0) (by simp [go_sem]) (by simp [go_sem])
  have GA := Lib.hid (G0.out.trans hg)
  clear hg
  go_wp2_with fail
  refine (Valid_n q m d k _ (HK.out.grow GA.out)).mono ?_
  rintro e w2 ⟨rfl, hg⟩
  rw [HV2.out]
  have e1 := hg.cell c1
  have e2 := hg.cell c2
  have e3 := hg.cell c3
  have e4 := hg.cell c4
  have g3 := hg.frozen c3 f3
  have g4 := hg.frozen c4 f4
  have GB := Lib.hid (GA.out.trans hg)
  clear hg c1 c2 c3 c4 f3 f4
  clear GA G0
  go_wp2_with fail
  refine (Compare_ok p q n m c d l k _ (HL.out.grow GB.out) (HK.out.grow GB.out) HV1.out HV2.out).mono ?_
  rintro e w3 ⟨rfl, hg⟩
  have k1 := hg.cell e1
  have k2 := hg.cell e2
  have k3 := hg.cell e3
  have k4 := hg.cell e4
  have j3 := hg.frozen e3 g3
  have j4 := hg.frozen e4 g4
  have GC := Lib.hid (GB.out.trans hg)
  clear hg e1 e2 e3 e4 g3 g4 GB
  have ho : 0 ≤ ord (val l) (val k) := by
    unfold ord
    have := HX.out
    rw [if_neg (by omega)]
    split <;> omega
  generalize ord (val l) (val k) = O at *
  go_wp2_with fail
  refine (divide_any p q n m c d l k _ (HL.out.grow GC.out) (HK.out.grow GC.out) hm HMN.out HN.out (of_decide_eq_true HV2.out).2).mono ?_
  rintro e w4 ⟨p1, p2, cap1, cap2, r1, r2, rfl, r1c, r2c, r1s, r2s, r1n, r2n, r1k, r2k, r1v, r2v, r1o, r2o, hg⟩
  have m3 := hg.cell k3
  have m4 := hg.cell k4
  have mf3 := hg.frozen k3 j3
  have mf4 := hg.frozen k4 j4
  have hz : w.heap.size + 1 + 1 + 1 < w3.heap.size := World.block_lt_of_cell? w3 _ k4
  have GD := Lib.hid (GC.out.trans hg)
  have HR1 := Lib.hid (trim_nr p1 r1 cap1 _ r1c r1s r1n r1k w4 r1o)
  have HR2 := Lib.hid (trim_nr p2 r2 cap2 _ r2c r2s r2n r2k w4 r2o)
  have HT1 := Lib.hid (fun (w' : World) (h : Ne.Own w3.heap.size w' p1 r1) => trim_own p1 r1 cap1 _ r1c r1s r1k w' h)
  have HT2 := Lib.hid (fun (w' : World) (h : Ne.Own w3.heap.size w' p2 r2) => trim_own p2 r2 cap2 _ r2c r2s r2k w' h)
  rw [r1v] at HR1 HT1
  rw [r2v] at HR2 HT2
  have R1V := Lib.hid r1v
  have R2V := Lib.hid r2v
  have HO1 := Lib.hid r1o
  have HO2 := Lib.hid r2o
  clear hg k1 k2 k3 k4 j3 j4 r1c r2c r1s r2s r1n r2n r1k r2k r1v r2v r1o r2o
  have hne1 : Hid (∀ (x : Nat), x < w3.heap.size → ∀ y : Addr, p1 = some y → y.block ≠ x ∨ val (digs (val l / val k)) = 0) := Lib.hid (by
    intro x hx y hy
    rcases HO1.out with h | ⟨b, off, h2, h3, h4⟩
    · exact .inr (by rw [val_digs, ← R1V.out, h]; rfl)
    · rw [h2] at hy; cases hy; exact .inl (by dsimp only; omega))
  have hne2 : Hid (∀ (x : Nat), x < w3.heap.size → ∀ y : Addr, p2 = some y → y.block ≠ x ∨ val (digs (val l % val k)) = 0) := Lib.hid (by
    intro x hx y hy
    rcases HO2.out with h | ⟨b, off, h2, h3, h4⟩
    · exact .inr (by rw [val_digs, ← R2V.out, h]; rfl)
    · rw [h2] at hy; cases hy; exact .inl (by dsimp only; omega))
  have hle := GC.out.le
  go_wp2_with fail
  refine (HT1.out _ HO1.out).mono ?_
  rintro e w5 ⟨rfl, rfl⟩
  go_wp2_with fail
  refine (HT2.out _ HO2.out).mono ?_
  rintro e w6 ⟨rfl, rfl⟩
  go_wp2
  exact bodyPost_ret (v := .tuple #[.agg #[.slice p1 (digs (val l / val k)).length cap1], .agg #[.slice p2 (digs (val l % val k)).length cap2], .int .i64 0]) (by simp [results, Try.results40, go_sem, m3, m4]) rfl
    ⟨_, _, _, _, _, _, rfl, ((HR1.out.set' _ _ (hne1.out _ (by dsimp only; omega)) (tight_digs _)).set' _ _ (hne1.out _ (by dsimp only; omega)) (tight_digs _)).mono hle, ((HR2.out.set' _ _ (hne2.out _ (by dsimp only; omega)) (tight_digs _)).set' _ _ (hne2.out _ (by dsimp only; omega)) (tight_digs _)).mono hle, (GD.out.setCell (by simp; omega) _).setCell (by simp; omega) _⟩
end Go.Proofs.Ytiefnhpbniaklaa.Nk
