/- The invariant of natural's divide. -/
import Derived.Test.YtiefnhpbniaklaaNdigit
import Derived.Deep.DeepCutAuto
import Derived.Deep.RegionHeld3
namespace Go.Proofs.Ytiefnhpbniaklaa.Nk
open Go.RowKit Go.Shelf Go.Proofs.Ytiefnhpbniaklaa.Nm Go.Proofs.Ytiefnhpbniaklaa.Ne Go.Proofs.Ytiefnhpbniaklaa.Nf

theorem hold_keep {W W' : World} {b off : Nat} {l : List Nat} (h : Hold W b off l) (k : ∀ (a : Addr) (v : Value), W.cell? a = some v → W'.cell? a = some v ∧ W'.frozen? a = W.frozen? a) : Hold W' b off l :=
  fun i hi => ⟨(k _ _ (h i hi).1).1, (k _ _ (h i hi).1).2.trans (h i hi).2⟩
/-- The numbers of divide between two rounds, k of which are over. -/
def DivN (R D qs r : List Nat) (m k : Nat) : Prop :=
  val R = val r + val D * val qs ∧ val r < val D * pw (m - k) ∧ ∀ t, t < m - k → qs[t]?.getD 0 = 0
theorem DivN.start {R D : List Nat} {m : Nat} (h : val R < val D * pw m) : DivN R D (List.replicate m 0) R m 0 :=
  ⟨by rw [val_replicate]; omega, h, fun t ht => by rw [Nat.sub_zero] at ht; simp [ht]⟩
theorem val_set {l : List Nat} {i x : Nat} (hi : i < l.length) (h0 : l[i]?.getD 0 = 0) : val (l.set i x) = val l + pw i * x := by
  have e1 := val_take_drop (l.set i x) (i + 1) (by rw [List.length_set]; omega)
  have e2 := val_take_drop l (i + 1) (by omega)
  rw [val_set_take l i x hi, List.drop_set_of_lt (by omega)] at e1
  rw [val_take_succ l i hi, h0] at e2
  omega
/-- The words in the window of a round, and what a digit makes of the numbers. -/
theorem DivN.step {R D qs r : List Nat} {m k n2 i : Nat} (h : DivN R D qs r m k) (hk : k < m) (hi : i = m - 1 - k) (hD : val D < pw n2) (hr : ok r) (hrl : r.length = m + n2) (hq : qs.length = m) :
    val ((r.drop i).take (n2 + 1)) < val D * 4294967296 ∧
    ∀ (q : Nat) (s : List Nat), s.length = n2 + 1 → val s + q * val D = val ((r.drop i).take (n2 + 1)) → val s < val D →
      DivN R D (qs.set i q) (r.take i ++ (s ++ r.drop (i + (n2 + 1)))) m (k + 1) := by
  obtain ⟨h1, h2, h3⟩ := h
  have hmk : m - k = i + 1 := by omega
  have hmk1 : m - (k + 1) = i := by omega
  have hsl : ((r.drop i).take (n2 + 1)).length = n2 + 1 := by simp; omega
  have e2 : r = r.take i ++ ((r.drop i).take (n2 + 1) ++ r.drop (i + (n2 + 1))) := by
    rw [← List.drop_drop, List.take_append_drop, List.take_append_drop]
  have v1 : val r = val (r.take i) + pw i * (val ((r.drop i).take (n2 + 1)) + pw (n2 + 1) * val (r.drop (i + (n2 + 1)))) := by
    conv => lhs; rw [e2]
    rw [val_append, val_append, hsl, List.length_take, Nat.min_eq_left (by omega)]
  rw [hmk] at h2 h3
  have p1 : val D * pw (i + 1) = pw i * (val D * 4294967296) := by
    simp only [pw]
    rw [Nat.mul_comm (val D), Nat.mul_comm (val D) 4294967296, Nat.mul_comm 4294967296 (pw i), Nat.mul_assoc]
  have hlow := val_take_lt hr i
  have hhigh : val (r.drop (i + (n2 + 1))) = 0 := by
    rcases Nat.eq_zero_or_pos (val (r.drop (i + (n2 + 1)))) with h | h
    · exact h
    · have a1 : pw (i + (n2 + 1)) ≤ pw i * (pw (n2 + 1) * val (r.drop (i + (n2 + 1)))) := by
        rw [pw_add]
        exact Nat.mul_le_mul_left _ (Nat.le_mul_of_pos_right _ h)
      have a2 : val D * pw (i + 1) < pw n2 * pw (i + 1) := Nat.mul_lt_mul_of_pos_right hD (pw_pos _)
      rw [← pw_add, show n2 + (i + 1) = i + (n2 + 1) by omega] at a2
      rw [Nat.mul_add] at v1
      omega
  rw [hhigh, Nat.mul_zero, Nat.add_zero] at v1
  have hwin : val ((r.drop i).take (n2 + 1)) < val D * 4294967296 := by
    rcases Nat.lt_or_ge (val ((r.drop i).take (n2 + 1))) (val D * 4294967296) with h | h
    · exact h
    · have := Nat.mul_le_mul_left (pw i) h
      omega
  refine ⟨hwin, fun q s hs hv hlt => ⟨?_, ?_, ?_⟩⟩
  · have hq0 := h3 i (by omega)
    rw [val_set (by omega) hq0, val_append, val_append, hs, List.length_take, Nat.min_eq_left (by omega), hhigh, Nat.mul_zero, Nat.add_zero, h1, v1, ← hv]
    simp only [Nat.mul_add]
    rw [Nat.mul_left_comm (pw i) q (val D), Nat.mul_left_comm (val D) (pw i) q, Nat.mul_comm q (pw i * val D), Nat.mul_assoc]
    rw [Nat.mul_comm (val D) q]
    omega
  · rw [hmk1, val_append, val_append, hs, List.length_take, Nat.min_eq_left (by omega), hhigh, Nat.mul_zero, Nat.add_zero]
    have := Nat.mul_le_mul_left (pw i) (show val s + 1 ≤ val D from hlt)
    rw [Nat.mul_add, Nat.mul_one] at this
    rw [Nat.mul_comm (val D)]
    omega
  · intro t ht
    rw [hmk1] at ht
    rw [List.getElem?_set_ne (by omega)]
    exact h3 t (by omega)
theorem DivN.done {R D qs r : List Nat} {m : Nat} (h : DivN R D qs r m m) : val qs = val R / val D ∧ val r = val R % val D := by
  obtain ⟨h1, h2, _⟩ := h
  rw [Nat.sub_self, pw, Nat.mul_one] at h2
  rw [h1]
  refine ⟨?_, ?_⟩
  · rw [Nat.add_mul_div_left _ _ (by omega), Nat.div_eq_of_lt h2, Nat.zero_add]
  · rw [Nat.add_mul_mod_self_left, Nat.mod_eq_of_lt h2]

/-- Between two rounds. -/
def DivI (w : World) (gq gr gb X m n1 n2 cr cb : Nat) (R D : List Nat) (pre : List (Nat × Nat)) (W : World) : Prop :=
  ((W.cell? ⟨w.heap.size, 0, none⟩ = some (.slice (some ⟨gq, 0, none⟩) m m) ∧ W.frozen? ⟨w.heap.size, 0, none⟩ = false) ∧
   (W.cell? ⟨w.heap.size + 1, 0, none⟩ = some (.slice (some ⟨gr, 0, none⟩) n1 cr) ∧ W.frozen? ⟨w.heap.size + 1, 0, none⟩ = false) ∧
   W.cell? ⟨w.heap.size + 1 + 1, 0, none⟩ = some (.int .i64 n2) ∧ W.cell? ⟨X, 0, none⟩ = some (.slice (some ⟨gb, 0, none⟩) n2 cb)) ∧
  (∃ qs r : List Nat, qs.length = m ∧ r.length = n1 ∧ ok qs ∧ ok r ∧ Hold W gq 0 qs ∧ Hold W gr 0 r ∧ Hold W gb 0 D ∧ (pre.map Prod.fst = dn m pre.length → DivN R D qs r m pre.length)) ∧ Gr w W
theorem divI_own {w : World} {gq gr gb X m n1 n2 cr cb : Nat} {R D : List Nat} {B : Nat} (hB : w.heap.size ≤ B) : OwnFrom B (DivI w gq gr gb X m n1 n2 cr cb R D) :=
  OwnFrom.and (own_keep fun _ _ _ h kk => ⟨⟨(kk _ _ h.1.1).1, (kk _ _ h.1.1).2.trans h.1.2⟩, ⟨(kk _ _ h.2.1.1).1, (kk _ _ h.2.1.1).2.trans h.2.1.2⟩, (kk _ _ h.2.2.1).1, (kk _ _ h.2.2.2).1⟩)
    (OwnFrom.and (own_keep fun _ _ _ h kk => by
      obtain ⟨qs, r, h1, h2, h3, h4, h5, h6, h7, h8⟩ := h
      exact ⟨qs, r, h1, h2, h3, h4, hold_keep h5 kk, hold_keep h6 kk, hold_keep h7 kk, h8⟩) (own_gr hB))
theorem dn_init {m i v : Nat} {pre : List (Nat × Nat)} (h : (pre ++ [(i, v)]).map Prod.fst = dn m (pre ++ [(i, v)]).length) : pre.map Prod.fst = dn m pre.length ∧ i = m - 1 - pre.length := by
  rw [List.map_append, List.length_append, List.length_singleton, dn_succ] at h
  obtain ⟨h1, h2⟩ := List.append_inj' h rfl
  exact ⟨h1, by simpa using h2⟩

theorem up_small (p : Option Addr) (l : List Nat) (n cap N : Nat) (hN : N < 32) (w : World) (h : Nw w p n cap l) :
    Calls Try.prog 98 #[.slice p n cap, .int .i64 N] w fun e w' => ∃ (g c : Nat) (r : List Nat), e = .returned (.slice (some ⟨g, 0, none⟩) (n + 1) c) ∧ r.length = n + 1 ∧ n + 1 ≤ c ∧ ok r ∧ val r = val l * 2 ^ N ∧ w.heap.size ≤ g ∧ Hold w' g 0 r ∧ Gr w w' := by
  refine (up_n p l n cap N (by omega) w h).mono ?_
  rintro e w' ⟨g, r, c, rfl, hl, hc, _, ho, hv, hg, hh, gg⟩
  have e1 : r.length = n + 1 := by rw [hl, h.len]; omega
  rw [e1] at hc ⊢
  exact ⟨g, c, r, rfl, e1, hc, ho, hv, hg, hh, gg⟩
theorem bcell {W w1 : World} (hb : Gr W w1) : (∀ b o, b < W.heap.size → w1.cell? ⟨b, o, none⟩ = W.cell? ⟨b, o, none⟩) ∧ (∀ b o, b < W.heap.size → w1.frozen? ⟨b, o, none⟩ = W.frozen? ⟨b, o, none⟩) :=
  ⟨fun b o h => Below.cell hb (p := ⟨b, o, none⟩) h, fun b o h => Below.frozen hb (p := ⟨b, o, none⟩) h⟩
theorem cell_new1 (w : World) (c : Array Value) (t : TypeId) (v : Value) (h : c[0]? = some v) : (w.alloc (.cells c t)).cell? ⟨w.heap.size, 0, none⟩ = some v := by rw [World.cell?_alloc_new]; exact h
theorem cell_new2 (w : World) (c : Array Value) (t : TypeId) (v : Value) (h : c[0]? = some v) : (w.alloc (.cells c t)).drew.cell? ⟨w.heap.size, 0, none⟩ = some v := cell_new1 w c t v h
theorem frozen_new1 (w : World) (c : Array Value) (t : TypeId) : (w.alloc (.cells c t)).frozen? ⟨w.heap.size, 0, none⟩ = false := by simp
theorem frozen_new2 (w : World) (c : Array Value) (t : TypeId) : (w.alloc (.cells c t)).drew.frozen? ⟨w.heap.size, 0, none⟩ = false := frozen_new1 w c t
theorem setCell_ne {w : World} {p q : Addr} {v x : Value} (hne : p.block ≠ q.block) (h : w.cell? q = some x) : (w.setCell p v).cell? q = some x :=
  (World.cell?_setCell_other _ _ _ _ (fun e => hne (by rw [e]))).trans h
theorem alloc_cell {w : World} {o : Obj} {q : Addr} {x : Value} (h : w.cell? q = some x) : (w.alloc o).cell? q = some x := Gr.cell ((Gr.refl _).alloc _) h
theorem drew_cell {w : World} {q : Addr} {x : Value} (h : w.cell? q = some x) : w.drew.cell? q = some x := h
theorem setCell_at {w : World} {p : Addr} {v u : Value} (h : w.cell? p = some u) : (w.setCell p v).cell? p = some v := World.cell?_setCell_same' _ _ _ (by rw [h]; rfl)
theorem alloc_frozen {w : World} {o : Obj} {q : Addr} {x : Value} (h : w.cell? q = some x) (hf : w.frozen? q = false) : (w.alloc o).frozen? q = false := Gr.frozen ((Gr.refl _).alloc _) h hf
theorem setCell_frozen {w : World} {p q : Addr} {v : Value} (hf : w.frozen? q = false) : (w.setCell p v).frozen? q = false := by rw [World.frozen?_setCell]; exact hf
theorem hold_other {w : World} {p : Addr} {v : Value} {b off : Nat} {l : List Nat} (hne : p.block ≠ b) (h : Hold w b off l) : Hold (w.setCell p v) b off l :=
  fun i hi => ⟨setCell_ne hne (h i hi).1, setCell_frozen (h i hi).2⟩
theorem hold_alloc {w : World} {o : Obj} {b off : Nat} {l : List Nat} (h : Hold w b off l) : Hold (w.alloc o) b off l := h.grow ((Gr.refl _).alloc _)
theorem hold_lt {w : World} {b off : Nat} {l : List Nat} (h : Hold w b off l) (h0 : 0 < l.length) : b < w.heap.size := World.block_lt_of_cell? w _ (h 0 h0).1
theorem cell_newS (w : World) (p : Addr) (u : Value) (c : Array Value) (t : TypeId) (v : Value) (h : c[0]? = some v) : ((w.setCell p u).alloc (.cells c t)).cell? ⟨w.heap.size, 0, none⟩ = some v := by
  have e : (w.setCell p u).heap.size = w.heap.size := by simp [World.setCell]
  rw [← e]
  exact cell_new1 _ c t v h
theorem hold_set0 {w : World} {b : Nat} {l : List Nat} (h : Hold w b 0 l) (k x : Nat) (hk : k < l.length) : Hold (w.setCell ⟨b, k, none⟩ (.int .u32 (x : Int))) b 0 (l.set k x) := by
  have := h.set k x hk
  rwa [Nat.zero_add] at this
theorem wr_keeps {b off n B : Nat} {W W' : World} {l : List Nat} (h : Wr b off n W W') (hh : Hold W b 0 l) (h0 : 0 < l.length) : KeepsFrom B W W' :=
  ⟨Nat.le_of_eq h.size.symm, fun k o _ hk ho => by
    by_cases e : k = b
    · subst e
      obtain ⟨c, t, fr, h1, _⟩ := Go.Sort.cells_of_cell? (hh 0 h0).1
      rw [hk] at h1
      cases h1
      simp [Obj.isCells] at ho
    · rw [h.block k e]; exact hk⟩
/-- A round's end. -/
theorem divI_step {w W W' : World} {gq gr gb X Bs m n1 n2 cr cb B i v jj q : Nat} {R D qs r s : List Nat} {pre : List (Nat × Nat)} (hcl : cl m i = jj) (hjm : jj < m) (hw0 : w.heap.size + 1 + 1 < gq) (hw1 : w.heap.size + 1 + 1 < gr)
    (d1 : gq ≠ gr) (d2 : gq ≠ gb) (d3 : gr ≠ gb) (d4 : X ≠ gq) (d5 : X ≠ gr) (d6 : Bs ≠ gq) (d7 : Bs ≠ gr)
    (b0 : W.cell? ⟨w.heap.size, 0, none⟩ = some (.slice (some ⟨gq, 0, none⟩) m m)) (f0 : W.frozen? ⟨w.heap.size, 0, none⟩ = false) (b1 : W.cell? ⟨w.heap.size + 1, 0, none⟩ = some (.slice (some ⟨gr, 0, none⟩) n1 cr)) (f1 : W.frozen? ⟨w.heap.size + 1, 0, none⟩ = false)
    (b2 : W.cell? ⟨w.heap.size + 1 + 1, 0, none⟩ = some (.int .i64 n2)) (bX : W.cell? ⟨X, 0, none⟩ = some (.slice (some ⟨gb, 0, none⟩) n2 cb))
    (hql : qs.length = m) (hrl : r.length = n1) (hqo : ok qs) (hro : ok r) (hhq : Hold W gq 0 qs) (hhr : Hold W gr 0 r) (hhd : Hold W gb 0 D) (hN : pre.map Prod.fst = dn m pre.length → DivN R D qs r m pre.length) (hB : Gr w W) (hpl : pre.length < m)
    (hn1 : n1 = m + n2) (hD : val D < pw n2) (hq : q < 4294967296) (hsl : s.length = n2 + 1) (hso : ok s) (hsh : Hold W' gr jj s) (hwr : Wr gr jj (n2 + 1) W W') (hv : val s + q * val D = val ((r.drop jj).take (n2 + 1))) (hlt : val ((r.drop jj).take (n2 + 1)) < val D * 4294967296 → val s < val D) :
    KeepsFrom B W (W'.setCell ⟨gq, jj, none⟩ (.int .u32 (q : Int))) ∧ (Src Bs (some ⟨gq, 0, none⟩) m m (fun _ _ => True) W → Src Bs (some ⟨gq, 0, none⟩) m m (fun _ _ => True) (W'.setCell ⟨gq, jj, none⟩ (.int .u32 (q : Int)))) ∧
      DivI w gq gr gb X m n1 n2 cr cb R D (pre ++ [(i, v)]) (W'.setCell ⟨gq, jj, none⟩ (.int .u32 (q : Int))) := by
  have hq1 : Hold (W'.setCell ⟨gq, jj, none⟩ (.int .u32 (q : Int))) gq 0 (qs.set jj q) := hold_set0 (hhq.wrOther hwr d1) jj q (by omega)
  have hr1 : Hold W' gr 0 (r.take jj ++ (s ++ r.drop (jj + (n2 + 1)))) := by
    have e2 : r = r.take jj ++ ((r.drop jj).take (n2 + 1) ++ r.drop (jj + (n2 + 1))) := by
      rw [← List.drop_drop, List.take_append_drop, List.take_append_drop]
    have hwl : ((r.drop jj).take (n2 + 1)).length = n2 + 1 := by simp; omega
    have h0 := hhr
    rw [e2] at h0
    obtain ⟨h1, h2⟩ := Hold.append.1 h0
    obtain ⟨_, h4⟩ := Hold.append.1 h2
    rw [hwl, List.length_take, Nat.min_eq_left (by omega), Nat.zero_add] at h4
    refine Hold.append.2 ⟨h1.wr hwr (.inl (by simp; omega)), ?_⟩
    rw [List.length_take, Nat.min_eq_left (by omega), Nat.zero_add]
    refine Hold.append.2 ⟨hsh, ?_⟩
    rw [hsl]
    exact h4.wr hwr (.inr (by omega))
  have cellOf : ∀ {x : Nat} {u : Value}, x ≠ gr → x ≠ gq → W.cell? ⟨x, 0, none⟩ = some u → (W'.setCell ⟨gq, jj, none⟩ (.int .u32 (q : Int))).cell? ⟨x, 0, none⟩ = some u := fun h1 h2 hc =>
    setCell_ne (fun e => h2 e.symm) ((hwr.cellOf h1).trans hc)
  have frozenOf : ∀ {x : Nat}, W.frozen? ⟨x, 0, none⟩ = false → (W'.setCell ⟨gq, jj, none⟩ (.int .u32 (q : Int))).frozen? ⟨x, 0, none⟩ = false := fun hf => setCell_frozen ((hwr.frozen _).trans hf)
  have hgq : Gr w (W'.setCell ⟨gq, jj, none⟩ (.int .u32 (q : Int))) := Gr.setCell (Wr.gr hB hwr (by omega)) (by dsimp only; omega) _
  refine ⟨(wr_keeps hwr hhr (by omega)).trans ((KeepsOthers.setCell _ _ _).from _), fun hS => ⟨cellOf d7 d6 hS.1, .inr ⟨gq, 0, rfl, fun t ht => ⟨_, trivial, (hq1 t (by rw [List.length_set]; omega)).1⟩⟩⟩,
    ⟨⟨cellOf (by omega) (by omega) b0, frozenOf f0⟩, ⟨cellOf (by omega) (by omega) b1, frozenOf f1⟩, cellOf (by omega) (by omega) b2, cellOf d5 d4 bX⟩,
    ⟨qs.set jj q, r.take jj ++ (s ++ r.drop (jj + (n2 + 1))), by simpa using hql, by simp; omega, ok_set hqo _ _ hq, ok_append.2 ⟨ok_take hro _, ok_append.2 ⟨hso, ok_drop hro _⟩⟩, hq1, hold_other d1 hr1, hold_other d2 (hhd.wrOther hwr (fun e => d3 e.symm)), fun e => ?_⟩, hgq⟩
  obtain ⟨h1, h2⟩ := dn_init e
  have hj : jj = m - 1 - pre.length := by rw [← hcl, h2, cl_of (by omega)]
  obtain ⟨h3, h4⟩ := (hN h1).step hpl hj hD hro (by omega) hql
  have := h4 q s hsl hv (hlt h3)
  rwa [List.length_append, List.length_singleton]
theorem shift_fits {k : List Nat} {j x B t : Nat} (hk : ok k) (en : k.length = j + 1) (hx : k[j]?.getD 0 = x) (hB : x < 2 ^ B) (hB2 : B ≤ 32) (ht : t = 32 - B) : val k * 2 ^ t < pw (j + 1) := by
  have h1 := val_take_succ k j (by omega)
  rw [show j + 1 = k.length by omega, List.take_length, hx] at h1
  have h2 := val_take_lt hk j
  have h3 : val k < pw j * 2 ^ B := by
    have := Nat.mul_le_mul_left (pw j) (show x + 1 ≤ 2 ^ B from hB)
    rw [Nat.mul_add, Nat.mul_one] at this
    omega
  have h4 := Nat.mul_lt_mul_of_pos_right h3 (Nat.pos_of_ne_zero (show 2 ^ t ≠ 0 by simp))
  rw [Nat.mul_assoc, ← Nat.pow_add, show B + t = 32 by omega] at h4
  simp only [pw]
  omega
theorem div_start {l k : List Nat} {n j t m : Nat} (hl : ok l) (en : l.length = n) (ek : k.length = j + 1) (tk : Nm.tight k) (hm : m = n - j) (hj : j + 1 ≤ n) : val l * 2 ^ t < val k * 2 ^ t * pw m := by
  have h1 := val_lt hl
  have h2 := pw_le_val tk (fun e => by rw [e] at ek; simp at ek)
  rw [ek, Nat.add_sub_cancel] at h2
  have h3 := Nat.mul_le_mul_right (pw m) h2
  rw [← pw_add, show j + m = l.length by omega] at h3
  have h4 : val l < val k * pw m := by omega
  have h5 := Nat.mul_lt_mul_of_pos_right h4 (Nat.pos_of_ne_zero (show 2 ^ t ≠ 0 by simp))
  rw [Nat.mul_assoc, Nat.mul_comm (pw m), ← Nat.mul_assoc] at h5
  exact h5
theorem take_val' {D : List Nat} {q : Nat} (en : q ≤ D.length) (h : val D < pw q) : val (D.take q) = val D := by
  have h1 := val_take_drop D q en
  rcases Nat.eq_zero_or_pos (val (D.drop q)) with h2 | h2
  · rw [h2] at h1; omega
  · have := Nat.le_mul_of_pos_right (pw q) h2
    omega
theorem hold_take {w : World} {b off : Nat} {l : List Nat} (h : Hold w b off l) (q : Nat) : Hold w b off (l.take q) := by
  have e : l = l.take q ++ l.drop q := (List.take_append_drop q l).symm
  rw [e] at h
  exact (Hold.append.1 h).1
theorem hold_window {w : World} {b i q : Nat} {r : List Nat} (h : Hold w b 0 r) (hi : i ≤ r.length) : Hold w b i ((r.drop i).take q) := by
  have e : r = r.take i ++ r.drop i := (List.take_append_drop i r).symm
  rw [e] at h
  have h1 := (Hold.append.1 h).2
  rw [List.length_take, Nat.min_eq_left hi, Nat.zero_add] at h1
  exact hold_take h1 q
end Go.Proofs.Ytiefnhpbniaklaa.Nk
