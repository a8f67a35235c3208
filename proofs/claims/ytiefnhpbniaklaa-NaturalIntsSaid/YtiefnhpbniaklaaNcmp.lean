/- The contracts of cmp.Compare and of natural's Compare. -/
import Derived.Test.YtiefnhpbniaklaaNback
namespace Go.Proofs.Ytiefnhpbniaklaa.Nk
open Go.RowKit Go.Shelf Go.Proofs.Ytiefnhpbniaklaa.Nm Go.Proofs.Ytiefnhpbniaklaa.Ne

attribute [local go_sem] Oper.semAt_some

/-- -1, 0 or 1. -/
def ord (x y : Nat) : Int := if x < y then -1 else if y < x then 1 else 0
theorem ord_lt {x y : Nat} (h : x < y) : ord x y = -1 := if_pos h
theorem ord_gt {x y : Nat} (h : y < x) : ord x y = 1 := by unfold ord; rw [if_neg (by omega), if_pos h]
theorem ord_eq (x : Nat) : ord x x = 0 := by unfold ord; rw [if_neg (by omega), if_neg (by omega)]

theorem nan_int (x : Nat) (w : World) : Calls Try.prog 130 #[.int .i64 x] w fun e w' => e = .returned (.bool false) ∧ w' = w := by
  have h : ((x : Int) != (x : Int)) = false := by simp
  go_enter Try.func130, Try.ntmps130
  go_wp2
  go_ret
  exact ⟨rfl, rfl⟩
theorem nan_u32 (x : Nat) (w : World) : Calls Try.prog 131 #[.int .u32 x] w fun e w' => e = .returned (.bool false) ∧ w' = w := by
  have h : ((x : Int) != (x : Int)) = false := by simp
  go_enter Try.func131, Try.ntmps131
  go_wp2
  go_ret
  exact ⟨rfl, rfl⟩
set_option maxHeartbeats 1000000 in
theorem cmp_int (x y : Nat) (w : World) : Calls Try.prog 91 #[.int .i64 x, .int .i64 y] w fun e w' => e = .returned (.int .i64 (ord x y)) ∧ w' = w := by
  rcases Nat.lt_trichotomy x y with h | h | h
  · rw [ord_lt h]
    go_enter Try.func91, Try.ntmps91
    go_wp2_with (go_at_call 130; refine (nan_int _ _).mono ?_; rintro e w' ⟨rfl, rfl⟩)
    go_ret
    exact ⟨rfl, rfl⟩
  · subst h
    rw [ord_eq]
    go_enter Try.func91, Try.ntmps91
    go_wp2_with (go_at_call 130; refine (nan_int _ _).mono ?_; rintro e w' ⟨rfl, rfl⟩)
    go_ret
    exact ⟨rfl, rfl⟩
  · rw [ord_gt h]
    go_enter Try.func91, Try.ntmps91
    go_wp2_with (go_at_call 130; refine (nan_int _ _).mono ?_; rintro e w' ⟨rfl, rfl⟩)
    go_ret
    exact ⟨rfl, rfl⟩
set_option maxHeartbeats 1000000 in
theorem cmp_u32 (x y : Nat) (w : World) : Calls Try.prog 92 #[.int .u32 x, .int .u32 y] w fun e w' => e = .returned (.int .i64 (ord x y)) ∧ w' = w := by
  rcases Nat.lt_trichotomy x y with h | h | h
  · rw [ord_lt h]
    go_enter Try.func92, Try.ntmps92
    go_wp2_with (go_at_call 131; refine (nan_u32 _ _).mono ?_; rintro e w' ⟨rfl, rfl⟩)
    go_ret
    exact ⟨rfl, rfl⟩
  · subst h
    rw [ord_eq]
    go_enter Try.func92, Try.ntmps92
    go_wp2_with (go_at_call 131; refine (nan_u32 _ _).mono ?_; rintro e w' ⟨rfl, rfl⟩)
    go_ret
    exact ⟨rfl, rfl⟩
  · rw [ord_gt h]
    go_enter Try.func92, Try.ntmps92
    go_wp2_with (go_at_call 131; refine (nan_u32 _ _).mono ?_; rintro e w' ⟨rfl, rfl⟩)
    go_ret
    exact ⟨rfl, rfl⟩

theorem ord_length {l k : List Nat} (hl : ok l) (hk : ok k) (tl : Nm.tight l) (tk : Nm.tight k) (h : l.length ≠ k.length) : ord (val l) (val k) = ord l.length k.length := by
  rcases Nat.lt_trichotomy l.length k.length with h1 | h1 | h1
  · rw [ord_lt h1, ord_lt]
    rcases Nat.lt_or_ge (val l) (val k) with h2 | h2
    · exact h2
    · have := length_le_of_val hl tk h2; omega
  · exact absurd h1 h
  · rw [ord_gt h1, ord_gt]
    rcases Nat.lt_or_ge (val k) (val l) with h2 | h2
    · exact h2
    · have := length_le_of_val hk tl h2; omega
theorem lt_of_top {l k : List Nat} (hl : ok l) (e : l.length = k.length) (i : Nat) (hi : i < l.length) (h : l[i]?.getD 0 < k[i]?.getD 0) (h2 : ∀ j, i < j → j < l.length → l[j]?.getD 0 = k[j]?.getD 0) : val l < val k := by
  have ed : l.drop (i + 1) = k.drop (i + 1) := by
    apply List.ext_getElem?
    intro j
    rw [List.getElem?_drop, List.getElem?_drop]
    by_cases hj : i + 1 + j < l.length
    · have := h2 (i + 1 + j) (by omega) hj
      rw [List.getElem?_eq_getElem hj, List.getElem?_eq_getElem (by omega)] at this ⊢
      simpa using this
    · rw [List.getElem?_eq_none (by omega), List.getElem?_eq_none (by omega)]
  rw [val_take_drop l (i + 1) (by omega), val_take_drop k (i + 1) (by omega), ed, val_take_succ l i hi, val_take_succ k i (by omega)]
  have h3 := val_take_lt hl i
  have h4 := Nat.mul_le_mul_left (pw i) h
  rw [Nat.mul_succ] at h4
  omega
theorem ord_top {l k : List Nat} (hl : ok l) (hk : ok k) (e : l.length = k.length) (i : Nat) (hi : i < l.length) (h : l[i]?.getD 0 ≠ k[i]?.getD 0) (h2 : ∀ j, i < j → j < l.length → l[j]?.getD 0 = k[j]?.getD 0) :
    ord (val l) (val k) = ord (l[i]?.getD 0) (k[i]?.getD 0) := by
  rcases Nat.lt_trichotomy (l[i]?.getD 0) (k[i]?.getD 0) with h1 | h1 | h1
  · rw [ord_lt h1, ord_lt (lt_of_top hl e i hi h1 h2)]
  · exact absurd h1 h
  · rw [ord_gt h1, ord_gt (lt_of_top hk e.symm i (by omega) h1 (fun j a b => (h2 j a (by omega)).symm))]

set_option maxHeartbeats 2000000 in
theorem Compare_bad (p q : Option Addr) (n m c d : Nat) (l k : List Nat) (w : World) (hl : Nw w p n c l) (hk : Nw w q m d k) (hv : decide (valid l) = false ∨ decide (valid k) = false) :
    Calls Try.prog 35 #[.agg #[.slice p n c], .agg #[.slice q m d]] w fun e w' => e = .returned (.int .i64 0) ∧ Gr w w' := by
  have HL := Lib.hid hl
  have HK := Lib.hid hk
  have HV := Lib.hid hv
  have G0 := Lib.hid ((((Gr.refl w).alloc (.cells #[.slice p n c] 24)).alloc (.cells #[.slice q m d] 24)).alloc (.cells #[.int .i64 0] 3))
  clear hl hk hv
  go_enter Try.func35, Try.ntmps35
  go_wp2_with fail
  refine (Valid_n p n c l _ (HL.out.grow G0.out)).mono ?_
  rintro e w1 ⟨rfl, hg⟩
  have c2 := hg.cell (p := ⟨w.heap.size + 1, 0, none⟩) (v := .slice q m d) (by simp [go_sem])
  have c3 := hg.cell (p := ⟨w.heap.size + 1 + 1, 0, none⟩) (v := .int .i64 0) (by simp [go_sem])
  have f3 := hg.frozen (p := ⟨w.heap.size + 1 + 1, 0, none⟩) (v := .int .i64 0) (by simp [go_sem]) (by simp [go_sem])
  have GA := Lib.hid (G0.out.trans hg)
  clear hg
  cases hv1 : decide (valid l)
  · clear hv1
    go_wp2
    exact bodyPost_ret (v := .int .i64 0) (by simp [results, Try.results35, go_sem, c3]) rfl ⟨rfl, GA.out.setCell (by simp; omega) _⟩
  · have hv2 : decide (valid k) = false := by
      rcases HV.out with h | h
      · rw [hv1] at h; cases h
      · exact h
    clear hv1
    go_wp2_with fail
    refine (Valid_n q m d k _ (HK.out.grow GA.out)).mono ?_
    rintro e w2 ⟨rfl, hg⟩
    rw [hv2]
    have e3 := hg.cell c3
    have f4 := hg.frozen c3 f3
    have GB := Lib.hid (GA.out.trans hg)
    clear hg hv2 c2 c3 f3
    go_wp2
    exact bodyPost_ret (v := .int .i64 0) (by simp [results, Try.results35, go_sem, e3]) rfl ⟨rfl, GB.out.setCell (by simp; omega) _⟩
set_option maxHeartbeats 2000000 in
theorem Compare_len (p q : Option Addr) (n m c d : Nat) (l k : List Nat) (w : World) (hl : Nw w p n c l) (hk : Nw w q m d k) (hv1 : decide (valid l) = true) (hv2 : decide (valid k) = true) (hne : n ≠ m) :
    Calls Try.prog 35 #[.agg #[.slice p n c], .agg #[.slice q m d]] w fun e w' => e = .returned (.int .i64 (ord n m)) ∧ Gr w w' := by
  have HL := Lib.hid hl
  have HK := Lib.hid hk
  have HV1 := Lib.hid hv1
  have HV2 := Lib.hid hv2
  have hb : ((n : Int) != (m : Int)) = true := by simp; omega
  have hb2 : ((n : Int) == (m : Int)) = false := by simp; omega
  have G0 := Lib.hid ((((Gr.refl w).alloc (.cells #[.slice p n c] 24)).alloc (.cells #[.slice q m d] 24)).alloc (.cells #[.int .i64 0] 3))
  clear hl hk hv1 hv2 hne
  go_enter Try.func35, Try.ntmps35
  go_wp2_with fail
  refine (Valid_n p n c l _ (HL.out.grow G0.out)).mono ?_
  rintro e w1 ⟨rfl, hg⟩
  rw [HV1.out]
  have c1 := hg.cell (p := ⟨w.heap.size, 0, none⟩) (v := .slice p n c) (by simp [go_sem])
  have c2 := hg.cell (p := ⟨w.heap.size + 1, 0, none⟩) (v := .slice q m d) (by simp [go_sem])
  have c3 := hg.cell (p := ⟨w.heap.size + 1 + 1, 0, none⟩) (v := .int .i64 0) (by simp [go_sem])
  have f3 := hg.frozen (p := ⟨w.heap.size + 1 + 1, 0, none⟩) (v := .int .i64 0) (by simp [go_sem]) (by simp [go_sem])
  have GA := Lib.hid (G0.out.trans hg)
  clear hg
  go_wp2_with fail
  refine (Valid_n q m d k _ (HK.out.grow GA.out)).mono ?_
  rintro e w2 ⟨rfl, hg⟩
  rw [HV2.out]
  have e1 := hg.cell c1
  have e2 := hg.cell c2
  have e3 := hg.cell c3
  have f4 := hg.frozen c3 f3
  have GB := Lib.hid (GA.out.trans hg)
  clear hg c1 c2 c3 f3
  go_wp2_with fail
  refine (cmp_int n m _).mono ?_
  rintro e w3 ⟨rfl, rfl⟩
  go_wp2
  exact bodyPost_ret (v := .int .i64 (ord n m)) (by simp [results, Try.results35, go_sem, e3]) rfl ⟨rfl, GB.out.setCell (by simp; omega) _⟩

/-- Between two rounds: what has come is the same in k. -/
def CmpAt (w : World) (k : List Nat) (n : Nat) (q : Option Addr) (d : Nat) (pre : List (Nat × Nat)) (W : World) : Prop :=
  ((∀ x ∈ pre, x.2 = k[cl n x.1]?.getD 0) ∧ W.cell? ⟨w.heap.size + 1, 0, none⟩ = some (.slice q n d) ∧ W.cell? ⟨w.heap.size + 1 + 1, 0, none⟩ = some (.int .i64 0) ∧ W.frozen? ⟨w.heap.size + 1 + 1, 0, none⟩ = false) ∧ Rd W q k ∧ Gr w W
/-- A round has left: its word is another one in k. -/
def CmpIx (w : World) (k : List Nat) (n : Nat) (c : Code) (pre : List (Nat × Nat)) (W : World) : Prop :=
  (c = .ret ∧ ∃ ini last, pre = ini ++ [last] ∧ (∀ x ∈ ini, x.2 = k[cl n x.1]?.getD 0) ∧ last.2 ≠ k[cl n last.1]?.getD 0 ∧ W.cell? ⟨w.heap.size + 1 + 1, 0, none⟩ = some (.int .i64 (ord last.2 (k[cl n last.1]?.getD 0)))) ∧ Gr w W
theorem cmpAt_own {w : World} {k : List Nat} {n : Nat} {q : Option Addr} {d B : Nat} (hB : w.heap.size ≤ B) : OwnFrom B (CmpAt w k n q d) :=
  OwnFrom.and (own_keep fun _ _ _ h kk => ⟨h.1, (kk _ _ h.2.1).1, (kk _ _ h.2.2.1).1, (kk _ _ h.2.2.1).2.trans h.2.2.2⟩) (OwnFrom.and (own_keep fun _ _ _ h kk => rd_keep h kk) (own_gr hB))
theorem cmpIx_own {w : World} {k : List Nat} {n : Nat} {B : Nat} (hB : w.heap.size ≤ B) (c : Code) : OwnFrom B (CmpIx w k n c) :=
  OwnFrom.and (own_keep fun _ _ _ h kk => by obtain ⟨hc, ini, last, e1, e2, e3, e4⟩ := h; exact ⟨hc, ini, last, e1, e2, e3, (kk _ _ e4).1⟩) (own_gr hB)
theorem src_of {w : World} {p : Option Addr} {n c : Nat} {l : List Nat} (h : Nw w p n c l) : Src w.heap.size p n c (fun i v => v = l[i]?.getD 0) (w.alloc (.cells #[.slice p n c] 22)) := by
  refine ⟨by simp, ?_⟩
  rcases Nat.eq_zero_or_pos n with h0 | h0
  · exact .inl h0
  · obtain ⟨b, off, rfl, hc⟩ := (h.grow ((Gr.refl w).alloc (.cells #[.slice p n c] 22))).rd.at (by rw [h.len]; exact h0)
    exact .inr ⟨b, off, rfl, fun i hi => ⟨_, rfl, hc i (by rw [h.len]; exact hi)⟩⟩

theorem cmp_snoc {k : List Nat} {n i v : Nat} {pre : List (Nat × Nat)} (h : ∀ x ∈ pre, x.2 = k[cl n x.1]?.getD 0) (e : v = k[cl n i]?.getD 0) : ∀ x ∈ pre ++ [(i, v)], x.2 = k[cl n x.1]?.getD 0 := by
  intro x hx
  rcases List.mem_append.1 hx with h1 | h1
  · exact h x h1
  · obtain rfl := List.mem_singleton.1 h1
    exact e
theorem mem_dn {len k i : Nat} (hk : k ≤ len) : i ∈ dn len k ↔ i < len ∧ len - k ≤ i := by
  simp only [dn, List.mem_map, List.mem_range]
  constructor
  · rintro ⟨j, hj, rfl⟩; omega
  · rintro ⟨h1, h2⟩; exact ⟨len - 1 - i, by omega, by omega⟩
theorem Out.mem {V : Nat → Nat → Prop} {len k : Nat} {xs : List (Nat × Nat)} (h : Out V len k xs) (hk : k ≤ len) (i : Nat) (h1 : i < len) (h2 : len - k ≤ i) : ∃ v, (i, v) ∈ xs ∧ V i v := by
  have h3 : i ∈ xs.map Prod.fst := by rw [h.1]; exact (mem_dn hk).2 ⟨h1, h2⟩
  obtain ⟨⟨i', v⟩, h4, rfl⟩ := List.mem_map.1 h3
  exact ⟨v, h4, h.2 _ h4⟩
theorem cmp_done {l k : List Nat} {n : Nat} {xs : List (Nat × Nat)} (hl : l.length = n) (hk : k.length = n) (hO : Out (fun i v => v = l[i]?.getD 0) n n xs) (hA : ∀ x ∈ xs, x.2 = k[cl n x.1]?.getD 0) : l = k := by
  apply List.ext_getElem (by omega)
  intro i h1 h2
  obtain ⟨v, h3, h4⟩ := hO.mem (Nat.le_refl _) i (by omega) (by omega)
  have h5 := hA _ h3
  simp only [cl_of (show i < n by omega)] at h5
  rw [h4, List.getElem?_eq_getElem h1, List.getElem?_eq_getElem h2] at h5
  simpa using h5
theorem cmp_stop {l k : List Nat} {n : Nat} {pre ini : List (Nat × Nat)} {last : Nat × Nat} (ol : ok l) (okk : ok k) (hl : l.length = n) (hk : k.length = n) (hO : ∃ m, m ≤ n ∧ Out (fun i v => v = l[i]?.getD 0) n m pre)
    (e1 : pre = ini ++ [last]) (e2 : ∀ x ∈ ini, x.2 = k[cl n x.1]?.getD 0) (e3 : last.2 ≠ k[cl n last.1]?.getD 0) : ord (val l) (val k) = ord last.2 (k[cl n last.1]?.getD 0) := by
  obtain ⟨m, hm, hO⟩ := hO
  have hlen := hO.length
  rw [e1] at hlen
  simp at hlen
  subst hlen
  have h1 := hO.1
  rw [e1, List.map_append, dn_succ] at h1
  obtain ⟨h2, h3⟩ := List.append_inj' h1 rfl
  simp only [List.map_cons, List.map_nil, List.cons.injEq, and_true] at h3
  have hi : last.1 < n := by omega
  have hv : last.2 = l[last.1]?.getD 0 := hO.2 last (by rw [e1]; simp)
  rw [cl_of hi] at e3 ⊢
  rw [hv] at e3 ⊢
  refine ord_top ol okk (by omega) last.1 (by omega) e3 fun j hj1 hj2 => ?_
  have h4 : j ∈ ini.map Prod.fst := by rw [h2]; exact (mem_dn (by omega)).2 ⟨by omega, by omega⟩
  obtain ⟨⟨j', v⟩, h5, rfl⟩ := List.mem_map.1 h4
  have h6 := hO.2 (j', v) (by rw [e1]; exact List.mem_append_left _ h5)
  have h7 := e2 _ h5
  simp only at h6 h7 hj1 hj2
  rw [cl_of (show j' < n by omega)] at h7
  exact h6.symm.trans h7
theorem gr_trans {a b c : World} (h : Gr a b) (k : Below a.heap.size b c) : Gr a c := Below.trans h k

set_option maxRecDepth 100000 in
set_option maxHeartbeats 4000000 in
theorem Compare_eqlen (p q : Option Addr) (n c d : Nat) (l k : List Nat) (w : World) (hl : Nw w p n c l) (hk : Nw w q n d k) (hv1 : decide (valid l) = true) (hv2 : decide (valid k) = true) :
    Calls Try.prog 35 #[.agg #[.slice p n c], .agg #[.slice q n d]] w fun e w' => e = .returned (.int .i64 (ord (val l) (val k))) ∧ Gr w w' := by
  have HL := Lib.hid hl
  have HK := Lib.hid hk
  have HV1 := Lib.hid hv1
  have HV2 := Lib.hid hv2
  have G0 := Lib.hid ((((Gr.refl w).alloc (.cells #[.slice p n c] 24)).alloc (.cells #[.slice q n d] 24)).alloc (.cells #[.int .i64 0] 3))
  have hn := hl.small
  clear hl hk hv1 hv2
  refine (callsIn_wide (n := 3)).1 ?_
  have t1 : Fence.wide.fn 126 := trivial
  have h1 : 1 ≤ 3 := by decide
  refine callsIn_of_wp_marks Try.func35 rfl trivial ?_ rfl
  simp only [Try.ntmps35, List.size_toArray, List.length_cons, List.length_nil, Nat.reduceAdd, Nat.reduceSub, Array.replicate_succ, Array.replicate_zero, List.push_toArray, List.append_toArray, List.nil_append, List.cons_append]
  gi_wp2_with fail
  refine ⟨trivial, (callsIn_wide.2 (Valid_n p n c l _ (HL.out.grow G0.out))).mono ?_⟩
  rintro e w1 ⟨rfl, hg⟩
  rw [HV1.out]
  have c1 := hg.cell (p := ⟨w.heap.size, 0, none⟩) (v := .slice p n c) (by simp [go_sem])
  have c2 := hg.cell (p := ⟨w.heap.size + 1, 0, none⟩) (v := .slice q n d) (by simp [go_sem])
  have c3 := hg.cell (p := ⟨w.heap.size + 1 + 1, 0, none⟩) (v := .int .i64 0) (by simp [go_sem])
  have f3 := hg.frozen (p := ⟨w.heap.size + 1 + 1, 0, none⟩) (v := .int .i64 0) (by simp [go_sem]) (by simp [go_sem])
  have GA := Lib.hid (G0.out.trans hg)
  clear hg
  gi_wp2_with fail
  refine ⟨trivial, (callsIn_wide.2 (Valid_n q n d k _ (HK.out.grow GA.out))).mono ?_⟩
  rintro e w2 ⟨rfl, hg⟩
  rw [HV2.out]
  have e1 := hg.cell c1
  have e2 := hg.cell c2
  have e3 := hg.cell c3
  have f4 := hg.frozen c3 f3
  have GB := Lib.hid (GA.out.trans hg)
  clear hg c1 c2 c3 f3
  gi_wp2_with fail
  refine ⟨trivial, (back_in _ _ trivial rfl _ _ _ _).mono ?_⟩
  rintro e w3 ⟨rfl, rfl⟩
  gi_wp2_with fail
  have hz3 : w.heap.size + 1 + 1 < w2.heap.size := World.block_lt_of_cell? w2 _ e3
  have HS : Hid (Src w2.heap.size p n c (fun i v => v = l[i]?.getD 0) (w2.alloc (.cells #[.slice p n c] 22))) := Lib.hid (src_of (HL.out.grow GB.out))
  have HI0 : Hid (CmpAt w k n q d [] (w2.alloc (.cells #[.slice p n c] 22))) := Lib.hid
    ⟨⟨fun x hx => (by cases hx), ((Gr.refl w2).alloc _).cell e2, ((Gr.refl w2).alloc _).cell e3, ((Gr.refl w2).alloc _).frozen e3 f4⟩, ((HK.out.grow GB.out).grow ((Gr.refl _).alloc _)).rd, GB.out.alloc _⟩
  refine wpIn_rangeFunc_ownG rfl h1 (gf := 126) (lb := #[.pointer (some ⟨w2.heap.size, 0, none⟩)]) rfl trivial (enters_of Try.func126 (by kernel_rfl) rfl)
    (back_stops Fence.wide (3 - 1) trivial rfl (by decide) w2.heap.size p n c hn (fun i v => v = l[i]?.getD 0) _ HS.out) (fun h k s => k (h s)) src_b (Below.refl _ _) (fun _ => rfl)
    (CmpAt w k n q d) (CmpIx w k n) (cmpAt_own (by simp; omega)) (cmpIx_own (by simp; omega)) HI0.out ?a1 ?assign ?body ?done ?stop
  case assign =>
    intro l x W K hK
    unfold en
    gi_wp2
    exact hK
  case body =>
    rintro l2 pre ⟨i, v⟩ W ⟨⟨hA, c2, c3, f3⟩, hQ, hB⟩ hlt
    have hj : cl n i < n := cl_lt (by omega)
    have HA := Lib.hid hA
    have HB := Lib.hid hB
    have HQ := Lib.hid hQ
    obtain ⟨b, off, rfl, hc⟩ := hQ.at (by rw [HK.out.len]; omega)
    have hcx := hc (cl n i) (by rw [HK.out.len]; omega)
    obtain ⟨y, hy⟩ : ∃ y, k[cl n i]?.getD 0 = y := ⟨_, rfl⟩
    rw [hy] at hcx
    have HY := Lib.hid hy
    clear hA hB hc hQ hy hlt e1 e2 e3 f4
    obtain ⟨j, hjj⟩ : ∃ j, cl n i = j := ⟨_, rfl⟩
    rw [hjj] at hcx hj HY ⊢
    have HJ := Lib.hid hjj
    clear hjj
    by_cases hvy : v = y
    · subst hvy
      have hne : ((v : Int) != (v : Int)) = false := by simp
      gi_wp2
      exact ⟨KeepsFrom.refl _ _, fun h => h, ⟨cmp_snoc HA.out (by rw [HJ.out, HY.out]), c2, c3, f3⟩, HQ.out, HB.out⟩
    · have hne : ((v : Int) != (y : Int)) = true := by simp; omega
      have HN := Lib.hid hvy
      clear hvy
      gi_wp2_with fail
      refine ⟨trivial, (CallsIn.inRound l2 (callsIn_wide.2 (cmp_u32 v y _))).mono ?_⟩
      rintro e W3 ⟨rfl, rfl⟩
      gi_wp2
      exact ⟨(KeepsOthers.setCell _ _ _).from _, ⟨rfl, pre, (i, v), rfl, HA.out, (by rw [HJ.out, HY.out]; exact HN.out), by rw [HJ.out, HY.out]; exact World.cell?_setCell_same' _ _ _ (by rw [c3]; rfl)⟩, HB.out.setCell (by simp; omega) _⟩
  case done =>
    rintro D xs W hD hO ⟨⟨hA, c2, c3, f3⟩, hQ, hB⟩ hK
    have e0 : ord (val l) (val k) = 0 := by rw [cmp_done HL.out.len HK.out.len hO hA, ord_eq]
    have E0 := Lib.hid e0
    have hDw : w.heap.size ≤ D := by simp at hD; omega
    clear e0 hA hO
    gi_wp2
    have hK' := (KeepsOthers.setCell W ⟨w.heap.size + 1 + 1, 0, none⟩ (.int .i64 0)).same D _ hK rfl
    refine ⟨by simp, .inl ⟨_, _, rfl, run_takeDeferred hK', ?_⟩⟩
    have hc5 := cell_kept (World.cell?_setCell_same' W ⟨w.heap.size + 1 + 1, 0, none⟩ (.int .i64 0) (by rw [c3]; rfl)) (grownBy_putObj' _ D (.deferred none)) (fun r e => by cases e; exact ⟨_, hK', rfl⟩)
    refine ⟨.int .i64 0, by simp [results, Try.results35, go_sem, hc5], by rw [E0.out], gr_trans (Gr.setCell hB (p := ⟨w.heap.size + 1 + 1, 0, none⟩) (by simp; omega) _) (belowK_b (w := w) (Nat.le_refl _) _ D _ _ hDw hK' rfl rfl)⟩
  case stop =>
    rintro D c pre W hD hO ⟨⟨rfl, ini, last, e1, e2, e3, hcr⟩, hB⟩ hK
    have e0 : ord (val l) (val k) = ord last.2 (k[cl n last.1]?.getD 0) := cmp_stop HL.out.ok HK.out.ok HL.out.len HK.out.len hO e1 e2 e3
    have E0 := Lib.hid e0
    have hDw : w.heap.size ≤ D := by simp at hD; omega
    clear e0 hO e1 e2 e3
    gi_wp2
    refine ⟨by simp, .inl ⟨_, _, rfl, run_takeDeferred hK, ?_⟩⟩
    have hc5 := cell_kept hcr (grownBy_putObj' _ D (.deferred none)) (fun r e => by cases e; exact ⟨_, hK, rfl⟩)
    refine ⟨_, by simp [results, Try.results35, go_sem, hc5]; rfl, by rw [E0.out], gr_trans hB (belowK_b (w := w) (Nat.le_refl _) W D _ _ hDw hK rfl rfl)⟩
end Go.Proofs.Ytiefnhpbniaklaa.Nk
