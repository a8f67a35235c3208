/- The contract of natural's Add. -/
import Derived.Test.YtiefnhpbniaklaaNclone
namespace Go.Proofs.Ytiefnhpbniaklaa.Ne
open Go.RowKit Go.Proofs.Ytiefnhpbniaklaa.Nm Go.Proofs.Ytiefnhpbniaklaa.Nf

/-- A slice value reads as words. -/
structure Nw (w : World) (p : Option Addr) (n cap : Nat) (l : List Nat) : Prop where
  len : l.length = n
  le : n ≤ cap
  nil : p = none → n = 0 ∧ cap = 0
  rd : Rd w p l
  ok : ok l
  small : n ≤ 1048576
theorem Nw.grow {w w' : World} {p : Option Addr} {n cap : Nat} {l : List Nat} (h : Nw w p n cap l) (g : Gr w w') : Nw w' p n cap l := ⟨h.len, h.le, h.nil, g.rd h.rd, h.ok, h.small⟩
/-- A result: it reads as words, and is the call's own. -/
structure Nr (B : Nat) (w : World) (p : Option Addr) (n cap : Nat) (l : List Nat) : Prop extends Nw w p n cap l where
  own : Own B w p l
theorem Nr.grow {B : Nat} {w w' : World} {p : Option Addr} {n cap : Nat} {l : List Nat} (h : Nr B w p n cap l) (g : Gr w w') : Nr B w' p n cap l := ⟨h.toNw.grow g, h.own.grow g⟩
theorem Nr.mono {B B' : Nat} {w : World} {p : Option Addr} {n cap : Nat} {l : List Nat} (h : Nr B w p n cap l) (hB : B' ≤ B) : Nr B' w p n cap l := ⟨h.toNw, h.own.mono hB⟩
theorem Nw.set {w : World} {p : Option Addr} {n cap : Nat} {l : List Nat} (h : Nw w p n cap l) (a : Addr) (v : Value) (hne : ∀ x : Addr, p = some x → x.block ≠ a.block) : Nw (w.setCell a v) p n cap l := by
  refine ⟨h.len, h.le, h.nil, ?_, h.ok, h.small⟩
  rcases h.rd with h0 | ⟨b, off, rfl, hc⟩
  · exact .inl h0
  · exact .inr ⟨b, off, rfl, fun i hi => by rw [World.cell?_setCell_other _ _ _ _ (fun e => hne _ rfl (by rw [e]))]; exact hc i hi⟩
theorem Nr.set {B : Nat} {w : World} {p : Option Addr} {n cap : Nat} {l : List Nat} (h : Nr B w p n cap l) (a : Addr) (v : Value) (hne : ∀ x : Addr, p = some x → x.block ≠ a.block) : Nr B (w.setCell a v) p n cap l := by
  refine ⟨h.toNw.set a v hne, ?_⟩
  rcases h.own with h0 | ⟨b, off, rfl, hb, hc⟩
  · exact .inl h0
  · exact .inr ⟨b, off, rfl, hb, fun i hi => by rw [World.cell?_setCell_other _ _ _ _ (fun e => hne _ rfl (by rw [e])), World.frozen?_setCell]; exact hc i hi⟩
theorem Nr.set' {B : Nat} {w : World} {p : Option Addr} {n cap : Nat} {l : List Nat} (h : Nr B w p n cap l) (a : Addr) (v : Value) (hne : ∀ x : Addr, p = some x → x.block ≠ a.block ∨ val l = 0) (ht : Nm.tight l) : Nr B (w.setCell a v) p n cap l := by
  by_cases h0 : l = []
  · subst h0
    exact ⟨⟨h.len, h.le, h.nil, .inl rfl, h.ok, h.small⟩, .inl rfl⟩
  · exact h.set a v fun x e => (hne x e).resolve_right (by have := val_pos ht h0; omega)
theorem Nw.zero (w : World) : Nw w none 0 0 [] := ⟨rfl, Nat.le_refl _, fun _ => ⟨rfl, rfl⟩, .inl rfl, ok_nil, by decide⟩
theorem Nr.zero (B : Nat) (w : World) : Nr B w none 0 0 [] := ⟨Nw.zero w, .inl rfl⟩

theorem Valid_n (p : Option Addr) (n cap : Nat) (l : List Nat) (w : World) (h : Nw w p n cap l) :
    Calls Try.prog 25 #[.agg #[.slice p n cap]] w fun e w' => e = .returned (.bool (decide (valid l))) ∧ Gr w w' := by
  have := h.len; subst this
  exact Valid_any p l cap (Nat.le_trans h.small (by decide)) w h.rd
/-- What a function that hands back a natural number and an error number has handed back. -/
def Gave (x : Nat) (w : World) (e : Ending) (w' : World) : Prop :=
  ∃ (p : Option Addr) (n cap : Nat), e = .returned (.tuple #[.agg #[.slice p n cap], .int .i64 0]) ∧ Nr w.heap.size w' p n cap (digs x) ∧ Gr w w'
def Failed (c : Nat) (w : World) (e : Ending) (w' : World) : Prop :=
  e = .returned (.tuple #[.agg #[.slice none 0 0], .int .i64 (c : Int)]) ∧ Gr w w'
/-- fit, for words of the call's own. -/
theorem fit_gave (p : Option Addr) (n cap : Nat) (l : List Nat) (en : l.length = n) (hn : n ≤ cap) (hs : n ≤ 1048576) (hp : p = none → n = 0 ∧ cap = 0) (hok : ok l) (B : Nat) (w : World) (h : Own B w p l) (h64 : val l < pw 64) :
    Calls Try.prog 84 #[.slice p n cap] w fun e w' => ∃ n', e = .returned (.tuple #[.agg #[.slice p n' cap], .int .i64 0]) ∧ Nr B w' p n' cap (digs (val l)) ∧ Gr w w' := by
  subst en
  have h1 := trim_eq_digs hok
  have h2 := (digs_length_le (val l) 64).2 h64
  refine (fit_ok p l cap hn (by omega) w h.rd (by rw [h1]; exact h2)).mono ?_
  rintro e w' ⟨rfl, hg⟩
  rw [h1]
  have h3 : digs (val l) = l.take (digs (val l)).length := by
    rw [← h1]
    have : trim l <+: l := by
      unfold trim
      have := List.dropWhile_suffix (l := l.reverse) (· == 0)
      have := List.reverse_prefix.2 this
      rwa [List.reverse_reverse] at this
    exact List.prefix_iff_eq_take.1 this
  have h4 := trim_length_le l
  rw [h1] at h4
  have ho : Own B w' p (digs (val l)) := by rw [h3]; exact (h.grow hg).take _
  exact ⟨_, rfl, ⟨⟨rfl, by omega, fun e => ⟨by have := (hp e).1; omega, (hp e).2⟩, ho.rd, ok_digs _, by omega⟩, ho⟩, hg⟩
theorem fit_failed (p : Option Addr) (n cap : Nat) (l : List Nat) (en : l.length = n) (hn : n ≤ cap) (hs : n ≤ 1048576) (hok : ok l) (w : World) (h : Rd w p l) (h64 : pw 64 ≤ val l) :
    Calls Try.prog 84 #[.slice p n cap] w (Failed 9 w) := by
  subst en
  have h1 := trim_eq_digs hok
  have h2 : 64 < (digs (val l)).length := by
    rcases Nat.lt_or_ge 64 (digs (val l)).length with h | h
    · exact h
    · have := (digs_length_le (val l) 64).1 h; omega
  exact fit_big p l cap hn (by omega) w h (by rw [h1]; exact h2)

set_option maxHeartbeats 2000000 in
theorem Add_bad (p q : Option Addr) (n m c d : Nat) (l k : List Nat) (w : World) (hl : Nw w p n c l) (hk : Nw w q m d k) (hv : decide (valid l) = false ∨ decide (valid k) = false) :
    Calls Try.prog 33 #[.agg #[.slice p n c], .agg #[.slice q m d]] w (Failed 1 w) := by
  have HL := Lib.hid hl
  have HK := Lib.hid hk
  have HV := Lib.hid hv
  have G0 := Lib.hid ((((Gr.refl w).alloc (.cells #[.slice p n c] 24)).alloc (.cells #[.slice q m d] 24)).alloc (.cells #[.slice none 0 0] 24))
  clear hl hk hv
  go_enter Try.func33, Try.ntmps33
  go_wp2_with fail
  refine (Valid_n p n c l _ (HL.out.grow G0.out)).mono ?_
  rintro e w1 ⟨rfl, hg⟩
  have c2 := hg.cell (p := ⟨w.heap.size + 1, 0, none⟩) (v := .slice q m d) (by simp [go_sem])
  have c3 := hg.cell (p := ⟨w.heap.size + 1 + 1, 0, none⟩) (v := .slice none 0 0) (by simp [go_sem])
  have f3 := hg.frozen (p := ⟨w.heap.size + 1 + 1, 0, none⟩) (v := .slice none 0 0) (by simp [go_sem]) (by simp [go_sem])
  have GA := Lib.hid (G0.out.trans hg)
  clear hg
  cases hv1 : decide (valid l)
  · clear hv1
    go_wp2
    exact bodyPost_ret (v := .tuple #[.agg #[.slice none 0 0], .int .i64 1]) (by simp [results, Try.results33, go_sem, c3]) rfl ⟨rfl, GA.out.setCell (by simp; omega) _⟩
  · have hv2 : decide (valid k) = false := by
      rcases HV.out with h | h
      · rw [hv1] at h; cases h
      · exact h
    clear hv1
    go_wp2_with fail
    refine (Valid_n q m d k _ (HK.out.grow GA.out)).mono ?_
    rintro e w2 ⟨rfl, hg⟩
    rw [hv2]
    have e3 := hg.cell c3
    have f4 := hg.frozen c3 f3
    have GB := Lib.hid (GA.out.trans hg)
    clear hg hv2 c2 c3 f3
    go_wp2
    exact bodyPost_ret (v := .tuple #[.agg #[.slice none 0 0], .int .i64 1]) (by simp [results, Try.results33, go_sem, e3]) rfl ⟨rfl, GB.out.setCell (by simp; omega) _⟩

theorem copy_src {w w' : World} {p : Option Addr} {n c : Nat} {l : List Nat} {g : Nat} (h : Nw w p n c l) (G : Gr w w') :
    0 < (cw l).length → some (⟨g, 0, none⟩ : Addr) = some ⟨g, 0, none⟩ ∧ ∃ ad, p = some ad ∧ ∀ (j : Nat) (v : Value), (cw l)[j]? = some v → w'.cell? (ad.add j) = some v := by
  intro h0
  rw [cw_length] at h0
  obtain ⟨b, off, rfl, hc⟩ := (G.rd h.rd).at h0
  refine ⟨rfl, _, rfl, fun j v hj => ?_⟩
  have hj2 : j < l.length := by
    have := (List.getElem?_eq_some_iff.1 hj).1
    rwa [cw_length] at this
  rw [addr_add, hc j hj2, ← hj, cw_get hj2]

theorem sum_lt {l k : List Nat} {n m : Nat} (hl : ok l) (hk : ok k) (en : l.length = n) (em : k.length = m) : val l + val k < pw (max n m + 1) := by
  subst en; subst em
  have h1 := val_lt hl
  have h2 := val_lt hk
  have h3 := pw_mono (Nat.le_max_left l.length k.length)
  have h4 := pw_mono (Nat.le_max_right l.length k.length)
  simp only [pw]
  omega
theorem drop_zero_val {l : List Nat} {N : Nat} (h : l.length ≤ N) : (l ++ (List.replicate N 0).drop l.length).length = N ∧ val (l ++ (List.replicate N 0).drop l.length) = val l := by
  rw [List.drop_replicate, List.length_append, List.length_replicate, val_append, val_replicate]
  exact ⟨by omega, by omega⟩
theorem ok_pad {l : List Nat} {N : Nat} (h : ok l) : ok (l ++ (List.replicate N 0).drop l.length) := ok_append.2 ⟨h, ok_drop (ok_replicate _) _⟩
set_option maxRecDepth 100000 in
set_option maxHeartbeats 4000000 in
theorem Add_ok (p q : Option Addr) (n m c d : Nat) (l k : List Nat) (w : World) (hl : Nw w p n c l) (hk : Nw w q m d k) (hv1 : decide (valid l) = true) (hv2 : decide (valid k) = true) (hx : val l + val k < pw 64) :
    Calls Try.prog 33 #[.agg #[.slice p n c], .agg #[.slice q m d]] w (Gave (val l + val k) w) := by
  obtain ⟨i0, hi, hz0, hz1, hz2⟩ := info_parts infoW
  have HL := Lib.hid hl
  have HK := Lib.hid hk
  have HV1 := Lib.hid hv1
  have HV2 := Lib.hid hv2
  have HX := Lib.hid hx
  have hnb := (of_decide_eq_true hv1).1
  have hmb := (of_decide_eq_true hv2).1
  rw [hl.len] at hnb
  rw [hk.len] at hmb
  have hnc := hl.le
  have hmd := hk.le
  have G0 := Lib.hid ((((Gr.refl w).alloc (.cells #[.slice p n c] 24)).alloc (.cells #[.slice q m d] 24)).alloc (.cells #[.slice none 0 0] 24))
  clear hl hk hv1 hv2 hx
  go_enter Try.func33, Try.ntmps33
  go_wp2_with fail
  refine (Valid_n p n c l _ (HL.out.grow G0.out)).mono ?_
  rintro e w1 ⟨rfl, hg⟩
  rw [HV1.out]
  have c1 := hg.cell (p := ⟨w.heap.size, 0, none⟩) (v := .slice p n c) (by simp [go_sem])
  have c2 := hg.cell (p := ⟨w.heap.size + 1, 0, none⟩) (v := .slice q m d) (by simp [go_sem])
  have c3 := hg.cell (p := ⟨w.heap.size + 1 + 1, 0, none⟩) (v := .slice none 0 0) (by simp [go_sem])
  have f3 := hg.frozen (p := ⟨w.heap.size + 1 + 1, 0, none⟩) (v := .slice none 0 0) (by simp [go_sem]) (by simp [go_sem])
  have GA := Lib.hid (G0.out.trans hg)
  clear hg
  go_wp2_with fail
  refine (Valid_n q m d k _ (HK.out.grow GA.out)).mono ?_
  rintro e w2 ⟨rfl, hg⟩
  rw [HV2.out]
  have e1 := hg.cell c1
  have e2 := hg.cell c2
  have e3 := hg.cell c3
  have f4 := hg.frozen c3 f3
  have GB := Lib.hid (GA.out.trans hg)
  clear hg c1 c2 c3 f3 GA G0
  have hz3 : w.heap.size + 1 + 1 < w2.heap.size := World.block_lt_of_cell? w2 _ e3
  go_wp2_with (first
    | (refine wpList_make_full (o := ⟨some 24, _, _, _, _, _⟩) _ rfl _ _ _ rfl w2.heap.size 62 i0 (.int .u32 0) 1 Try.underlying22 hi hz0 hz1 .i64 .i64 _ _ (max n m + 1) rfl rfl (by omega) (by omega) (by rw [hz2]; omega) (by unfold maxLen; omega) (Nat.le_refl _) ?_; intro w3 hown hgrow; have k1 := (Gr.grown hgrow).cell e1; have HO := Lib.hid hown; have G3 := Lib.hid (Gr.grown hgrow); clear hown hgrow)
    | (refine wpList_copy_splice (o := ⟨some 28, _, _, _, _, _⟩) rfl (.tmp 25) (.tmp 27) 22 22 rfl 62 Try.underlying22 (by rw [hi]; exact congrArg some hz1) (some ⟨w2.heap.size, 0, none⟩) p (max n m + 1) (max n m + 1) n c rfl rfl w2.heap.size 0 (cw (List.replicate (max n m + 1) 0)) 62 (made_block HO.out) (cw l) (by rw [cw_length, HL.out.len]; exact (Nat.min_eq_left (by omega)).symm) (copy_src HL.out (GB.out.trans G3.out)) (by rw [cw_length, cw_length, List.length_replicate, HL.out.len]; omega) (cw_one l) w2.heap.size w2 G3.out (Nat.le_refl _) ?_; intro w4 hb4 hg4; have k2 := hg4.cell' e2; have k3 := hg4.cell' e3; have g3 := hg4.frozen' e3 f4; have G4 := Lib.hid hg4; clear hg4))
  have hh := hb4.out
  rw [splice_cw] at hh
  replace hh := hold_block hh
  have HH := Lib.hid hh
  clear hh hb4 HO
  have HS := Lib.hid (drop_zero_val (l := l) (N := max n m + 1) (by rw [HL.out.len]; omega))
  refine (addProduct_n w2.heap.size 0 (max n m + 1) (l ++ (List.replicate (max n m + 1) 0).drop l.length) (max n m + 1) q m k d 1 HS.out.1 HK.out.len (by decide) (ok_pad HL.out.ok) HK.out.ok (by omega) (by omega) w4 HH.out (RdN.of HK.out.rd (GB.out.trans G4.out) GB.out.le)).mono ?_
  rintro e w5 ⟨cr, r, rfl, hrl, hro, hrh, hv, hc, hw⟩
  rw [HS.out.1] at hrl hv hw
  rw [HS.out.2, Nat.mul_one] at hv
  have hv2 : val r = val l + val k := by
    have h1 := sum_lt HL.out.ok HK.out.ok HL.out.len HK.out.len
    rcases Nat.eq_zero_or_pos cr with h | h
    · subst h; omega
    · have := Nat.le_mul_of_pos_right (pw (max n m + 1)) h
      omega
  have G5 := Lib.hid (Wr.gr (GB.out.trans G4.out) hw GB.out.le)
  have m3 := hw.cellOf (b' := w.heap.size + 1 + 1) (o := 0) (by omega)
  rw [k3] at m3
  have mf := hw.frozen ⟨w.heap.size + 1 + 1, 0, none⟩
  rw [g3] at mf
  have HRL := Lib.hid hrl
  have HRO := Lib.hid hro
  have HRH := Lib.hid hrh
  have HRV := Lib.hid hv2
  clear hrl hro hrh hv hv2 hw hc k1 k2 k3 g3 e1 e2 e3 f4 HH HS
  go_wp2_with fail
  refine (fit_gave (some ⟨w2.heap.size, 0, none⟩) (max n m + 1) (max n m + 1) r HRL.out (Nat.le_refl _) (by omega) (fun e => by cases e) HRO.out w.heap.size w5 (HRH.out.own GB.out.le) (by rw [HRV.out]; exact HX.out)).mono ?_
  rintro e w6 ⟨n6, rfl, hr6, hg6⟩
  have HR6 := Lib.hid hr6
  clear hr6
  have o3 := hg6.cell m3
  have of3 := hg6.frozen m3 mf
  have G6 := Lib.hid (G5.out.trans hg6)
  clear hg6 m3 mf
  go_wp2
  exact bodyPost_ret (v := .tuple #[.agg #[.slice (some ⟨w2.heap.size, 0, none⟩) n6 (max n m + 1)], .int .i64 0]) (by simp [results, Try.results33, go_sem, o3]) rfl ⟨_, _, _, rfl, by rw [← HRV.out]; exact HR6.out.set _ _ (fun x e => by cases e; simp; omega), G6.out.setCell (by simp; omega) _⟩


set_option maxRecDepth 100000 in
set_option maxHeartbeats 4000000 in
theorem Add_big (p q : Option Addr) (n m c d : Nat) (l k : List Nat) (w : World) (hl : Nw w p n c l) (hk : Nw w q m d k) (hv1 : decide (valid l) = true) (hv2 : decide (valid k) = true) (hx : pw 64 ≤ val l + val k) :
    Calls Try.prog 33 #[.agg #[.slice p n c], .agg #[.slice q m d]] w (Failed 9 w) := by
  obtain ⟨i0, hi, hz0, hz1, hz2⟩ := info_parts infoW
  have HL := Lib.hid hl
  have HK := Lib.hid hk
  have HV1 := Lib.hid hv1
  have HV2 := Lib.hid hv2
  have HX := Lib.hid hx
  have hnb := (of_decide_eq_true hv1).1
  have hmb := (of_decide_eq_true hv2).1
  rw [hl.len] at hnb
  rw [hk.len] at hmb
  have hnc := hl.le
  have hmd := hk.le
  have G0 := Lib.hid ((((Gr.refl w).alloc (.cells #[.slice p n c] 24)).alloc (.cells #[.slice q m d] 24)).alloc (.cells #[.slice none 0 0] 24))
  clear hl hk hv1 hv2 hx
  go_enter Try.func33, Try.ntmps33
  go_wp2_with fail
  refine (Valid_n p n c l _ (HL.out.grow G0.out)).mono ?_
  rintro e w1 ⟨rfl, hg⟩
  rw [HV1.out]
  have c1 := hg.cell (p := ⟨w.heap.size, 0, none⟩) (v := .slice p n c) (by simp [go_sem])
  have c2 := hg.cell (p := ⟨w.heap.size + 1, 0, none⟩) (v := .slice q m d) (by simp [go_sem])
  have c3 := hg.cell (p := ⟨w.heap.size + 1 + 1, 0, none⟩) (v := .slice none 0 0) (by simp [go_sem])
  have f3 := hg.frozen (p := ⟨w.heap.size + 1 + 1, 0, none⟩) (v := .slice none 0 0) (by simp [go_sem]) (by simp [go_sem])
  have GA := Lib.hid (G0.out.trans hg)
  clear hg
  go_wp2_with fail
  refine (Valid_n q m d k _ (HK.out.grow GA.out)).mono ?_
  rintro e w2 ⟨rfl, hg⟩
  rw [HV2.out]
  have e1 := hg.cell c1
  have e2 := hg.cell c2
  have e3 := hg.cell c3
  have f4 := hg.frozen c3 f3
  have GB := Lib.hid (GA.out.trans hg)
  clear hg c1 c2 c3 f3 GA G0
  have hz3 : w.heap.size + 1 + 1 < w2.heap.size := World.block_lt_of_cell? w2 _ e3
  go_wp2_with (first
    | (refine wpList_make_full (o := ⟨some 24, _, _, _, _, _⟩) _ rfl _ _ _ rfl w2.heap.size 62 i0 (.int .u32 0) 1 Try.underlying22 hi hz0 hz1 .i64 .i64 _ _ (max n m + 1) rfl rfl (by omega) (by omega) (by rw [hz2]; omega) (by unfold maxLen; omega) (Nat.le_refl _) ?_; intro w3 hown hgrow; have k1 := (Gr.grown hgrow).cell e1; have HO := Lib.hid hown; have G3 := Lib.hid (Gr.grown hgrow); clear hown hgrow)
    | (refine wpList_copy_splice (o := ⟨some 28, _, _, _, _, _⟩) rfl (.tmp 25) (.tmp 27) 22 22 rfl 62 Try.underlying22 (by rw [hi]; exact congrArg some hz1) (some ⟨w2.heap.size, 0, none⟩) p (max n m + 1) (max n m + 1) n c rfl rfl w2.heap.size 0 (cw (List.replicate (max n m + 1) 0)) 62 (made_block HO.out) (cw l) (by rw [cw_length, HL.out.len]; exact (Nat.min_eq_left (by omega)).symm) (copy_src HL.out (GB.out.trans G3.out)) (by rw [cw_length, cw_length, List.length_replicate, HL.out.len]; omega) (cw_one l) w2.heap.size w2 G3.out (Nat.le_refl _) ?_; intro w4 hb4 hg4; have k2 := hg4.cell' e2; have k3 := hg4.cell' e3; have g3 := hg4.frozen' e3 f4; have G4 := Lib.hid hg4; clear hg4))
  have hh := hb4.out
  rw [splice_cw] at hh
  replace hh := hold_block hh
  have HH := Lib.hid hh
  clear hh hb4 HO
  have HS := Lib.hid (drop_zero_val (l := l) (N := max n m + 1) (by rw [HL.out.len]; omega))
  refine (addProduct_n w2.heap.size 0 (max n m + 1) (l ++ (List.replicate (max n m + 1) 0).drop l.length) (max n m + 1) q m k d 1 HS.out.1 HK.out.len (by decide) (ok_pad HL.out.ok) HK.out.ok (by omega) (by omega) w4 HH.out (RdN.of HK.out.rd (GB.out.trans G4.out) GB.out.le)).mono ?_
  rintro e w5 ⟨cr, r, rfl, hrl, hro, hrh, hv, hc, hw⟩
  rw [HS.out.1] at hrl hv hw
  rw [HS.out.2, Nat.mul_one] at hv
  have hv2 : val r = val l + val k := by
    have h1 := sum_lt HL.out.ok HK.out.ok HL.out.len HK.out.len
    rcases Nat.eq_zero_or_pos cr with h | h
    · subst h; omega
    · have := Nat.le_mul_of_pos_right (pw (max n m + 1)) h
      omega
  have G5 := Lib.hid (Wr.gr (GB.out.trans G4.out) hw GB.out.le)
  have m3 := hw.cellOf (b' := w.heap.size + 1 + 1) (o := 0) (by omega)
  rw [k3] at m3
  have mf := hw.frozen ⟨w.heap.size + 1 + 1, 0, none⟩
  rw [g3] at mf
  have HRL := Lib.hid hrl
  have HRO := Lib.hid hro
  have HRH := Lib.hid hrh
  have HRV := Lib.hid hv2
  clear hrl hro hrh hv hv2 hw hc k1 k2 k3 g3 e1 e2 e3 f4 HH HS
  go_wp2_with fail
  refine (fit_failed (some ⟨w2.heap.size, 0, none⟩) (max n m + 1) (max n m + 1) r HRL.out (Nat.le_refl _) (by omega) HRO.out w5 HRH.out.rd (by rw [HRV.out]; exact HX.out)).mono ?_
  rintro e w6 ⟨rfl, hg6⟩
  have o3 := hg6.cell m3
  have of3 := hg6.frozen m3 mf
  have G6 := Lib.hid (G5.out.trans hg6)
  clear hg6 m3 mf
  go_wp2
  exact bodyPost_ret (v := .tuple #[.agg #[.slice none 0 0], .int .i64 9]) (by simp [results, Try.results33, go_sem, o3]) rfl ⟨rfl, G6.out.setCell (by simp; omega) _⟩
end Go.Proofs.Ytiefnhpbniaklaa.Ne
