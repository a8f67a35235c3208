/- The contract of the reference's trim: a number of its own. -/
import Derived.Test.YtiefnhpbniaklaaNv
import Derived.Laws.AppendOwnNone
namespace Go.Proofs.Ytiefnhpbniaklaa.Nr2
open Go.RowKit Go.Shelf Go.Proofs.Ytiefnhpbniaklaa.Nm Go.Proofs.Ytiefnhpbniaklaa.Ne Go.Proofs.Ytiefnhpbniaklaa.Nf Go.Proofs.Ytiefnhpbniaklaa.Nk Go.Proofs.Ytiefnhpbniaklaa.Nv

/-- A number has been handed back. -/
def Num (x : Nat) (w : World) (e : Ending) (w' : World) : Prop :=
  ∃ (p : Option Addr) (n cap : Nat), e = .returned (.agg #[.slice p n cap]) ∧ Nr w.heap.size w' p n cap (digs x) ∧ Gr w w'

/-- What trim has, when the loop has ended at k. -/
theorem trim_done {l : List Nat} (hok : ok l) {k : Nat} (hk : k ≤ l.length) (h0 : ∀ i, k ≤ i → l[i]?.getD 0 = 0) (h1 : 0 < k → l[k - 1]?.getD 0 ≠ 0) : l.take k = digs (val l) := by
  rw [← trim_of_take l k hk h0 h1, trim_eq_digs hok]

theorem take_src {w w' : World} {a : Addr} {l : List Nat} {k : Nat} (h : Rd w (some a) l) (g : Gr w w') (hk : k ≤ l.length) :
    ∀ (j : Nat) (u : Value), (cw (l.take k))[j]? = some u → w'.cell? (a.add j) = some u := by
  intro j u hu
  have hj : j < (l.take k).length := by
    have := (List.getElem?_eq_some_iff.1 hu).1
    rwa [cw_length] at this
  have hj2 : j < k := by simp at hj; omega
  obtain ⟨b, off, ha, hc⟩ := (g.rd h).at (by omega)
  cases ha
  rw [addr_add, hc j (by omega), ← hu, cw_get hj, List.getElem?_take, if_pos hj2]

/-- A number of the call's own lies in none of the elder blocks. -/
theorem own_ne {B : Nat} {w : World} {p : Option Addr} {n c : Nat} {l : List Nat} (h : Nr (B + 1) w p n c l) {x : Addr} (e : p = some x) : x.block ≠ B ∨ val l = 0 := by
  rcases h.own with h0 | ⟨b, off, e2, hb, _⟩
  · right
    rw [h0]
    rfl
  · left
    rw [e] at e2
    cases e2
    show b ≠ B
    omega
set_option maxRecDepth 100000 in
set_option maxHeartbeats 2000000 in
theorem rtrim_some (a : Addr) (n c : Nat) (l : List Nat) (w : World) (hl : Nw w (some a) n c l) :
    Calls Try.prog 86 #[.slice (some a) n c] w (Num (val l) w) := by
  obtain ⟨i0, hi, hz0, hz1, hz2⟩ := info_parts infoW
  have H := Lib.hid hl
  have hn := hl.small
  have hcn := hl.le
  have hcn2 : (n : Int) ≤ (c : Int) := by omega
  clear hl
  have G1 := Lib.hid ((Gr.refl w).alloc (.cells #[.slice none 0 0] 24))
  have HM : Hid (((w.alloc (.cells #[.slice none 0 0] 24)).alloc (.cells #[] 62)).ownsRow (w.heap.size + 1) 62 1 (.slice (some ⟨w.heap.size + 1, 0, none⟩) 0 0) 0 []) := Lib.hid (by
    have := World.ownsRow_made (base := w.heap.size + 1) (e := 62) (size := 1) (w.alloc (.cells #[.slice none 0 0] 24)) #[] 0 (by rw [World.size_alloc]; exact Nat.le_refl _) (by decide) rfl
    rwa [World.size_alloc] at this)
  go_enter Try.func86, Try.ntmps86
  go_wp2
  go_loop [3] (fun s => ∃ k : Nat, k ≤ n ∧ s = .int .i64 k ∧ Hid (∀ i, k ≤ i → l[i]?.getD 0 = 0)) (fun s => (intOf s).toNat)
  case atStart => exact ⟨n, Nat.le_refl _, rfl, fun i hi => by rw [List.getElem?_eq_none (by rw [H.out.len]; exact hi)]; rfl⟩
  case round =>
    obtain ⟨k, hk, rfl, HZ⟩ := hrel
    by_cases hk0 : k = 0
    · subst hk0
      have HT : Hid (0 < 0 → l[0 - 1]?.getD 0 ≠ 0) := Lib.hid (fun h => absurd h (Nat.lt_irrefl 0))
      have hk2 : (0 : Int) ≤ (c : Int) := by omega
      have hk3 : (0 : Int) ≤ (0 : Int) := by omega
      have ET := Lib.hid (trim_done H.out.ok (k := 0) (by rw [H.out.len]; omega) HZ.out HT.out)
      have HC := Lib.hid (take_src (k := 0) H.out.rd (G1.out.alloc (.cells #[] 62)) (by rw [H.out.len]; omega))
      have HL2 : Hid ((l.take 0).length = 0) := Lib.hid (by rw [List.length_take, H.out.len]; omega)
      clear HZ HT
      go_wp2_with (at_builtin; refine wpList_append_own _ rfl _ _ 22 rfl (w.heap.size + 1) 62 i0 (.int .u32 0) 1 4 Try.underlying22 hi hz0 hz1 hz2 rfl (by decide) (.slice (some ⟨w.heap.size + 1, 0, none⟩) 0 0) 0 [] rfl HM.out a (0) c (cw (l.take (0))) rfl (by rw [cw_length, HL2.out, Nat.mul_one]) HC.out (cw_one _) (by unfold maxLen; omega) (by omega) (by simp) ?_; intro v1 w1 hown hgrow _; have hg2 : Gr (w.alloc (.cells #[.slice none 0 0] 24)) w1 := ⟨hgrow.os, hgrow.tape, hgrow.output, Nat.le_trans (by simp) hgrow.size, fun q hq => (hgrow.block q (by simp at hq ⊢; omega) (fun e => by have e2 : q = w.heap.size + 1 := Option.some.inj e; simp at hq; omega)).trans (Below.heap_alloc _ _ _ hq)⟩; have c1 := hg2.cell (p := ⟨w.heap.size, 0, none⟩) (v := .slice none 0 0) (by simp [go_sem]); have f1 := hg2.frozen (p := ⟨w.heap.size, 0, none⟩) (v := .slice none 0 0) (by simp [go_sem]) (by simp [go_sem]); have hg : Gr w w1 := ((Gr.refl w).alloc _).trans hg2; simp only [Nat.zero_add, List.nil_append] at hown; obtain ⟨p2, cap2, rfl, hcap, hpn, ho⟩ := own_row HL2.out.symm hown; have HN : Hid (Nr (w.heap.size + 1) w1 p2 (l.take (0)).length cap2 (digs (val l))) := Lib.hid ⟨⟨by rw [ET.out], hcap, (fun e => ⟨by rw [(hpn e).1]; rfl, (hpn e).2⟩), by rw [← ET.out]; exact ho.rd, ok_digs _, by rw [HL2.out]; omega⟩, by rw [← ET.out]; exact ho⟩; have GG := Lib.hid hg; clear hown hgrow hg hg2 ho hpn)
      refine bodyPost_ret (v := .agg #[.slice p2 (l.take (0)).length cap2]) (by simp [results, Try.results86, go_sem, c1]) rfl ⟨_, _, _, rfl, ?_, GG.out.setCell (Nat.le_refl _) _⟩
      exact (HN.out.set' _ _ (fun x e => own_ne HN.out e) (tight_digs _)).mono (Nat.le_succ _)
    · obtain ⟨j, rfl⟩ : ∃ j, k = j + 1 := ⟨k - 1, by omega⟩
      clear hk0
      obtain ⟨b, off, ha, hc⟩ := H.out.rd.at (by rw [H.out.len]; omega)
      have hcj := G1.out.cell (hc j (by rw [H.out.len]; omega))
      cases ha
      clear hc
      obtain ⟨x, hx⟩ : ∃ x, l[j]?.getD 0 = x := ⟨_, rfl⟩
      rw [hx] at hcj
      have HX := Lib.hid hx
      clear hx
      by_cases hx0 : x = 0
      · subst hx0
        go_wp2
        go_round
        case rel => exact ⟨j, by omega, by go_num, fun i hi => by
          by_cases hij : i = j
          · subst hij; exact HX.out
          · exact HZ.out i (by omega)⟩
        case measure => simp [intOf]
      · have hx1 : ((x : Int) == 0) = false := by simp; omega
        have HT : Hid (0 < j + 1 → l[j + 1 - 1]?.getD 0 ≠ 0) := Lib.hid (fun _ => by rw [Nat.add_sub_cancel, HX.out]; exact hx0)
        have hk2 : ((j : Int) + 1 : Int) ≤ (c : Int) := by omega
        have hk3 : (0 : Int) ≤ ((j : Int) + 1 : Int) := by omega
        have ET := Lib.hid (trim_done H.out.ok (k := j + 1) (by rw [H.out.len]; omega) HZ.out HT.out)
        have HC := Lib.hid (take_src (k := j + 1) H.out.rd (G1.out.alloc (.cells #[] 62)) (by rw [H.out.len]; omega))
        have HL2 : Hid ((l.take (j + 1)).length = j + 1) := Lib.hid (by rw [List.length_take, H.out.len]; omega)
        clear HZ HT
        go_wp2_with (at_builtin; refine wpList_append_own _ rfl _ _ 22 rfl (w.heap.size + 1) 62 i0 (.int .u32 0) 1 4 Try.underlying22 hi hz0 hz1 hz2 rfl (by decide) (.slice (some ⟨w.heap.size + 1, 0, none⟩) 0 0) 0 [] rfl HM.out (⟨b, off, none⟩ : Addr) (j + 1) c (cw (l.take (j + 1))) rfl (by rw [cw_length, HL2.out, Nat.mul_one]) HC.out (cw_one _) (by unfold maxLen; omega) (by omega) (by simp) ?_; intro v1 w1 hown hgrow _; have hg2 : Gr (w.alloc (.cells #[.slice none 0 0] 24)) w1 := ⟨hgrow.os, hgrow.tape, hgrow.output, Nat.le_trans (by simp) hgrow.size, fun q hq => (hgrow.block q (by simp at hq ⊢; omega) (fun e => by have e2 : q = w.heap.size + 1 := Option.some.inj e; simp at hq; omega)).trans (Below.heap_alloc _ _ _ hq)⟩; have c1 := hg2.cell (p := ⟨w.heap.size, 0, none⟩) (v := .slice none 0 0) (by simp [go_sem]); have f1 := hg2.frozen (p := ⟨w.heap.size, 0, none⟩) (v := .slice none 0 0) (by simp [go_sem]) (by simp [go_sem]); have hg : Gr w w1 := ((Gr.refl w).alloc _).trans hg2; simp only [Nat.zero_add, List.nil_append] at hown; obtain ⟨p2, cap2, rfl, hcap, hpn, ho⟩ := own_row HL2.out.symm hown; have HN : Hid (Nr (w.heap.size + 1) w1 p2 (l.take (j + 1)).length cap2 (digs (val l))) := Lib.hid ⟨⟨by rw [ET.out], hcap, (fun e => ⟨by rw [(hpn e).1]; rfl, (hpn e).2⟩), by rw [← ET.out]; exact ho.rd, ok_digs _, by rw [HL2.out]; omega⟩, by rw [← ET.out]; exact ho⟩; have GG := Lib.hid hg; clear hown hgrow hg hg2 ho hpn)
        refine bodyPost_ret (v := .agg #[.slice p2 (l.take (j + 1)).length cap2]) (by simp [results, Try.results86, go_sem, c1]) rfl ⟨_, _, _, rfl, ?_, GG.out.setCell (Nat.le_refl _) _⟩
        exact (HN.out.set' _ _ (fun x e => own_ne HN.out e) (tight_digs _)).mono (Nat.le_succ _)

set_option maxRecDepth 100000 in
set_option maxHeartbeats 2000000 in
theorem rtrim_none (w : World) : Calls Try.prog 86 #[.slice none 0 0] w (Num 0 w) := by
  obtain ⟨i0, hi, hz0, hz1, hz2⟩ := info_parts infoW
  have HM : Hid (((w.alloc (.cells #[.slice none 0 0] 24)).alloc (.cells #[] 62)).ownsRow (w.heap.size + 1) 62 1 (.slice (some ⟨w.heap.size + 1, 0, none⟩) 0 0) 0 []) := Lib.hid (by
    have := World.ownsRow_made (base := w.heap.size + 1) (e := 62) (size := 1) (w.alloc (.cells #[.slice none 0 0] 24)) #[] 0 (by rw [World.size_alloc]; exact Nat.le_refl _) (by decide) rfl
    rwa [World.size_alloc] at this)
  have GG := Lib.hid (((Gr.refl w).alloc (.cells #[.slice none 0 0] 24)).alloc (.cells #[] 62))
  go_enter Try.func86, Try.ntmps86
  go_wp2
  go_loop [3] (fun s => s = .int .i64 0) (fun s => (intOf s).toNat)
  case atStart => rfl
  case round =>
    subst hrel
    go_wp2_with (at_builtin; refine wpList_append_own_none rfl _ _ 22 rfl (w.heap.size + 1) 62 i0 1 Try.underlying22 hi (.slice (some ⟨w.heap.size + 1, 0, none⟩) 0 0) 0 [] rfl HM.out rfl ?_)
    refine bodyPost_ret (v := .agg #[.slice (some ⟨w.heap.size + 1, 0, none⟩) 0 0]) (by simp [results, Try.results86, go_sem]) rfl ⟨_, _, _, rfl, ?_, ?_⟩
    · rw [digs_zero]
      exact ⟨⟨rfl, Nat.le_refl _, (fun e => by cases e), .inl rfl, ok_nil, by decide⟩, .inl rfl⟩
    · exact ((Gr.refl w).alloc _).alloc _
theorem rtrim_any (p : Option Addr) (n c : Nat) (l : List Nat) (w : World) (hl : Nw w p n c l) :
    Calls Try.prog 86 #[.slice p n c] w (Num (val l) w) := by
  cases p with
  | none =>
    obtain ⟨rfl, rfl⟩ := hl.nil rfl
    have : l = [] := List.length_eq_zero_iff.1 hl.len
    subst this
    exact rtrim_none w
  | some a => exact rtrim_some a n c l w hl
end Go.Proofs.Ytiefnhpbniaklaa.Nr2
