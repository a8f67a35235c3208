/- slices.Concat at bytes. -/
import Derived.Test.YtilbojcghladjaaDoorQEe
import Derived.Deep.Cut
import Derived.Lib.AppendZeros
namespace Go.Proofs.YtilbojcghladjaaDoor.Dg
open Go Go.RowKit Go.Proofs.YtilbojcghladjaaDoor.Ne Go.Proofs.YtilbojcghladjaaDoor.Kr

/-- Slices among the values of a row. -/
def Part (W : World) (x : Value × List (BitVec 8)) : Prop := ∃ p n c, x.1 = .slice p n c ∧ x.2.length = n ∧ (p = none → c = 0) ∧ SrcB p x.2 W
theorem Part.grow {W W' : World} {x : Value × List (BitVec 8)} (h : Part W x) (g : Gr W W') : Part W' x := by
  obtain ⟨p, n, c, h1, h2, h3, h4⟩ := h
  exact ⟨p, n, c, h1, h2, h3, h4.grow g⟩
def flat (ps : List (Value × List (BitVec 8))) : List (BitVec 8) := ps.flatMap (·.2)
theorem flat_take {ps : List (Value × List (BitVec 8))} {j : Nat} {x : Value × List (BitVec 8)} (h : ps[j]? = some x) : flat (ps.take (j + 1)) = flat (ps.take j) ++ x.2 := by
  unfold flat
  rw [List.take_add_one, h]
  simp
theorem flat_le (ps : List (Value × List (BitVec 8))) (j : Nat) : (flat (ps.take j)).length ≤ (flat ps).length := by
  conv => rhs; rw [← List.take_append_drop j ps]
  unfold flat
  rw [List.flatMap_append, List.length_append]
  omega
theorem ixS {w : World} {b off n c j : Nat} (h : j < n) : (Instr.indexAt 68 (.slice (some ⟨b, off, none⟩) n c) (.int .i64 (j : Int))).run Tryd.prog w = .ok (.pointer (some ⟨b, off + j, none⟩)) w := by
  have h1 : (0 : Int) ≤ (j : Int) := by omega
  have h2 : (j : Int) < (n : Int) := by omega
  go_simp
theorem ldSl {w : World} {a : Addr} {p : Option Addr} {n c : Nat} (h : w.cell? a = some (.slice p n c)) : (Instr.loadAt 22 (.pointer (some a))).run Tryd.prog w = .ok (.slice p n c) w := by
  go_simp
/-- A row of zeros of which nothing is taken yet. -/
theorem grow_zeros {W : World} {n : Nat} (h0 : 0 < n) (hn : n ≤ 1000000) : ∃ cap y b, W.heap.size = b ∧ (Builtin.append_ #[22, 3] 22 #[.slice none 0 0, .int .i64 (n : Int)]).run Tryd.prog W = .ok (.slice (some ⟨b, 0, none⟩) n cap) y ∧
    n ≤ cap ∧ cap < 9223372036854775808 ∧ RowG 5 W.heap.size (.slice (some ⟨b, 0, none⟩) 0 cap) [] y ∧ Gr W y := by
  obtain ⟨i0, hi, hz0, hz1, hz2⟩ := info_parts info8
  have hr := Lib.run_append_nil_zeros (P := Tryd.prog) W 22 3 22 5 i0 (.int .u8 0) .i64 .i64 Tryd.underlying22 Tryd.underlying3 hi hz0 n h0 (by omega) (by omega) (by rw [hz2]; omega)
  have hge := grownCap_ge W n 0 5
  have hcm : grownCap W n 0 5 ≤ maxLen := grownCap_le_maxLen W n 0 5 (by unfold maxLen; omega)
  generalize grownCap W n 0 5 = cap at hr hge hcm
  refine ⟨cap, _, _, rfl, hr, by omega, by unfold maxLen at hcm; omega, ⟨rfl, .inr ⟨W.heap.size, cap, _, rfl, Nat.le_refl _, heap_alloc_last _ _, Nat.zero_le _, by unfold maxLen at *; omega, ?_, by simp⟩⟩, ((Gr.refl _).drew).alloc _⟩
  simp [Builtin.zeroCells, Value.cells]
  omega
theorem sl0 {w : World} {b n c : Nat} : (Instr.sliceAt 22 (.slice (some ⟨b, 0, none⟩) n c) none (some (.int .i64 0)) none).run Tryd.prog w = .ok (.slice (some ⟨b, 0, none⟩) 0 c) w := by
  have h5 : (0 : Int) ≤ (c : Int) := by omega
  go_simp

set_option linter.unusedSimpArgs false in
set_option maxRecDepth 100000 in
set_option maxHeartbeats 16000000 in
theorem Grow_v {n : Nat} {w : World} (hn : n ≤ 1000000) :
    Calls Tryd.prog 39 #[.slice none 0 0, .int .i64 (n : Int)] w fun e w' => ∃ v, e = .returned v ∧ RowG 5 w.heap.size v [] w' ∧ Gr w w' := by
  have hg0 : n = 0 ∨ 0 < n := by omega
  have H := Ow.start w
  go_enter Tryd.func39, Tryd.ntmps39
  go_upto_region 0 with fail
  refine Kr.seqStartW ?_
  (refine Kr.seqQ (v := ?_) (a' := ?_) (by rfl) ?_ ?_ ?_; rotate_left 2; (focus (go_simp; first | done | rfl)); (focus ((try simp only [Kr.PT]); first | done | rfl)))
  refine Kr.seqDoneW ?_
  have HN := Lib.hid hn; clear hn
  have HC0 : decide ((n : Int) < 0) = false := decide_eq_false (by omega)
  go_upto_region 1 with fail
  refine Kr.seqStartW ?_
  (refine Kr.seqQ (v := ?_) (a' := ?_) (by rfl) ?_ ?_ ?_; rotate_left 2; (focus (go_simp; first | done | rfl)); (focus ((try simp only [Kr.PT]); first | done | rfl)))
  (refine Kr.seqQ (v := .bool false) (a' := ?_) (by rfl) ?_ ?_ ?_; rotate_left 1; (focus (exact Kr.valOf rfl (lssT HC0))); (focus ((try simp only [Kr.PT]); first | done | rfl)))
  refine Kr.seqDoneW ?_
  have hsub : IntKind.i64.wrap ((n : Int) - 0) = (n : Int) := wrap_nat (by omega) (by have := HN.out; omega)
  go_upto_region 3 with fail
  refine Kr.seqStartW ?_
  (refine Kr.seqQ (v := ?_) (a' := ?_) (by rfl) ?_ ?_ ?_; rotate_left 2; (focus (go_simp; first | done | rfl)); (focus ((try simp only [Kr.PT]); first | done | rfl)))
  (refine Kr.seqQ (v := ?_) (a' := ?_) (by rfl) ?_ ?_ ?_; rotate_left 2; (focus (go_simp; first | done | rfl)); (focus ((try simp only [Kr.PT]); first | done | rfl)))
  (refine Kr.seqQ (v := .int .i64 0) (a' := ?_) (by rfl) ?_ ?_ ?_; rotate_left 1; (focus (exact Kr.valOf rfl ((by go_simp)))); (focus ((try simp only [Kr.PT]); first | done | rfl)))
  (refine Kr.seqQ (v := ?_) (a' := ?_) (by rfl) ?_ ?_ ?_; rotate_left 2; (focus (go_simp; first | done | rfl)); (focus ((try simp only [Kr.PT]); first | done | rfl)))
  (refine Kr.seqQ (v := .int .i64 0) (a' := ?_) (by rfl) ?_ ?_ ?_; rotate_left 1; (focus (exact Kr.valOf rfl ((by go_simp)))); (focus ((try simp only [Kr.PT]); first | done | rfl)))
  (refine Kr.seqQ (v := .int .i64 0) (a' := ?_) (by rfl) ?_ ?_ ?_; rotate_left 1; (focus (exact Kr.valOf rfl (subI (by decide)))); (focus ((try simp only [Kr.PT]); first | done | rfl)))
  (refine Kr.seqQ (v := .int .i64 (n : Int)) (a' := ?_) (by rfl) ?_ ?_ ?_; rotate_left 1; (focus (exact Kr.valOf rfl (subI hsub))); (focus ((try simp only [Kr.PT]); first | done | rfl)))
  (refine Kr.seqQ (v := ?_) (a' := ?_) (by rfl) ?_ ?_ ?_; rotate_left 2; (focus (go_simp; first | done | rfl)); (focus ((try simp only [Kr.PT]); first | done | rfl)))
  refine Kr.seqDoneW ?_
  rcases hg0 with h0 | h0
  · have HC : decide ((0 : Int) < (n : Int)) = false := decide_eq_false (by omega)
    clear h0
    go_upto_region 4 with fail
    refine Kr.seqStartW ?_
    (refine Kr.seqQ (v := ?_) (a' := ?_) (by rfl) ?_ ?_ ?_; rotate_left 2; (focus (go_simp; first | done | rfl)); (focus ((try simp only [Kr.PT]); first | done | rfl)))
    (refine Kr.seqQ (v := .bool false) (a' := ?_) (by rfl) ?_ ?_ ?_; rotate_left 1; (focus (exact Kr.valOf rfl (gtrI HC))); (focus ((try simp only [Kr.PT]); first | done | rfl)))
    refine Kr.seqDoneW ?_
    go_upto_region 6 with fail
    refine Kr.seqStartW ?_
    (refine Kr.seqQ (v := ?_) (a' := ?_) (by rfl) ?_ ?_ ?_; rotate_left 2; (focus (go_simp; first | done | rfl)); (focus ((try simp only [Kr.PT]); first | done | rfl)))
    (refine Kr.seqQ (v := ?_) (a' := ?_) (by rfl) ?_ ?_ ?_; rotate_left 2; (focus (go_simp; first | done | rfl)); (focus ((try simp only [Kr.PT]); first | done | rfl)))
    refine Kr.seqDoneW ?_
    have hk := trivial
    go_wp2
    refine bodyPost_ret (v := .slice none 0 0) (by simp [results, Tryd.results39, go_sem, hk]) rfl ⟨_, rfl, RowG.nil _ _ _, H.g⟩
  · have HC : decide ((0 : Int) < (n : Int)) = true := decide_eq_true (by omega)
    have HP := Lib.hid h0; clear h0
    go_upto_region 4 with fail
    refine Kr.seqStartW ?_
    (refine Kr.seqQ (v := ?_) (a' := ?_) (by rfl) ?_ ?_ ?_; rotate_left 2; (focus (go_simp; first | done | rfl)); (focus ((try simp only [Kr.PT]); first | done | rfl)))
    (refine Kr.seqQ (v := .bool true) (a' := ?_) (by rfl) ?_ ?_ ?_; rotate_left 1; (focus (exact Kr.valOf rfl (gtrI HC))); (focus ((try simp only [Kr.PT]); first | done | rfl)))
    refine Kr.seqDoneW ?_
    go_upto_region 5 with fail
    refine Kr.seqStartW ?_
    (refine Kr.seqQ (v := ?_) (a' := ?_) (by rfl) ?_ ?_ ?_; rotate_left 2; (focus (go_simp; first | done | rfl)); (focus ((try simp only [Kr.PT]); first | done | rfl)))
    (refine Kr.seqQ (v := ?_) (a' := ?_) (by rfl) ?_ ?_ ?_; rotate_left 2; (focus (go_simp; first | done | rfl)); (focus ((try simp only [Kr.PT]); first | done | rfl)))
    (refine Kr.seqQ (v := .int .i64 0) (a' := ?_) (by rfl) ?_ ?_ ?_; rotate_left 1; (focus (exact Kr.valOf rfl ((by go_simp)))); (focus ((try simp only [Kr.PT]); first | done | rfl)))
    (refine Kr.seqQ (v := .slice none 0 0) (a' := ?_) (by rfl) ?_ ?_ ?_; rotate_left 1; (focus (exact Kr.valOf rfl ((by go_simp)))); (focus ((try simp only [Kr.PT]); first | done | rfl)))
    (refine Kr.seqQ (v := ?_) (a' := ?_) (by rfl) ?_ ?_ ?_; rotate_left 2; (focus (go_simp; first | done | rfl)); (focus ((try simp only [Kr.PT]); first | done | rfl)))
    refine Kr.seqR (by rfl) (fun K hK => ?_)
    obtain ⟨cap, y1, bk, hbk, hrun, hc1, hc2, hrow, hgr⟩ := grow_zeros (W := w) HP.out HN.out
    refine Lib.wp_append_run _ (.tmp 20) (.tmp 21) 22 3 rfl _ _ rfl rfl _ _ hrun ?_
    have HROW := Lib.hid hrow; clear hrun hc1 hc2 hrow hbk
    replace H := H.grow hgr
    clear hgr
    (refine Kr.outS hK (a' := ?_) ?_ ?_; rotate_left; (focus ((try simp only [Kr.PT]); first | done | rfl))); clear hK K
    (refine Kr.seqQ (v := ?_) (a' := ?_) (by rfl) ?_ ?_ ?_; rotate_left 2; (focus (go_simp; first | done | rfl)); (focus ((try simp only [Kr.PT]); first | done | rfl)))
    (refine Kr.seqQ (v := .int .i64 0) (a' := ?_) (by rfl) ?_ ?_ ?_; rotate_left 1; (focus (exact Kr.valOf rfl ((by go_simp)))); (focus ((try simp only [Kr.PT]); first | done | rfl)))
    (refine Kr.seqQ (v := .slice (some ⟨bk, 0, none⟩) 0 cap) (a' := ?_) (by rfl) ?_ ?_ ?_; rotate_left 1; (focus (exact Kr.valOf rfl (sl0))); (focus ((try simp only [Kr.PT]); first | done | rfl)))
    (refine Kr.seqQ (v := ?_) (a' := ?_) (by rfl) ?_ ?_ ?_; rotate_left 2; (focus (go_simp; first | done | rfl)); (focus ((try simp only [Kr.PT]); first | done | rfl)))
    refine Kr.seqDoneW ?_
    go_upto_region 6 with fail
    refine Kr.seqStartW ?_
    (refine Kr.seqQ (v := ?_) (a' := ?_) (by rfl) ?_ ?_ ?_; rotate_left 2; (focus (go_simp; first | done | rfl)); (focus ((try simp only [Kr.PT]); first | done | rfl)))
    (refine Kr.seqQ (v := ?_) (a' := ?_) (by rfl) ?_ ?_ ?_; rotate_left 2; (focus (go_simp; first | done | rfl)); (focus ((try simp only [Kr.PT]); first | done | rfl)))
    refine Kr.seqDoneW ?_
    have hk := trivial
    go_wp2
    refine bodyPost_ret (v := .slice (some ⟨bk, 0, none⟩) 0 cap) (by simp [results, Tryd.results39, go_sem, hk]) rfl ⟨_, rfl, HROW.out, H.g⟩
theorem rowG_low {T : TypeId} {A B : Nat} {v : Value} {xs : List Value} {W : World} (hab : A ≤ B) (h : RowG T B v xs W) : RowG T A v xs W := by
  obtain ⟨h1, h2 | ⟨g, cap, cur, e1, e2, e3⟩⟩ := h
  · exact ⟨h1, .inl h2⟩
  · exact ⟨h1, .inr ⟨g, cap, cur, e1, Nat.le_trans hab e2, e3⟩⟩
set_option linter.unusedSimpArgs false in
set_option maxRecDepth 100000 in
set_option maxHeartbeats 16000000 in
theorem Concat_v {q : Option Addr} {ps : List (Value × List (BitVec 8))} {c : Nat} {w : World} (hQ : SrcG q (ps.map (·.1)) w) (hp : ∀ x ∈ ps, Part w x) (hk : ps.length ≤ 1000000) (hN : (flat ps).length ≤ 1000000) :
    Calls Tryd.prog 17 #[.slice q ps.length c] w fun e w' => ∃ p c, e = .returned (.slice p (flat ps).length c) ∧ (flat ps).length ≤ c ∧ (p = none → c = 0) ∧ SrcB p (flat ps) w' ∧ Gr w w' := by
  obtain ⟨k, hk0⟩ : ∃ k, ps.length = k := ⟨_, rfl⟩; rw [hk0] at hk ⊢
  obtain ⟨N, hN0⟩ : ∃ N, (flat ps).length = N := ⟨_, rfl⟩; rw [hN0] at hN ⊢
  have HQ := Lib.hid hQ; have HPS := Lib.hid hp; have HK := Lib.hid hk0; have HNN := Lib.hid hN0; clear hQ hp hk0 hN0
  have H := Ow.start w
  go_enter Tryd.func17, Tryd.ntmps17
  go_upto_region 0 with fail
  refine Kr.seqStartW ?_
  (refine Kr.seqQ (v := ?_) (a' := ?_) (by rfl) ?_ ?_ ?_; rotate_left 2; (focus (go_simp; first | done | rfl)); (focus ((try simp only [Kr.PT]); first | done | rfl)))
  refine Kr.seqDoneW ?_
  go_upto_region 1 with fail
  refine Kr.seqStartW ?_
  (refine Kr.seqQ (v := ?_) (a' := ?_) (by rfl) ?_ ?_ ?_; rotate_left 2; (focus (go_simp; first | done | rfl)); (focus ((try simp only [Kr.PT]); first | done | rfl)))
  refine Kr.seqDoneW ?_
  go_upto_region 2 with fail
  refine Kr.seqStartW ?_
  (refine Kr.seqQ (v := ?_) (a' := ?_) (by rfl) ?_ ?_ ?_; rotate_left 2; (focus (go_simp; first | done | rfl)); (focus ((try simp only [Kr.PT]); first | done | rfl)))
  (refine Kr.seqQ (v := .int .i64 (k : Int)) (a' := ?_) (by rfl) ?_ ?_ ?_; rotate_left 1; (focus (exact Kr.valOf rfl ((by go_simp)))); (focus ((try simp only [Kr.PT]); first | done | rfl)))
  (refine Kr.seqQ (v := ?_) (a' := ?_) (by rfl) ?_ ?_ ?_; rotate_left 2; (focus (go_simp; first | done | rfl)); (focus ((try simp only [Kr.PT]); first | done | rfl)))
  refine Kr.seqDoneW ?_
  have H2 := Lib.hid H; clear H
  go_wp2_with fail
  go_loopw [3, 11] (fun sv jv wr => ∃ (j m : Nat), j ≤ k ∧ m ≤ N ∧ jv = .int .i64 (j : Int) ∧ sv = .int .i64 (m : Int) ∧ Hid (m = (flat (ps.take j)).length) ∧ Hid (Ow w wr [])) (fun _ jv _ => (k - (intOf jv).toNat))
  case atStart => exact ⟨0, 0, by omega, by omega, rfl, rfl, Lib.hid rfl, H2⟩
  case round =>
    clear H2; obtain ⟨j, m, hj, hm, rfl, rfl, HM, HH⟩ := hrel; have H := HH.out; clear HH
    by_cases hje : j = k
    · have HC : decide ((j : Int) < (k : Int)) = false := decide_eq_false (by omega)
      have hmN : m = N := by rw [HM.out, ← HNN.out, hje, ← HK.out, List.take_of_length_le (Nat.le_refl _)]
      subst hmN; clear HM hje hj hm
      go_upto_region 3 with fail
      refine Kr.seqStartW ?_
      (refine Kr.seqQ (v := .bool false) (a' := ?_) (by rfl) ?_ ?_ ?_; rotate_left 1; (focus (exact Kr.valOf rfl (lssT HC))); (focus ((try simp only [Kr.PT]); first | done | rfl)))
      refine Kr.seqDoneW ?_
      go_upto_region 9 with fail
      refine Kr.seqStartW ?_
      (refine Kr.seqQ (v := ?_) (a' := ?_) (by rfl) ?_ ?_ ?_; rotate_left 2; (focus (go_simp; first | done | rfl)); (focus ((try simp only [Kr.PT]); first | done | rfl)))
      refine Kr.seqR (by rfl) (fun K hK => ?_)
      go_simp
      go_at_call 39
      refine (Grow_v (n := m) (w := wr) hN).mono ?_
      rintro e y1 ⟨v0, rfl, hrow, hg⟩
      have HR := Lib.hid (show RowG 5 w.heap.size v0 [] y1 from rowG_low H.g.le hrow); have HA := Apt.none v0; clear hrow
      replace H := H.grow hg
      clear hg
      (refine Kr.outS hK (a' := ?_) ?_ ?_; rotate_left; (focus ((try simp only [Kr.PT]); first | done | rfl))); clear hK K
      (refine Kr.seqQ (v := ?_) (a' := ?_) (by rfl) ?_ ?_ ?_; rotate_left 2; (focus (go_simp; first | done | rfl)); (focus ((try simp only [Kr.PT]); first | done | rfl)))
      refine Kr.seqDoneW ?_
      go_upto_region 10 with fail
      refine Kr.seqStartW ?_
      (refine Kr.seqQ (v := ?_) (a' := ?_) (by rfl) ?_ ?_ ?_; rotate_left 2; (focus (go_simp; first | done | rfl)); (focus ((try simp only [Kr.PT]); first | done | rfl)))
      (refine Kr.seqQ (v := .int .i64 (k : Int)) (a' := ?_) (by rfl) ?_ ?_ ?_; rotate_left 1; (focus (exact Kr.valOf rfl ((by go_simp)))); (focus ((try simp only [Kr.PT]); first | done | rfl)))
      (refine Kr.seqQ (v := ?_) (a' := ?_) (by rfl) ?_ ?_ ?_; rotate_left 2; (focus (go_simp; first | done | rfl)); (focus ((try simp only [Kr.PT]); first | done | rfl)))
      refine Kr.seqDoneW ?_
      have H2 := Lib.hid H; clear H
      go_wp2_with fail
      go_loopw [6, 27] (fun v jv wr => ∃ (j : Nat), j ≤ k ∧ jv = .int .i64 (j : Int) ∧ Hid (RowG 5 w.heap.size v ((flat (ps.take j)).map w8) wr) ∧ Hid (Apt v []) ∧ Hid (Ow w wr [])) (fun _ jv _ => (k - (intOf jv).toNat))
      case atStart => exact ⟨0, by omega, rfl, HR, Lib.hid HA, H2⟩
      case round =>
        clear H2 HR HA HC; obtain ⟨j, hj, rfl, HR, HA, HH⟩ := hrel; have H := HH.out; replace HA := HA.out; clear HH
        by_cases hje : j = k
        · have HC : decide ((j : Int) < (k : Int)) = false := decide_eq_false (by omega)
          have hfl : flat (ps.take j) = flat ps := by rw [hje, ← HK.out, List.take_of_length_le (Nat.le_refl _)]
          rw [hfl] at HR; clear hfl hje
          obtain ⟨p, c2, rfl, hc, hpn, hsrc⟩ := HR.out.src
          rw [List.length_map, HNN.out] at hc ⊢
          have HSRC := Lib.hid (srcB_of hsrc); have HPN := Lib.hid hpn; clear hsrc HR HA hpn
          go_upto_region 11 with fail
          refine Kr.seqStartW ?_
          (refine Kr.seqQ (v := .bool false) (a' := ?_) (by rfl) ?_ ?_ ?_; rotate_left 1; (focus (exact Kr.valOf rfl (lssT HC))); (focus ((try simp only [Kr.PT]); first | done | rfl)))
          refine Kr.seqDoneW ?_
          go_upto_region 15 with fail
          refine Kr.seqStartW ?_
          (refine Kr.seqQ (v := ?_) (a' := ?_) (by rfl) ?_ ?_ ?_; rotate_left 2; (focus (go_simp; first | done | rfl)); (focus ((try simp only [Kr.PT]); first | done | rfl)))
          (refine Kr.seqQ (v := ?_) (a' := ?_) (by rfl) ?_ ?_ ?_; rotate_left 2; (focus (go_simp; first | done | rfl)); (focus ((try simp only [Kr.PT]); first | done | rfl)))
          refine Kr.seqDoneW ?_
          have hk := trivial
          go_wp2
          refine bodyPost_ret (v := .slice p m c2) (by simp [results, Tryd.results17, go_sem, hk]) rfl ⟨p, c2, rfl, hc, HPN.out, HSRC.out, H.g⟩
        · have hjl : j < k := by omega
          have HC : decide ((j : Int) < (k : Int)) = true := decide_eq_true (by omega)
          obtain ⟨x, hx⟩ : ∃ x, ps[j]? = some x := ⟨_, List.getElem?_eq_getElem (by rw [HK.out]; exact hjl)⟩
          obtain ⟨p, n, c2, hx1, hx2, hx3, hx4⟩ := (HPS.out x (List.mem_of_getElem? hx)).grow H.g
          obtain ⟨b, off, hq⟩ := srcG_some HQ.out (by rw [List.length_map, HK.out]; omega)
          subst hq
          have HX := Lib.hid (srcG_get HQ.out (show (ps.map (·.1))[j]? = some (.slice p n c2) by rw [List.getElem?_map, hx, ← hx1]; rfl))
          have htk := Lib.hid (flat_take hx); have hle := flat_le ps (j + 1); rw [htk.out, List.length_append, HNN.out, hx2] at hle
          obtain ⟨d, hd⟩ : ∃ d, x.2 = d := ⟨_, rfl⟩; rw [hd] at hx2 hx4 htk
          have HS := Lib.hid hx4; clear hx hx1 hd hx4
          go_upto_region 11 with fail
          refine Kr.seqStartW ?_
          (refine Kr.seqQ (v := .bool true) (a' := ?_) (by rfl) ?_ ?_ ?_; rotate_left 1; (focus (exact Kr.valOf rfl (lssT HC))); (focus ((try simp only [Kr.PT]); first | done | rfl)))
          refine Kr.seqDoneW ?_
          go_upto_region 12 with fail
          refine Kr.seqStartW ?_
          (refine Kr.seqQ (v := .pointer (some ⟨b, off + j, none⟩)) (a' := ?_) (by rfl) ?_ ?_ ?_; rotate_left 1; (focus (exact Kr.valOf rfl (ixS hjl))); (focus ((try simp only [Kr.PT]); first | done | rfl)))
          (refine Kr.seqQ (v := .slice p n c2) (a' := ?_) (by rfl) ?_ ?_ ?_; rotate_left 1; (focus (exact Kr.valOf rfl (ldSl (H.g.cell HX.out)))); (focus ((try simp only [Kr.PT]); first | done | rfl)))
          (refine Kr.seqQ (v := ?_) (a' := ?_) (by rfl) ?_ ?_ ?_; rotate_left 2; (focus (go_simp; first | done | rfl)); (focus ((try simp only [Kr.PT]); first | done | rfl)))
          refine Kr.seqDoneW ?_
          go_upto_region 13 with fail
          refine Kr.seqStartW ?_
          (refine Kr.seqQ (v := ?_) (a' := ?_) (by rfl) ?_ ?_ ?_; rotate_left 2; (focus (go_simp; first | done | rfl)); (focus ((try simp only [Kr.PT]); first | done | rfl)))
          (refine Kr.seqQ (v := ?_) (a' := ?_) (by rfl) ?_ ?_ ?_; rotate_left 2; (focus (go_simp; first | done | rfl)); (focus ((try simp only [Kr.PT]); first | done | rfl)))
          refine Kr.seqR (by rfl) (fun K hK => ?_)
          refine wp_appG (T := 5) (TS := 22) Tryd.underlying22 info8 rfl (.tmp 31) (.tmp 32) rfl (v := u6) (r := ((flat (ps.take j)).map w8)) (d := (d.map w8)) (p := p) (m := n) (c := c2) (rs := []) rfl rfl (by rw [List.length_map]; exact hx2) (HS.out.srcG) (one_lit8 d) (hx3) H HR.out HA (by rw [List.length_map]; omega) (by decide) ?_
          intro v1 y2 H3 hR3 hA3
          clear H HR HA HS HX; have H := H3; have HR := Lib.hid hR3; have HA := hA3; clear H3 hR3 hA3
          (refine Kr.outS hK (a' := ?_) ?_ ?_; rotate_left; (focus ((try simp only [Kr.PT]); first | done | rfl))); clear hK K
          (refine Kr.seqQ (v := ?_) (a' := ?_) (by rfl) ?_ ?_ ?_; rotate_left 2; (focus (go_simp; first | done | rfl)); (focus ((try simp only [Kr.PT]); first | done | rfl)))
          refine Kr.seqDoneW ?_
          have htm : (flat (ps.take (j + 1))).map w8 = (flat (ps.take j)).map w8 ++ d.map w8 := by rw [htk.out, List.map_append]
          rw [← htm] at HR
          have HADD : IntKind.i64.wrap ((j : Int) + 1) = ((j + 1 : Nat) : Int) := wrap_nat (by omega) (by omega)
          go_upto_region 14 with fail
          refine Kr.seqStartW ?_
          (refine Kr.seqQ (v := .int .i64 ((j + 1 : Nat) : Int)) (a' := ?_) (by rfl) ?_ ?_ ?_; rotate_left 1; (focus (exact Kr.valOf rfl (addI HADD))); (focus ((try simp only [Kr.PT]); first | done | rfl)))
          (refine Kr.seqQ (v := ?_) (a' := ?_) (by rfl) ?_ ?_ ?_; rotate_left 2; (focus (go_simp; first | done | rfl)); (focus ((try simp only [Kr.PT]); first | done | rfl)))
          refine Kr.seqDoneW ?_
          go_wp2; go_roundw
          case rel => exact ⟨j + 1, by omega, rfl, HR, Lib.hid HA, Lib.hid H⟩
          case measure => simp [intOf]; omega
    · have hjl : j < k := by omega
      have HC : decide ((j : Int) < (k : Int)) = true := decide_eq_true (by omega)
      obtain ⟨x, hx⟩ : ∃ x, ps[j]? = some x := ⟨_, List.getElem?_eq_getElem (by rw [HK.out]; exact hjl)⟩
      obtain ⟨p, n, c2, hx1, hx2, hx3, hx4⟩ := HPS.out x (List.mem_of_getElem? hx)
      obtain ⟨b, off, hq⟩ := srcG_some HQ.out (by rw [List.length_map, HK.out]; omega)
      subst hq
      have HX := Lib.hid (srcG_get HQ.out (show (ps.map (·.1))[j]? = some (.slice p n c2) by rw [List.getElem?_map, hx, ← hx1]; rfl))
      have htk := flat_take hx; have hle := flat_le ps (j + 1); rw [htk, List.length_append, HNN.out, hx2, ← HM.out] at hle
      have hm2 : m + n = (flat (ps.take (j + 1))).length := by rw [htk, List.length_append, hx2, ← HM.out]
      have HM2 := Lib.hid hm2; clear hx hx1 hx2 hx3 hx4 htk hm2 HM
      go_upto_region 3 with fail
      refine Kr.seqStartW ?_
      (refine Kr.seqQ (v := .bool true) (a' := ?_) (by rfl) ?_ ?_ ?_; rotate_left 1; (focus (exact Kr.valOf rfl (lssT HC))); (focus ((try simp only [Kr.PT]); first | done | rfl)))
      refine Kr.seqDoneW ?_
      go_upto_region 4 with fail
      refine Kr.seqStartW ?_
      (refine Kr.seqQ (v := .pointer (some ⟨b, off + j, none⟩)) (a' := ?_) (by rfl) ?_ ?_ ?_; rotate_left 1; (focus (exact Kr.valOf rfl (ixS hjl))); (focus ((try simp only [Kr.PT]); first | done | rfl)))
      (refine Kr.seqQ (v := .slice p n c2) (a' := ?_) (by rfl) ?_ ?_ ?_; rotate_left 1; (focus (exact Kr.valOf rfl (ldSl (H.g.cell HX.out)))); (focus ((try simp only [Kr.PT]); first | done | rfl)))
      (refine Kr.seqQ (v := ?_) (a' := ?_) (by rfl) ?_ ?_ ?_; rotate_left 2; (focus (go_simp; first | done | rfl)); (focus ((try simp only [Kr.PT]); first | done | rfl)))
      refine Kr.seqDoneW ?_
      have hadd : IntKind.i64.wrap ((m : Int) + (n : Int)) = ((m + n : Nat) : Int) := wrap_nat (by omega) (by omega)
      go_upto_region 5 with fail
      refine Kr.seqStartW ?_
      (refine Kr.seqQ (v := ?_) (a' := ?_) (by rfl) ?_ ?_ ?_; rotate_left 2; (focus (go_simp; first | done | rfl)); (focus ((try simp only [Kr.PT]); first | done | rfl)))
      (refine Kr.seqQ (v := ?_) (a' := ?_) (by rfl) ?_ ?_ ?_; rotate_left 2; (focus (go_simp; first | done | rfl)); (focus ((try simp only [Kr.PT]); first | done | rfl)))
      (refine Kr.seqQ (v := .int .i64 (n : Int)) (a' := ?_) (by rfl) ?_ ?_ ?_; rotate_left 1; (focus (exact Kr.valOf rfl ((by go_simp)))); (focus ((try simp only [Kr.PT]); first | done | rfl)))
      (refine Kr.seqQ (v := .int .i64 ((m + n : Nat) : Int)) (a' := ?_) (by rfl) ?_ ?_ ?_; rotate_left 1; (focus (exact Kr.valOf rfl (addI hadd))); (focus ((try simp only [Kr.PT]); first | done | rfl)))
      (refine Kr.seqQ (v := ?_) (a' := ?_) (by rfl) ?_ ?_ ?_; rotate_left 2; (focus (go_simp; first | done | rfl)); (focus ((try simp only [Kr.PT]); first | done | rfl)))
      refine Kr.seqDoneW ?_
      have HC2 : decide (((m + n : Nat) : Int) < 0) = false := decide_eq_false (by omega)
      go_upto_region 6 with fail
      refine Kr.seqStartW ?_
      (refine Kr.seqQ (v := ?_) (a' := ?_) (by rfl) ?_ ?_ ?_; rotate_left 2; (focus (go_simp; first | done | rfl)); (focus ((try simp only [Kr.PT]); first | done | rfl)))
      (refine Kr.seqQ (v := .bool false) (a' := ?_) (by rfl) ?_ ?_ ?_; rotate_left 1; (focus (exact Kr.valOf rfl (lssT HC2))); (focus ((try simp only [Kr.PT]); first | done | rfl)))
      refine Kr.seqDoneW ?_
      have HADD : IntKind.i64.wrap ((j : Int) + 1) = ((j + 1 : Nat) : Int) := wrap_nat (by omega) (by omega)
      go_upto_region 8 with fail
      refine Kr.seqStartW ?_
      (refine Kr.seqQ (v := .int .i64 ((j + 1 : Nat) : Int)) (a' := ?_) (by rfl) ?_ ?_ ?_; rotate_left 1; (focus (exact Kr.valOf rfl (addI HADD))); (focus ((try simp only [Kr.PT]); first | done | rfl)))
      (refine Kr.seqQ (v := ?_) (a' := ?_) (by rfl) ?_ ?_ ?_; rotate_left 2; (focus (go_simp; first | done | rfl)); (focus ((try simp only [Kr.PT]); first | done | rfl)))
      refine Kr.seqDoneW ?_
      go_wp2; go_roundw
      case rel => exact ⟨j + 1, m + n, by omega, by omega, rfl, rfl, HM2, Lib.hid H⟩
      case measure => simp [intOf]; omega
end Go.Proofs.YtilbojcghladjaaDoor.Dg
