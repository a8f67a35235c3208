/- The reader: number. -/
import Derived.Test.YtlollhmheakcfaaDoorQBi
import Derived.Deep.Cut
namespace Go.Proofs.YtlollhmheakcfaaDoor.Dg
open Go Go.RowKit Go.Proofs.YtlollhmheakcfaaDoor.Ne Go.Proofs.YtlollhmheakcfaaDoor.Kr

set_option linter.unusedSimpArgs false in
set_option maxRecDepth 100000 in
set_option maxHeartbeats 16000000 in
theorem number_end {w : World} {br : Nat} {p : Option Addr} {n c ps m : Nat} (hr : w.heap[br]? = some (.cells (rdr (.slice p n c) (ps : Int) 0).toArray 60 (0, 0))) (hn : n ≤ 1000000) (hps : ps ≤ n) (hk : n < ps + m) :
    Calls Tryd.prog 48 #[.pointer (some ⟨br, 0, none⟩), .int .i64 (m : Int)] w fun o w' => o = .returned (.int .i64 0) ∧ w'.heap[br]? = some (.cells (rdr (.slice p n c) (ps : Int) 4).toArray 60 (0, 0)) ∧ GrX br w w' := by
  have H := OwX.start hr
  go_enter Tryd.func48, Tryd.ntmps48
  go_upto_region 0 with fail
  refine Kr.seqStartW ?_
  (refine Kr.seqQ (v := ?_) (a' := ?_) (by rfl) ?_ ?_ ?_; rotate_left 2; (focus (go_simp; first | done | rfl)); (focus ((try simp only [Kr.PT]); first | done | rfl)))
  refine Kr.seqDoneW ?_
  go_upto_region 1 with fail
  refine Kr.seqStartW ?_
  (refine Kr.seqQ (v := ?_) (a' := ?_) (by rfl) ?_ ?_ ?_; rotate_left 2; (focus (go_simp; first | done | rfl)); (focus ((try simp only [Kr.PT]); first | done | rfl)))
  refine Kr.seqDoneW ?_
  go_upto_region 2 with fail
  refine Kr.seqStartW ?_
  (refine Kr.seqQ (v := ?_) (a' := ?_) (by rfl) ?_ ?_ ?_; rotate_left 2; (focus (go_simp; first | done | rfl)); (focus ((try simp only [Kr.PT]); first | done | rfl)))
  (refine Kr.seqQ (v := ?_) (a' := ?_) (by rfl) ?_ ?_ ?_; rotate_left 2; (focus (go_simp; first | done | rfl)); (focus ((try simp only [Kr.PT]); first | done | rfl)))
  refine Kr.seqR (by rfl) (fun K hK => ?_)
  go_simp
  go_at_call 49
  refine (take_end (k := m) (H.at 0 rfl) hn hps hk).mono ?_
  rintro o9 y1 ⟨rfl, hh, hg⟩
  replace H := H.call 0 rfl hg hh; dsimp only [List.set] at H; clear hh hg
  (refine Kr.outS hK (a' := ?_) ?_ ?_; rotate_left; (focus ((try simp only [Kr.PT]); first | done | rfl))); clear hK K
  (refine Kr.seqQ (v := .int .i64 0) (a' := ?_) (by rfl) ?_ ?_ ?_; rotate_left 1; (focus (exact Kr.valOf rfl ((by go_simp)))); (focus ((try simp only [Kr.PT]); first | done | rfl)))
  (refine Kr.seqQ (v := ?_) (a' := ?_) (by rfl) ?_ ?_ ?_; rotate_left 2; (focus (go_simp; first | done | rfl)); (focus ((try simp only [Kr.PT]); first | done | rfl)))
  refine Kr.seqDoneW ?_
  have H2 := Lib.hid H; clear H
  go_wp2_with fail
  go_loopw [5, 12] (fun nv iv wr => iv = .int .i64 0 ∧ nv = .int .i64 0 ∧ Hid (OwX br w wr [(br, 60, rdr (.slice p n c) (ps : Int) 4)])) (fun _ _ _ => 0)
  case atStart => exact ⟨rfl, rfl, H2⟩
  case round =>
    clear H2; obtain ⟨rfl, rfl, HH⟩ := hrel; have H := HH.out; clear HH
    have C3 : decide ((0 : Int) < 0) = false := decide_eq_false (by omega)
    go_upto_region 3 with fail
    refine Kr.seqStartW ?_
    (refine Kr.seqQ (v := .bool false) (a' := ?_) (by rfl) ?_ ?_ ?_; rotate_left 1; (focus (exact Kr.valOf rfl (lssT C3))); (focus ((try simp only [Kr.PT]); first | done | rfl)))
    refine Kr.seqDoneW ?_
    go_upto_region 7 with fail
    refine Kr.seqStartW ?_
    (refine Kr.seqQ (v := ?_) (a' := ?_) (by rfl) ?_ ?_ ?_; rotate_left 2; (focus (go_simp; first | done | rfl)); (focus ((try simp only [Kr.PT]); first | done | rfl)))
    (refine Kr.seqQ (v := ?_) (a' := ?_) (by rfl) ?_ ?_ ?_; rotate_left 2; (focus (go_simp; first | done | rfl)); (focus ((try simp only [Kr.PT]); first | done | rfl)))
    refine Kr.seqDoneW ?_
    have hk := trivial
    go_wp2
    refine bodyPost_ret (v := .int .i64 0) (by simp [results, Tryd.results48, go_sem, hk]) rfl ⟨rfl, H.at 0 rfl, H.g⟩
set_option linter.unusedSimpArgs false in
set_option maxRecDepth 100000 in
set_option maxHeartbeats 16000000 in
theorem number_ok {w : World} {br b off n c ps m : Nat} {l : List (BitVec 8)} (hr : w.heap[br]? = some (.cells (rdr (.slice (some ⟨b, off, none⟩) n c) (ps : Int) 0).toArray 60 (0, 0))) (hS : SrcB (some ⟨b, off, none⟩) l w) (hO : Off br (some ⟨b, off, none⟩)) (hl : l.length = n) (hn : n ≤ 1000000) (hc : n ≤ c) (hk : ps + m ≤ n) (hm : 1 ≤ m) :
    Calls Tryd.prog 48 #[.pointer (some ⟨br, 0, none⟩), .int .i64 (m : Int)] w fun o w' => o = .returned (.int .i64 (nb ((l.drop ps).take m)).toInt) ∧ w'.heap[br]? = some (.cells (rdr (.slice (some ⟨b, off, none⟩) n c) ((ps + m : Nat) : Int) 0).toArray 60 (0, 0)) ∧ GrX br w w' := by
  have HS := Lib.hid hS; have HO := Lib.hid hO; clear hS hO
  obtain ⟨q, hq⟩ : ∃ z, (l.drop ps).take m = z := ⟨_, rfl⟩; rw [hq]; have hql : q.length = m := by rw [← hq, List.length_take, List.length_drop]; omega
  have HQ := Lib.hid hq; clear hq
  obtain ⟨b2, off2, hcut, hb2⟩ := src_some (HQ.out ▸ srcB_cut HS.out hl hc hk : SrcB (some (cutA b off c ps)) q w) (by omega)
  have hoc := off_cut (off := off) (c := c) (a := ps) HO.out; rw [hcut] at hoc; have HCUT := Lib.hid (Option.some.inj hcut); have HBQ := Lib.hid (show SrcB (some ⟨b2, off2, none⟩) q w from .inr ⟨b2, off2, rfl, hb2⟩); have HOC := Lib.hid hoc; clear hcut hb2 hoc
  have H := OwX.start hr
  go_enter Tryd.func48, Tryd.ntmps48
  go_upto_region 0 with fail
  refine Kr.seqStartW ?_
  (refine Kr.seqQ (v := ?_) (a' := ?_) (by rfl) ?_ ?_ ?_; rotate_left 2; (focus (go_simp; first | done | rfl)); (focus ((try simp only [Kr.PT]); first | done | rfl)))
  refine Kr.seqDoneW ?_
  go_upto_region 1 with fail
  refine Kr.seqStartW ?_
  (refine Kr.seqQ (v := ?_) (a' := ?_) (by rfl) ?_ ?_ ?_; rotate_left 2; (focus (go_simp; first | done | rfl)); (focus ((try simp only [Kr.PT]); first | done | rfl)))
  refine Kr.seqDoneW ?_
  go_upto_region 2 with fail
  refine Kr.seqStartW ?_
  (refine Kr.seqQ (v := ?_) (a' := ?_) (by rfl) ?_ ?_ ?_; rotate_left 2; (focus (go_simp; first | done | rfl)); (focus ((try simp only [Kr.PT]); first | done | rfl)))
  (refine Kr.seqQ (v := ?_) (a' := ?_) (by rfl) ?_ ?_ ?_; rotate_left 2; (focus (go_simp; first | done | rfl)); (focus ((try simp only [Kr.PT]); first | done | rfl)))
  refine Kr.seqR (by rfl) (fun K hK => ?_)
  go_simp
  go_at_call 49
  refine (take_ok (k := m) (H.at 0 rfl) hn hc hk).mono ?_
  rintro o9 y1 ⟨rfl, hh, hg⟩
  rw [HCUT.out]
  replace H := H.call 0 rfl hg hh; dsimp only [List.set] at H; clear hh hg
  (refine Kr.outS hK (a' := ?_) ?_ ?_; rotate_left; (focus ((try simp only [Kr.PT]); first | done | rfl))); clear hK K
  (refine Kr.seqQ (v := .int .i64 (m : Int)) (a' := ?_) (by rfl) ?_ ?_ ?_; rotate_left 1; (focus (exact Kr.valOf rfl ((by go_simp)))); (focus ((try simp only [Kr.PT]); first | done | rfl)))
  (refine Kr.seqQ (v := ?_) (a' := ?_) (by rfl) ?_ ?_ ?_; rotate_left 2; (focus (go_simp; first | done | rfl)); (focus ((try simp only [Kr.PT]); first | done | rfl)))
  refine Kr.seqDoneW ?_
  have H2 := Lib.hid H; clear H
  go_wp2_with fail
  go_loopw [5, 12] (fun nv iv wr => ∃ (j : Nat), j ≤ m ∧ iv = .int .i64 (j : Int) ∧ nv = .int .i64 (nb (q.take j)).toInt ∧ Hid (OwX br w wr [(br, 60, rdr (.slice (some ⟨b, off, none⟩) n c) ((ps + m : Nat) : Int) 0)])) (fun _ iv _ => (m - (intOf iv).toNat))
  case atStart => exact ⟨0, by omega, rfl, rfl, H2⟩
  case round =>
    clear H2; obtain ⟨j, hj, rfl, rfl, HH⟩ := hrel; have H := HH.out; clear HH
    by_cases hje : j = m
    · have C3 : decide ((j : Int) < (m : Int)) = false := decide_eq_false (by omega)
      rw [show q.take j = q from List.take_of_length_le (by omega)]; clear hje
      go_upto_region 3 with fail
      refine Kr.seqStartW ?_
      (refine Kr.seqQ (v := .bool false) (a' := ?_) (by rfl) ?_ ?_ ?_; rotate_left 1; (focus (exact Kr.valOf rfl (lssT C3))); (focus ((try simp only [Kr.PT]); first | done | rfl)))
      refine Kr.seqDoneW ?_
      go_upto_region 7 with fail
      refine Kr.seqStartW ?_
      (refine Kr.seqQ (v := ?_) (a' := ?_) (by rfl) ?_ ?_ ?_; rotate_left 2; (focus (go_simp; first | done | rfl)); (focus ((try simp only [Kr.PT]); first | done | rfl)))
      (refine Kr.seqQ (v := ?_) (a' := ?_) (by rfl) ?_ ?_ ?_; rotate_left 2; (focus (go_simp; first | done | rfl)); (focus ((try simp only [Kr.PT]); first | done | rfl)))
      refine Kr.seqDoneW ?_
      have hk := trivial
      go_wp2
      refine bodyPost_ret (v := .int .i64 (nb q).toInt) (by simp [results, Tryd.results48, go_sem, hk]) rfl ⟨rfl, H.at 0 rfl, H.g⟩
    · have hjl : j < m := by omega
      have C3 : decide ((j : Int) < (m : Int)) = true := decide_eq_true (by omega)
      obtain ⟨x, hx⟩ : ∃ x, q[j]? = some x := ⟨_, List.getElem?_eq_getElem (by omega)⟩
      have HNB := Lib.hid (nb_snoc hx); have HXC : Hid (∀ W, GrX br w W → W.cell? ⟨b2, off2 + j, none⟩ = some (w8 x)) := Lib.hid (fun W g => by
        obtain ⟨b3, o3, e3, h3⟩ := src_some (HBQ.out.growX HOC.out g) (by omega)
        cases e3; exact h3 j x hx)
      obtain ⟨a0, ha0⟩ : ∃ z, nb (q.take j) = z := ⟨_, rfl⟩; rw [ha0] at HNB ⊢; clear hx ha0 hje
      obtain ⟨a1, ha1⟩ : ∃ z, a0 <<< 8 = z := ⟨_, rfl⟩; rw [ha1] at HNB; obtain ⟨a2, ha2⟩ : ∃ z, a1 ||| x.setWidth 64 = z := ⟨_, rfl⟩; rw [ha2] at HNB
      go_upto_region 3 with fail
      refine Kr.seqStartW ?_
      (refine Kr.seqQ (v := .bool true) (a' := ?_) (by rfl) ?_ ?_ ?_; rotate_left 1; (focus (exact Kr.valOf rfl (lssT C3))); (focus ((try simp only [Kr.PT]); first | done | rfl)))
      refine Kr.seqDoneW ?_
      go_upto_region 4 with fail
      refine Kr.seqStartW ?_
      (refine Kr.seqQ (v := .pointer (some ⟨b2, off2 + j, none⟩)) (a' := ?_) (by rfl) ?_ ?_ ?_; rotate_left 1; (focus (exact Kr.valOf rfl (ixB hjl))); (focus ((try simp only [Kr.PT]); first | done | rfl)))
      (refine Kr.seqQ (v := .int .u8 ((x).toNat : Int)) (a' := ?_) (by rfl) ?_ ?_ ?_; rotate_left 1; (focus (exact Kr.valOf rfl (ldE8 (HXC.out _ H.g)))); (focus ((try simp only [Kr.PT]); first | done | rfl)))
      (refine Kr.seqQ (v := ?_) (a' := ?_) (by rfl) ?_ ?_ ?_; rotate_left 2; (focus (go_simp; first | done | rfl)); (focus ((try simp only [Kr.PT]); first | done | rfl)))
      refine Kr.seqDoneW ?_
      go_upto_region 5 with fail
      refine Kr.seqStartW ?_
      (refine Kr.seqQ (v := ?_) (a' := ?_) (by rfl) ?_ ?_ ?_; rotate_left 2; (focus (go_simp; first | done | rfl)); (focus ((try simp only [Kr.PT]); first | done | rfl)))
      (refine Kr.seqQ (v := .int .i64 a1.toInt) (a' := ?_) (by rfl) ?_ ?_ ?_; rotate_left 1; (focus (exact Kr.valOf rfl (shl8Z ha1))); (focus ((try simp only [Kr.PT]); first | done | rfl)))
      (refine Kr.seqQ (v := ?_) (a' := ?_) (by rfl) ?_ ?_ ?_; rotate_left 2; (focus (go_simp; first | done | rfl)); (focus ((try simp only [Kr.PT]); first | done | rfl)))
      (refine Kr.seqQ (v := .int .i64 (x.toNat : Int)) (a' := ?_) (by rfl) ?_ ?_ ?_; rotate_left 1; (focus (exact Kr.valOf rfl (cvB8))); (focus ((try simp only [Kr.PT]); first | done | rfl)))
      (refine Kr.seqQ (v := .int .i64 a2.toInt) (a' := ?_) (by rfl) ?_ ?_ ?_; rotate_left 1; (focus (exact Kr.valOf rfl (orZ ha2))); (focus ((try simp only [Kr.PT]); first | done | rfl)))
      (refine Kr.seqQ (v := ?_) (a' := ?_) (by rfl) ?_ ?_ ?_; rotate_left 2; (focus (go_simp; first | done | rfl)); (focus ((try simp only [Kr.PT]); first | done | rfl)))
      refine Kr.seqDoneW ?_
      have HADD : IntKind.i64.wrap ((j : Int) + 1) = ((j + 1 : Nat) : Int) := wrap_nat (by omega) (by omega)
      go_upto_region 6 with fail
      refine Kr.seqStartW ?_
      (refine Kr.seqQ (v := .int .i64 ((j + 1 : Nat) : Int)) (a' := ?_) (by rfl) ?_ ?_ ?_; rotate_left 1; (focus (exact Kr.valOf rfl (addI HADD))); (focus ((try simp only [Kr.PT]); first | done | rfl)))
      (refine Kr.seqQ (v := ?_) (a' := ?_) (by rfl) ?_ ?_ ?_; rotate_left 2; (focus (go_simp; first | done | rfl)); (focus ((try simp only [Kr.PT]); first | done | rfl)))
      refine Kr.seqDoneW ?_
      go_wp2; go_roundw
      case rel =>
        first
        | exact ⟨j + 1, by omega, rfl, by rw [HNB.out], Lib.hid H⟩
        | (repeat apply Exists.intro); exact ⟨⟨j + 1, by omega, rfl, by rw [HNB.out], Lib.hid H⟩, rfl⟩
        | (repeat apply Exists.intro); refine ⟨⟨j + 1, by omega, rfl, by rw [HNB.out], Lib.hid H⟩, ?_⟩; refine ⟨?_, ?_⟩ <;> (repeat apply And.intro) <;> rfl
      case measure => simp [intOf]; omega
end Go.Proofs.YtlollhmheakcfaaDoor.Dg
