/- Valid transcripts, labels. -/
import Derived.Test.YtldgjhmefaapeaaDoorQTa
import Derived.Deep.Cut
namespace Go.Proofs.YtldgjhmefaapeaaDoor.Dg
open Go Go.RowKit Go.Proofs.YtldgjhmefaapeaaDoor.Ne Go.Proofs.YtldgjhmefaapeaaDoor.Kr

theorem s8_get {s : ByteArray} {i : Nat} {x : BitVec 8} (h : (s8 s)[i]? = some x) : i < s.size := by
  have := (List.getElem?_eq_some_iff.1 h).1
  rwa [s8_length] at this
theorem atStr {w : World} {s : ByteArray} {i : Nat} {x : BitVec 8} (h : (s8 s)[i]? = some x) : (Instr.index 9 (.string s) (.int .i64 (i : Int))).run Tryd.prog w = .ok (.int .u8 (x.toNat : Int)) w := by
  have hi := s8_get h
  have h1 : x.toNat = (s[i]).toNat := by
    have h2 : i < s.data.size := hi
    have h3 : s.data[i]? = some s.data[i] := Array.getElem?_eq_getElem h2
    unfold s8 at h
    rw [List.getElem?_map, Array.getElem?_toList, h3] at h
    have h4 := Option.some.inj h
    rw [← h4]
    rfl
  rw [h1]
  clear h h1
  simp [Instr.index, asIntOf, run_underlying Tryd.underlying9, ByteArray.getElem?_lt' s i hi]

set_option linter.unusedSimpArgs false in
set_option maxRecDepth 100000 in
set_option maxHeartbeats 16000000 in
theorem ValidT_v {st : List (BitVec 8)} {c : Int} {w : World} (hst : st.length = 32) :
    Calls Tryd.prog 26 #[.agg (tr st c).toArray] w fun e w' => e = .returned (.bool (okT c)) ∧ Gr w w' := by
  obtain ⟨b1, hb1⟩ : ∃ z, decide (0 ≤ c) = z := ⟨_, rfl⟩; obtain ⟨b2, hb2⟩ : ∃ z, decide (c ≤ 1000) = z := ⟨_, rfl⟩; have HR : okT c = (b1 && b2) := by rw [okT, hb1, hb2]
  rw [HR]; clear HR
  have H := Ow.start w
  go_enter Tryd.func26, Tryd.ntmps26
  go_upto_region 0 with fail
  refine Kr.seqStartW ?_
  refine Kr.seqR (by rfl) (fun K hK => ?_)
  refine wp_runV rfl boxT ?_
  obtain ⟨y1, hy⟩ : ∃ y, w.alloc (.cells (tr st c).toArray 25) = y := ⟨_, rfl⟩
  obtain ⟨bt, hb⟩ : ∃ b, w.heap.size = b := ⟨_, rfl⟩
  rw [hy, hb]
  have hg : Gr w y1 := hy ▸ (Gr.refl _).alloc _
  replace H := H.alloc hy hb
  clear hy hb hg
  (refine Kr.outS hK (a' := ?_) ?_ ?_; rotate_left; (focus ((try simp only [Kr.PT]); first | done | rfl))); clear hK K
  (refine Kr.seqQ (v := ?_) (a' := ?_) (by rfl) ?_ ?_ ?_; rotate_left 2; (focus (go_simp; first | done | rfl)); (focus ((try simp only [Kr.PT]); first | done | rfl)))
  refine Kr.seqDoneW ?_
  cases b1
  · go_upto_region 1 with fail
    refine Kr.seqStartW ?_
    (refine Kr.seqQ (v := .pointer (some ⟨bt, 32, none⟩)) (a' := ?_) (by rfl) ?_ ?_ ?_; rotate_left 1; (focus (go_simp; first | done | rfl)); (focus ((try simp only [Kr.PT]); first | done | rfl)))
    (refine Kr.seqQ (v := .int .i64 c) (a' := ?_) (by rfl) ?_ ?_ ?_; rotate_left 1; (focus (exact Kr.valOf rfl (ldInt (rowCell (j := 32) (H.at 0 rfl) (tr_cnt _ hst))))); (focus ((try simp only [Kr.PT]); first | done | rfl)))
    (refine Kr.seqQ (v := .bool false) (a' := ?_) (by rfl) ?_ ?_ ?_; rotate_left 1; (focus (exact Kr.valOf rfl (leqI hb1))); (focus ((try simp only [Kr.PT]); first | done | rfl)))
    (refine Kr.seqQ (v := ?_) (a' := ?_) (by rfl) ?_ ?_ ?_; rotate_left 2; (focus (go_simp; first | done | rfl)); (focus ((try simp only [Kr.PT]); first | done | rfl)))
    (refine Kr.seqSkipQ (a' := ?_) (by rfl) ?_ ?_; rotate_left; (focus ((try simp only [Kr.PT]); first | done | rfl)))
    (refine Kr.seqSkipQ (a' := ?_) (by rfl) ?_ ?_; rotate_left; (focus ((try simp only [Kr.PT]); first | done | rfl)))
    (refine Kr.seqSkipQ (a' := ?_) (by rfl) ?_ ?_; rotate_left; (focus ((try simp only [Kr.PT]); first | done | rfl)))
    (refine Kr.seqQ (v := ?_) (a' := ?_) (by rfl) ?_ ?_ ?_; rotate_left 2; (focus (go_simp; first | done | rfl)); (focus ((try simp only [Kr.PT]); first | done | rfl)))
    (refine Kr.seqQ (v := ?_) (a' := ?_) (by rfl) ?_ ?_ ?_; rotate_left 2; (focus (go_simp; first | done | rfl)); (focus ((try simp only [Kr.PT]); first | done | rfl)))
    refine Kr.seqDoneW ?_
    have hk := trivial
    go_wp2
    refine bodyPost_ret (v := .bool false) (by simp [results, Tryd.results26, go_sem, hk]) rfl ⟨rfl, H.g⟩
  · go_upto_region 1 with fail
    refine Kr.seqStartW ?_
    (refine Kr.seqQ (v := .pointer (some ⟨bt, 32, none⟩)) (a' := ?_) (by rfl) ?_ ?_ ?_; rotate_left 1; (focus (go_simp; first | done | rfl)); (focus ((try simp only [Kr.PT]); first | done | rfl)))
    (refine Kr.seqQ (v := .int .i64 c) (a' := ?_) (by rfl) ?_ ?_ ?_; rotate_left 1; (focus (exact Kr.valOf rfl (ldInt (rowCell (j := 32) (H.at 0 rfl) (tr_cnt _ hst))))); (focus ((try simp only [Kr.PT]); first | done | rfl)))
    (refine Kr.seqQ (v := .bool true) (a' := ?_) (by rfl) ?_ ?_ ?_; rotate_left 1; (focus (exact Kr.valOf rfl (leqI hb1))); (focus ((try simp only [Kr.PT]); first | done | rfl)))
    (refine Kr.seqQ (v := ?_) (a' := ?_) (by rfl) ?_ ?_ ?_; rotate_left 2; (focus (go_simp; first | done | rfl)); (focus ((try simp only [Kr.PT]); first | done | rfl)))
    (refine Kr.seqQ (v := .pointer (some ⟨bt, 32, none⟩)) (a' := ?_) (by rfl) ?_ ?_ ?_; rotate_left 1; (focus (go_simp; first | done | rfl)); (focus ((try simp only [Kr.PT]); first | done | rfl)))
    (refine Kr.seqQ (v := .int .i64 c) (a' := ?_) (by rfl) ?_ ?_ ?_; rotate_left 1; (focus (exact Kr.valOf rfl (ldInt (rowCell (j := 32) (H.at 0 rfl) (tr_cnt _ hst))))); (focus ((try simp only [Kr.PT]); first | done | rfl)))
    (refine Kr.seqQ (v := .bool b2) (a' := ?_) (by rfl) ?_ ?_ ?_; rotate_left 1; (focus (exact Kr.valOf rfl (leqI hb2))); (focus ((try simp only [Kr.PT]); first | done | rfl)))
    (refine Kr.seqQ (v := ?_) (a' := ?_) (by rfl) ?_ ?_ ?_; rotate_left 2; (focus (go_simp; first | done | rfl)); (focus ((try simp only [Kr.PT]); first | done | rfl)))
    (refine Kr.seqQ (v := ?_) (a' := ?_) (by rfl) ?_ ?_ ?_; rotate_left 2; (focus (go_simp; first | done | rfl)); (focus ((try simp only [Kr.PT]); first | done | rfl)))
    refine Kr.seqDoneW ?_
    have hk := trivial
    go_wp2
    refine bodyPost_ret (v := .bool b2) (by simp [results, Tryd.results26, go_sem, hk]) rfl ⟨rfl, H.g⟩
set_option linter.unusedSimpArgs false in
set_option maxRecDepth 100000 in
set_option maxHeartbeats 16000000 in
theorem rValidT_v {st : List (BitVec 8)} {c : Int} {w : World} (hst : st.length = 32) :
    Calls Tryd.prog 10 #[.agg (tr st c).toArray] w fun e w' => e = .returned (.bool (okT c)) ∧ Gr w w' := by
  obtain ⟨b1, hb1⟩ : ∃ z, decide (0 ≤ c) = z := ⟨_, rfl⟩; obtain ⟨b2, hb2⟩ : ∃ z, decide (c ≤ 1000) = z := ⟨_, rfl⟩; have HR : okT c = (b1 && b2) := by rw [okT, hb1, hb2]
  rw [HR]; clear HR
  have H := Ow.start w
  go_enter Tryd.func10, Tryd.ntmps10
  go_upto_region 0 with fail
  refine Kr.seqStartW ?_
  refine Kr.seqR (by rfl) (fun K hK => ?_)
  refine wp_runV rfl boxT ?_
  obtain ⟨y1, hy⟩ : ∃ y, w.alloc (.cells (tr st c).toArray 25) = y := ⟨_, rfl⟩
  obtain ⟨bt, hb⟩ : ∃ b, w.heap.size = b := ⟨_, rfl⟩
  rw [hy, hb]
  have hg : Gr w y1 := hy ▸ (Gr.refl _).alloc _
  replace H := H.alloc hy hb
  clear hy hb hg
  (refine Kr.outS hK (a' := ?_) ?_ ?_; rotate_left; (focus ((try simp only [Kr.PT]); first | done | rfl))); clear hK K
  (refine Kr.seqQ (v := ?_) (a' := ?_) (by rfl) ?_ ?_ ?_; rotate_left 2; (focus (go_simp; first | done | rfl)); (focus ((try simp only [Kr.PT]); first | done | rfl)))
  refine Kr.seqDoneW ?_
  cases b1
  · go_upto_region 1 with fail
    refine Kr.seqStartW ?_
    (refine Kr.seqQ (v := .pointer (some ⟨bt, 32, none⟩)) (a' := ?_) (by rfl) ?_ ?_ ?_; rotate_left 1; (focus (go_simp; first | done | rfl)); (focus ((try simp only [Kr.PT]); first | done | rfl)))
    (refine Kr.seqQ (v := .int .i64 c) (a' := ?_) (by rfl) ?_ ?_ ?_; rotate_left 1; (focus (exact Kr.valOf rfl (ldInt (rowCell (j := 32) (H.at 0 rfl) (tr_cnt _ hst))))); (focus ((try simp only [Kr.PT]); first | done | rfl)))
    (refine Kr.seqQ (v := .bool false) (a' := ?_) (by rfl) ?_ ?_ ?_; rotate_left 1; (focus (exact Kr.valOf rfl (geqI hb1))); (focus ((try simp only [Kr.PT]); first | done | rfl)))
    (refine Kr.seqQ (v := ?_) (a' := ?_) (by rfl) ?_ ?_ ?_; rotate_left 2; (focus (go_simp; first | done | rfl)); (focus ((try simp only [Kr.PT]); first | done | rfl)))
    (refine Kr.seqSkipQ (a' := ?_) (by rfl) ?_ ?_; rotate_left; (focus ((try simp only [Kr.PT]); first | done | rfl)))
    (refine Kr.seqSkipQ (a' := ?_) (by rfl) ?_ ?_; rotate_left; (focus ((try simp only [Kr.PT]); first | done | rfl)))
    (refine Kr.seqSkipQ (a' := ?_) (by rfl) ?_ ?_; rotate_left; (focus ((try simp only [Kr.PT]); first | done | rfl)))
    (refine Kr.seqQ (v := ?_) (a' := ?_) (by rfl) ?_ ?_ ?_; rotate_left 2; (focus (go_simp; first | done | rfl)); (focus ((try simp only [Kr.PT]); first | done | rfl)))
    (refine Kr.seqQ (v := ?_) (a' := ?_) (by rfl) ?_ ?_ ?_; rotate_left 2; (focus (go_simp; first | done | rfl)); (focus ((try simp only [Kr.PT]); first | done | rfl)))
    refine Kr.seqDoneW ?_
    have hk := trivial
    go_wp2
    refine bodyPost_ret (v := .bool false) (by simp [results, Tryd.results10, go_sem, hk]) rfl ⟨rfl, H.g⟩
  · go_upto_region 1 with fail
    refine Kr.seqStartW ?_
    (refine Kr.seqQ (v := .pointer (some ⟨bt, 32, none⟩)) (a' := ?_) (by rfl) ?_ ?_ ?_; rotate_left 1; (focus (go_simp; first | done | rfl)); (focus ((try simp only [Kr.PT]); first | done | rfl)))
    (refine Kr.seqQ (v := .int .i64 c) (a' := ?_) (by rfl) ?_ ?_ ?_; rotate_left 1; (focus (exact Kr.valOf rfl (ldInt (rowCell (j := 32) (H.at 0 rfl) (tr_cnt _ hst))))); (focus ((try simp only [Kr.PT]); first | done | rfl)))
    (refine Kr.seqQ (v := .bool true) (a' := ?_) (by rfl) ?_ ?_ ?_; rotate_left 1; (focus (exact Kr.valOf rfl (geqI hb1))); (focus ((try simp only [Kr.PT]); first | done | rfl)))
    (refine Kr.seqQ (v := ?_) (a' := ?_) (by rfl) ?_ ?_ ?_; rotate_left 2; (focus (go_simp; first | done | rfl)); (focus ((try simp only [Kr.PT]); first | done | rfl)))
    (refine Kr.seqQ (v := .pointer (some ⟨bt, 32, none⟩)) (a' := ?_) (by rfl) ?_ ?_ ?_; rotate_left 1; (focus (go_simp; first | done | rfl)); (focus ((try simp only [Kr.PT]); first | done | rfl)))
    (refine Kr.seqQ (v := .int .i64 c) (a' := ?_) (by rfl) ?_ ?_ ?_; rotate_left 1; (focus (exact Kr.valOf rfl (ldInt (rowCell (j := 32) (H.at 0 rfl) (tr_cnt _ hst))))); (focus ((try simp only [Kr.PT]); first | done | rfl)))
    (refine Kr.seqQ (v := .bool b2) (a' := ?_) (by rfl) ?_ ?_ ?_; rotate_left 1; (focus (exact Kr.valOf rfl (leqI hb2))); (focus ((try simp only [Kr.PT]); first | done | rfl)))
    (refine Kr.seqQ (v := ?_) (a' := ?_) (by rfl) ?_ ?_ ?_; rotate_left 2; (focus (go_simp; first | done | rfl)); (focus ((try simp only [Kr.PT]); first | done | rfl)))
    (refine Kr.seqQ (v := ?_) (a' := ?_) (by rfl) ?_ ?_ ?_; rotate_left 2; (focus (go_simp; first | done | rfl)); (focus ((try simp only [Kr.PT]); first | done | rfl)))
    refine Kr.seqDoneW ?_
    have hk := trivial
    go_wp2
    refine bodyPost_ret (v := .bool b2) (by simp [results, Tryd.results10, go_sem, hk]) rfl ⟨rfl, H.g⟩
set_option linter.unusedSimpArgs false in
set_option maxRecDepth 100000 in
set_option maxHeartbeats 16000000 in
theorem isLabel_v {s : ByteArray} {w : World} :
    Calls Tryd.prog 24 #[.string s] w fun e w' => e = .returned (.bool (isL s)) ∧ Gr w w' := by
  obtain ⟨S, hS⟩ : ∃ z, s8 s = z := ⟨_, rfl⟩; obtain ⟨n, hn⟩ : ∃ z, s.size = z := ⟨_, rfl⟩; have hSl : S.length = n := by rw [← hS, s8_length, hn]
  have HRR : isL s = (decide (n ≠ 0) && (decide (n ≤ 24) && S.all okc)) := by rw [isL, hS, hn]
  obtain ⟨R, hR⟩ : ∃ z, isL s = z := ⟨_, rfl⟩; rw [hR] at HRR ⊢; have HR := Lib.hid HRR; have HSS := Lib.hid hS; have HN := Lib.hid hn; clear HRR hR hS hn
  have H := Ow.start w
  go_enter Tryd.func24, Tryd.ntmps24
  go_upto_region 0 with fail
  refine Kr.seqStartW ?_
  (refine Kr.seqQ (v := ?_) (a' := ?_) (by rfl) ?_ ?_ ?_; rotate_left 2; (focus (go_simp; first | done | rfl)); (focus ((try simp only [Kr.PT]); first | done | rfl)))
  refine Kr.seqDoneW ?_
  by_cases h0 : n = 0
  · have C0 : decide (s.size = 0) = true := decide_eq_true (HN.out.trans h0)
    go_upto_region 1 with fail
    refine Kr.seqStartW ?_
    (refine Kr.seqQ (v := ?_) (a' := ?_) (by rfl) ?_ ?_ ?_; rotate_left 2; (focus (go_simp; first | done | rfl)); (focus ((try simp only [Kr.PT]); first | done | rfl)))
    (refine Kr.seqQ (v := .bool true) (a' := ?_) (by rfl) ?_ ?_ ?_; rotate_left 1; (focus (exact Kr.valOf rfl (strEmpty C0))); (focus ((try simp only [Kr.PT]); first | done | rfl)))
    (refine Kr.seqQ (v := ?_) (a' := ?_) (by rfl) ?_ ?_ ?_; rotate_left 2; (focus (go_simp; first | done | rfl)); (focus ((try simp only [Kr.PT]); first | done | rfl)))
    (refine Kr.seqSkipQ (a' := ?_) (by rfl) ?_ ?_; rotate_left; (focus ((try simp only [Kr.PT]); first | done | rfl)))
    (refine Kr.seqSkipQ (a' := ?_) (by rfl) ?_ ?_; rotate_left; (focus ((try simp only [Kr.PT]); first | done | rfl)))
    (refine Kr.seqSkipQ (a' := ?_) (by rfl) ?_ ?_; rotate_left; (focus ((try simp only [Kr.PT]); first | done | rfl)))
    (refine Kr.seqQ (v := ?_) (a' := ?_) (by rfl) ?_ ?_ ?_; rotate_left 2; (focus (go_simp; first | done | rfl)); (focus ((try simp only [Kr.PT]); first | done | rfl)))
    refine Kr.seqDoneW ?_
    have hr : R = false := by rw [HR.out]; simp [h0]
    subst hr
    go_upto_region 2 with fail
    refine Kr.seqStartW ?_
    (refine Kr.seqQ (v := ?_) (a' := ?_) (by rfl) ?_ ?_ ?_; rotate_left 2; (focus (go_simp; first | done | rfl)); (focus ((try simp only [Kr.PT]); first | done | rfl)))
    refine Kr.seqDoneW ?_
    have hk := trivial
    go_wp2
    refine bodyPost_ret (v := .bool false) (by simp [results, Tryd.results24, go_sem, hk]) rfl ⟨rfl, H.g⟩
  have C0 : decide (s.size = 0) = false := decide_eq_false (by rw [HN.out]; exact h0)
  by_cases h24 : 24 < n
  · have C1 : decide ((24 : Int) < (n : Int)) = true := decide_eq_true (by omega)
    go_upto_region 1 with fail
    refine Kr.seqStartW ?_
    (refine Kr.seqQ (v := ?_) (a' := ?_) (by rfl) ?_ ?_ ?_; rotate_left 2; (focus (go_simp; first | done | rfl)); (focus ((try simp only [Kr.PT]); first | done | rfl)))
    (refine Kr.seqQ (v := .bool false) (a' := ?_) (by rfl) ?_ ?_ ?_; rotate_left 1; (focus (exact Kr.valOf rfl (strEmpty C0))); (focus ((try simp only [Kr.PT]); first | done | rfl)))
    (refine Kr.seqQ (v := ?_) (a' := ?_) (by rfl) ?_ ?_ ?_; rotate_left 2; (focus (go_simp; first | done | rfl)); (focus ((try simp only [Kr.PT]); first | done | rfl)))
    (refine Kr.seqQ (v := ?_) (a' := ?_) (by rfl) ?_ ?_ ?_; rotate_left 2; (focus (go_simp; first | done | rfl)); (focus ((try simp only [Kr.PT]); first | done | rfl)))
    (refine Kr.seqQ (v := .int .i64 (n : Int)) (a' := ?_) (by rfl) ?_ ?_ ?_; rotate_left 1; (focus (exact Kr.valOf rfl ((by rw [← HN.out]; go_simp)))); (focus ((try simp only [Kr.PT]); first | done | rfl)))
    (refine Kr.seqQ (v := .bool true) (a' := ?_) (by rfl) ?_ ?_ ?_; rotate_left 1; (focus (exact Kr.valOf rfl (gtrI C1))); (focus ((try simp only [Kr.PT]); first | done | rfl)))
    (refine Kr.seqQ (v := ?_) (a' := ?_) (by rfl) ?_ ?_ ?_; rotate_left 2; (focus (go_simp; first | done | rfl)); (focus ((try simp only [Kr.PT]); first | done | rfl)))
    refine Kr.seqDoneW ?_
    have hr : R = false := by rw [HR.out]; simp only [decide_eq_false (show ¬ n ≤ 24 by omega), Bool.false_and, Bool.and_false]
    subst hr
    go_upto_region 2 with fail
    refine Kr.seqStartW ?_
    (refine Kr.seqQ (v := ?_) (a' := ?_) (by rfl) ?_ ?_ ?_; rotate_left 2; (focus (go_simp; first | done | rfl)); (focus ((try simp only [Kr.PT]); first | done | rfl)))
    refine Kr.seqDoneW ?_
    have hk := trivial
    go_wp2
    refine bodyPost_ret (v := .bool false) (by simp [results, Tryd.results24, go_sem, hk]) rfl ⟨rfl, H.g⟩
  have C1 : decide ((24 : Int) < (n : Int)) = false := decide_eq_false (by omega)
  have HR2 : Hid (R = S.all okc) := Lib.hid (by rw [HR.out, decide_eq_true h0, decide_eq_true (show n ≤ 24 by omega)]; rfl); clear HR h0
  go_upto_region 1 with fail
  refine Kr.seqStartW ?_
  (refine Kr.seqQ (v := ?_) (a' := ?_) (by rfl) ?_ ?_ ?_; rotate_left 2; (focus (go_simp; first | done | rfl)); (focus ((try simp only [Kr.PT]); first | done | rfl)))
  (refine Kr.seqQ (v := .bool false) (a' := ?_) (by rfl) ?_ ?_ ?_; rotate_left 1; (focus (exact Kr.valOf rfl (strEmpty C0))); (focus ((try simp only [Kr.PT]); first | done | rfl)))
  (refine Kr.seqQ (v := ?_) (a' := ?_) (by rfl) ?_ ?_ ?_; rotate_left 2; (focus (go_simp; first | done | rfl)); (focus ((try simp only [Kr.PT]); first | done | rfl)))
  (refine Kr.seqQ (v := ?_) (a' := ?_) (by rfl) ?_ ?_ ?_; rotate_left 2; (focus (go_simp; first | done | rfl)); (focus ((try simp only [Kr.PT]); first | done | rfl)))
  (refine Kr.seqQ (v := .int .i64 (n : Int)) (a' := ?_) (by rfl) ?_ ?_ ?_; rotate_left 1; (focus (exact Kr.valOf rfl ((by rw [← HN.out]; go_simp)))); (focus ((try simp only [Kr.PT]); first | done | rfl)))
  (refine Kr.seqQ (v := .bool false) (a' := ?_) (by rfl) ?_ ?_ ?_; rotate_left 1; (focus (exact Kr.valOf rfl (gtrI C1))); (focus ((try simp only [Kr.PT]); first | done | rfl)))
  (refine Kr.seqQ (v := ?_) (a' := ?_) (by rfl) ?_ ?_ ?_; rotate_left 2; (focus (go_simp; first | done | rfl)); (focus ((try simp only [Kr.PT]); first | done | rfl)))
  refine Kr.seqDoneW ?_
  go_upto_region 3 with fail
  refine Kr.seqStartW ?_
  (refine Kr.seqQ (v := ?_) (a' := ?_) (by rfl) ?_ ?_ ?_; rotate_left 2; (focus (go_simp; first | done | rfl)); (focus ((try simp only [Kr.PT]); first | done | rfl)))
  refine Kr.seqR (by rfl) (fun K hK => ?_)
  obtain ⟨cap, y1, bs, hbk, hrun, hcp, hba, hgr⟩ := conv_str w s
  refine wp_runV rfl hrun ?_
  have HB := Lib.hid hba; have HBc := Lib.hid hcp; clear hrun hbk hba hcp
  replace H := H.grow hgr
  clear hgr
  (refine Kr.outS hK (a' := ?_) ?_ ?_; rotate_left; (focus ((try simp only [Kr.PT]); first | done | rfl))); clear hK K
  (refine Kr.seqQ (v := .int .i64 (n : Int)) (a' := ?_) (by rfl) ?_ ?_ ?_; rotate_left 1; (focus (exact Kr.valOf rfl ((by rw [← HN.out]; go_simp)))); (focus ((try simp only [Kr.PT]); first | done | rfl)))
  (refine Kr.seqQ (v := ?_) (a' := ?_) (by rfl) ?_ ?_ ?_; rotate_left 2; (focus (go_simp; first | done | rfl)); (focus ((try simp only [Kr.PT]); first | done | rfl)))
  refine Kr.seqDoneW ?_
  rw [HSS.out] at HB; clear C0 C1
  have H2 := Lib.hid H; clear H
  go_wp2_with fail
  go_loopw [15] (fun iv wr => ∃ (j : Nat), j ≤ n ∧ iv = .int .i64 (j : Int) ∧ Hid ((S.take j).all okc = true) ∧ Hid (BytesAt bs 0 S wr) ∧ Hid (Ow w wr [])) (fun iv _ => (n - (intOf iv).toNat))
  case atStart => exact ⟨0, by omega, rfl, Lib.hid rfl, HB, H2⟩
  case round =>
    clear H2 HB; obtain ⟨j, hj, rfl, HAL, HB, HH⟩ := hrel; have H := HH.out; clear HH
    by_cases hje : j = n
    · have C4 : decide ((j : Int) < (n : Int)) = false := decide_eq_false (by omega)
      have hr : R = true := by rw [HR2.out, ← HAL.out, List.take_of_length_le (by omega)]
      subst hr; clear hje
      go_upto_region 4 with fail
      refine Kr.seqStartW ?_
      (refine Kr.seqQ (v := .bool false) (a' := ?_) (by rfl) ?_ ?_ ?_; rotate_left 1; (focus (exact Kr.valOf rfl (lssT C4))); (focus ((try simp only [Kr.PT]); first | done | rfl)))
      refine Kr.seqDoneW ?_
      go_upto_region 9 with fail
      refine Kr.seqStartW ?_
      (refine Kr.seqQ (v := ?_) (a' := ?_) (by rfl) ?_ ?_ ?_; rotate_left 2; (focus (go_simp; first | done | rfl)); (focus ((try simp only [Kr.PT]); first | done | rfl)))
      refine Kr.seqDoneW ?_
      have hk := trivial
      go_wp2
      refine bodyPost_ret (v := .bool true) (by simp [results, Tryd.results24, go_sem, hk]) rfl ⟨rfl, H.g⟩
    have hjl : j < n := by omega
    have hjs : j < s.size := by rw [HN.out]; exact hjl
    have C4 : decide ((j : Int) < (n : Int)) = true := decide_eq_true (by omega)
    clear hje
    obtain ⟨x, hx⟩ : ∃ x, S[j]? = some x := ⟨_, List.getElem?_eq_getElem (by omega)⟩; have HX := Lib.hid hx; clear hx
    go_upto_region 4 with fail
    refine Kr.seqStartW ?_
    (refine Kr.seqQ (v := .bool true) (a' := ?_) (by rfl) ?_ ?_ ?_; rotate_left 1; (focus (exact Kr.valOf rfl (lssT C4))); (focus ((try simp only [Kr.PT]); first | done | rfl)))
    refine Kr.seqDoneW ?_
    go_upto_region 5 with fail
    refine Kr.seqStartW ?_
    (refine Kr.seqQ (v := .pointer (some ⟨bs, 0 + j, none⟩)) (a' := ?_) (by rfl) ?_ ?_ ?_; rotate_left 1; (focus (exact Kr.valOf rfl (ixB hjs))); (focus ((try simp only [Kr.PT]); first | done | rfl)))
    (refine Kr.seqQ (v := .int .u8 ((x).toNat : Int)) (a' := ?_) (by rfl) ?_ ?_ ?_; rotate_left 1; (focus (exact Kr.valOf rfl (ldE8 (HB.out j x HX.out)))); (focus ((try simp only [Kr.PT]); first | done | rfl)))
    (refine Kr.seqQ (v := ?_) (a' := ?_) (by rfl) ?_ ?_ ?_; rotate_left 2; (focus (go_simp; first | done | rfl)); (focus ((try simp only [Kr.PT]); first | done | rfl)))
    refine Kr.seqDoneW ?_
    by_cases h33 : x.toNat < 33
    · have C5 : decide ((x.toNat : Int) < 33) = true := decide_eq_true (by omega)
      have hr : R = false := by rw [HR2.out]; exact List.all_eq_false.2 ⟨x, List.mem_of_getElem? HX.out, by simp only [okc, decide_eq_false (show ¬ 33 ≤ x.toNat by omega), Bool.false_and, Bool.and_false]; decide⟩
      subst hr
      go_upto_region 6 with fail
      refine Kr.seqStartW ?_
      (refine Kr.seqQ (v := ?_) (a' := ?_) (by rfl) ?_ ?_ ?_; rotate_left 2; (focus (go_simp; first | done | rfl)); (focus ((try simp only [Kr.PT]); first | done | rfl)))
      (refine Kr.seqQ (v := .bool true) (a' := ?_) (by rfl) ?_ ?_ ?_; rotate_left 1; (focus (exact Kr.valOf rfl (lssB C5))); (focus ((try simp only [Kr.PT]); first | done | rfl)))
      (refine Kr.seqQ (v := ?_) (a' := ?_) (by rfl) ?_ ?_ ?_; rotate_left 2; (focus (go_simp; first | done | rfl)); (focus ((try simp only [Kr.PT]); first | done | rfl)))
      (refine Kr.seqSkipQ (a' := ?_) (by rfl) ?_ ?_; rotate_left; (focus ((try simp only [Kr.PT]); first | done | rfl)))
      (refine Kr.seqSkipQ (a' := ?_) (by rfl) ?_ ?_; rotate_left; (focus ((try simp only [Kr.PT]); first | done | rfl)))
      (refine Kr.seqQ (v := ?_) (a' := ?_) (by rfl) ?_ ?_ ?_; rotate_left 2; (focus (go_simp; first | done | rfl)); (focus ((try simp only [Kr.PT]); first | done | rfl)))
      refine Kr.seqDoneW ?_
      go_upto_region 7 with fail
      refine Kr.seqStartW ?_
      (refine Kr.seqQ (v := ?_) (a' := ?_) (by rfl) ?_ ?_ ?_; rotate_left 2; (focus (go_simp; first | done | rfl)); (focus ((try simp only [Kr.PT]); first | done | rfl)))
      refine Kr.seqDoneW ?_
      have hk := trivial
      go_wp2
      refine bodyPost_ret (v := .bool false) (by simp [results, Tryd.results24, go_sem, hk]) rfl ⟨rfl, H.g⟩
    have C5 : decide ((x.toNat : Int) < 33) = false := decide_eq_false (by omega)
    by_cases h126 : 126 < x.toNat
    · have C6 : decide ((126 : Int) < (x.toNat : Int)) = true := decide_eq_true (by omega)
      have hr : R = false := by rw [HR2.out]; exact List.all_eq_false.2 ⟨x, List.mem_of_getElem? HX.out, by simp only [okc, decide_eq_false (show ¬ x.toNat ≤ 126 by omega), Bool.false_and, Bool.and_false]; decide⟩
      subst hr
      go_upto_region 6 with fail
      refine Kr.seqStartW ?_
      (refine Kr.seqQ (v := ?_) (a' := ?_) (by rfl) ?_ ?_ ?_; rotate_left 2; (focus (go_simp; first | done | rfl)); (focus ((try simp only [Kr.PT]); first | done | rfl)))
      (refine Kr.seqQ (v := .bool false) (a' := ?_) (by rfl) ?_ ?_ ?_; rotate_left 1; (focus (exact Kr.valOf rfl (lssB C5))); (focus ((try simp only [Kr.PT]); first | done | rfl)))
      (refine Kr.seqQ (v := ?_) (a' := ?_) (by rfl) ?_ ?_ ?_; rotate_left 2; (focus (go_simp; first | done | rfl)); (focus ((try simp only [Kr.PT]); first | done | rfl)))
      (refine Kr.seqQ (v := ?_) (a' := ?_) (by rfl) ?_ ?_ ?_; rotate_left 2; (focus (go_simp; first | done | rfl)); (focus ((try simp only [Kr.PT]); first | done | rfl)))
      (refine Kr.seqQ (v := .bool true) (a' := ?_) (by rfl) ?_ ?_ ?_; rotate_left 1; (focus (exact Kr.valOf rfl (gtrB C6))); (focus ((try simp only [Kr.PT]); first | done | rfl)))
      (refine Kr.seqQ (v := ?_) (a' := ?_) (by rfl) ?_ ?_ ?_; rotate_left 2; (focus (go_simp; first | done | rfl)); (focus ((try simp only [Kr.PT]); first | done | rfl)))
      refine Kr.seqDoneW ?_
      go_upto_region 7 with fail
      refine Kr.seqStartW ?_
      (refine Kr.seqQ (v := ?_) (a' := ?_) (by rfl) ?_ ?_ ?_; rotate_left 2; (focus (go_simp; first | done | rfl)); (focus ((try simp only [Kr.PT]); first | done | rfl)))
      refine Kr.seqDoneW ?_
      have hk := trivial
      go_wp2
      refine bodyPost_ret (v := .bool false) (by simp [results, Tryd.results24, go_sem, hk]) rfl ⟨rfl, H.g⟩
    · have C6 : decide ((126 : Int) < (x.toNat : Int)) = false := decide_eq_false (by omega)
      have HAL2 : Hid ((S.take (j + 1)).all okc = true) := Lib.hid (by rw [List.take_add_one, HX.out, List.all_append, HAL.out]; simp only [Option.toList_some, List.all_cons, List.all_nil, okc, decide_eq_true (show 33 ≤ x.toNat by omega), decide_eq_true (show x.toNat ≤ 126 by omega)]; rfl); clear h33 h126
      go_upto_region 6 with fail
      refine Kr.seqStartW ?_
      (refine Kr.seqQ (v := ?_) (a' := ?_) (by rfl) ?_ ?_ ?_; rotate_left 2; (focus (go_simp; first | done | rfl)); (focus ((try simp only [Kr.PT]); first | done | rfl)))
      (refine Kr.seqQ (v := .bool false) (a' := ?_) (by rfl) ?_ ?_ ?_; rotate_left 1; (focus (exact Kr.valOf rfl (lssB C5))); (focus ((try simp only [Kr.PT]); first | done | rfl)))
      (refine Kr.seqQ (v := ?_) (a' := ?_) (by rfl) ?_ ?_ ?_; rotate_left 2; (focus (go_simp; first | done | rfl)); (focus ((try simp only [Kr.PT]); first | done | rfl)))
      (refine Kr.seqQ (v := ?_) (a' := ?_) (by rfl) ?_ ?_ ?_; rotate_left 2; (focus (go_simp; first | done | rfl)); (focus ((try simp only [Kr.PT]); first | done | rfl)))
      (refine Kr.seqQ (v := .bool false) (a' := ?_) (by rfl) ?_ ?_ ?_; rotate_left 1; (focus (exact Kr.valOf rfl (gtrB C6))); (focus ((try simp only [Kr.PT]); first | done | rfl)))
      (refine Kr.seqQ (v := ?_) (a' := ?_) (by rfl) ?_ ?_ ?_; rotate_left 2; (focus (go_simp; first | done | rfl)); (focus ((try simp only [Kr.PT]); first | done | rfl)))
      refine Kr.seqDoneW ?_
      have HADD : IntKind.i64.wrap ((j : Int) + 1) = ((j + 1 : Nat) : Int) := wrap_nat (by omega) (by omega)
      go_upto_region 8 with fail
      refine Kr.seqStartW ?_
      (refine Kr.seqQ (v := .int .i64 ((j + 1 : Nat) : Int)) (a' := ?_) (by rfl) ?_ ?_ ?_; rotate_left 1; (focus (exact Kr.valOf rfl (addI HADD))); (focus ((try simp only [Kr.PT]); first | done | rfl)))
      (refine Kr.seqQ (v := ?_) (a' := ?_) (by rfl) ?_ ?_ ?_; rotate_left 2; (focus (go_simp; first | done | rfl)); (focus ((try simp only [Kr.PT]); first | done | rfl)))
      refine Kr.seqDoneW ?_
      go_wp2; go_roundw
      case rel =>
        first
        | exact ⟨j + 1, by omega, rfl, HAL2, HB, Lib.hid H⟩
        | (repeat apply Exists.intro); exact ⟨⟨j + 1, by omega, rfl, HAL2, HB, Lib.hid H⟩, rfl⟩
        | (repeat apply Exists.intro); refine ⟨⟨j + 1, by omega, rfl, HAL2, HB, Lib.hid H⟩, ?_⟩; refine ⟨?_, ?_⟩ <;> (repeat apply And.intro) <;> rfl
      case measure => simp [intOf]; omega
set_option linter.unusedSimpArgs false in
set_option maxRecDepth 100000 in
set_option maxHeartbeats 16000000 in
theorem rLabel_v {s : ByteArray} {w : World} :
    Calls Tryd.prog 11 #[.string s] w fun e w' => e = .returned (.bool (isL s)) ∧ Gr w w' := by
  obtain ⟨S, hS⟩ : ∃ z, s8 s = z := ⟨_, rfl⟩; obtain ⟨n, hn⟩ : ∃ z, s.size = z := ⟨_, rfl⟩; have hSl : S.length = n := by rw [← hS, s8_length, hn]
  have HRR : isL s = (decide (n ≠ 0) && (decide (n ≤ 24) && S.all okc)) := by rw [isL, hS, hn]
  obtain ⟨R, hR⟩ : ∃ z, isL s = z := ⟨_, rfl⟩; rw [hR] at HRR ⊢; have HR := Lib.hid HRR; have HSS := Lib.hid hS; have HN := Lib.hid hn; clear HRR hR hS hn
  have H := Ow.start w
  go_enter Tryd.func11, Tryd.ntmps11
  go_upto_region 0 with fail
  refine Kr.seqStartW ?_
  (refine Kr.seqQ (v := ?_) (a' := ?_) (by rfl) ?_ ?_ ?_; rotate_left 2; (focus (go_simp; first | done | rfl)); (focus ((try simp only [Kr.PT]); first | done | rfl)))
  refine Kr.seqDoneW ?_
  by_cases h0 : n = 0
  · have C0 : decide ((n : Int) < 1) = true := decide_eq_true (by omega)
    go_upto_region 1 with fail
    refine Kr.seqStartW ?_
    (refine Kr.seqQ (v := ?_) (a' := ?_) (by rfl) ?_ ?_ ?_; rotate_left 2; (focus (go_simp; first | done | rfl)); (focus ((try simp only [Kr.PT]); first | done | rfl)))
    (refine Kr.seqQ (v := .int .i64 (n : Int)) (a' := ?_) (by rfl) ?_ ?_ ?_; rotate_left 1; (focus (exact Kr.valOf rfl ((by rw [← HN.out]; go_simp)))); (focus ((try simp only [Kr.PT]); first | done | rfl)))
    (refine Kr.seqQ (v := .bool true) (a' := ?_) (by rfl) ?_ ?_ ?_; rotate_left 1; (focus (exact Kr.valOf rfl (lssT C0))); (focus ((try simp only [Kr.PT]); first | done | rfl)))
    (refine Kr.seqQ (v := ?_) (a' := ?_) (by rfl) ?_ ?_ ?_; rotate_left 2; (focus (go_simp; first | done | rfl)); (focus ((try simp only [Kr.PT]); first | done | rfl)))
    (refine Kr.seqSkipQ (a' := ?_) (by rfl) ?_ ?_; rotate_left; (focus ((try simp only [Kr.PT]); first | done | rfl)))
    (refine Kr.seqSkipQ (a' := ?_) (by rfl) ?_ ?_; rotate_left; (focus ((try simp only [Kr.PT]); first | done | rfl)))
    (refine Kr.seqSkipQ (a' := ?_) (by rfl) ?_ ?_; rotate_left; (focus ((try simp only [Kr.PT]); first | done | rfl)))
    (refine Kr.seqQ (v := ?_) (a' := ?_) (by rfl) ?_ ?_ ?_; rotate_left 2; (focus (go_simp; first | done | rfl)); (focus ((try simp only [Kr.PT]); first | done | rfl)))
    refine Kr.seqDoneW ?_
    have hr : R = false := by rw [HR.out]; simp [h0]
    subst hr
    go_upto_region 2 with fail
    refine Kr.seqStartW ?_
    (refine Kr.seqQ (v := ?_) (a' := ?_) (by rfl) ?_ ?_ ?_; rotate_left 2; (focus (go_simp; first | done | rfl)); (focus ((try simp only [Kr.PT]); first | done | rfl)))
    refine Kr.seqDoneW ?_
    have hk := trivial
    go_wp2
    refine bodyPost_ret (v := .bool false) (by simp [results, Tryd.results11, go_sem, hk]) rfl ⟨rfl, H.g⟩
  have C0 : decide ((n : Int) < 1) = false := decide_eq_false (by omega)
  by_cases h24 : 24 < n
  · have C1 : decide ((24 : Int) < (n : Int)) = true := decide_eq_true (by omega)
    go_upto_region 1 with fail
    refine Kr.seqStartW ?_
    (refine Kr.seqQ (v := ?_) (a' := ?_) (by rfl) ?_ ?_ ?_; rotate_left 2; (focus (go_simp; first | done | rfl)); (focus ((try simp only [Kr.PT]); first | done | rfl)))
    (refine Kr.seqQ (v := .int .i64 (n : Int)) (a' := ?_) (by rfl) ?_ ?_ ?_; rotate_left 1; (focus (exact Kr.valOf rfl ((by rw [← HN.out]; go_simp)))); (focus ((try simp only [Kr.PT]); first | done | rfl)))
    (refine Kr.seqQ (v := .bool false) (a' := ?_) (by rfl) ?_ ?_ ?_; rotate_left 1; (focus (exact Kr.valOf rfl (lssT C0))); (focus ((try simp only [Kr.PT]); first | done | rfl)))
    (refine Kr.seqQ (v := ?_) (a' := ?_) (by rfl) ?_ ?_ ?_; rotate_left 2; (focus (go_simp; first | done | rfl)); (focus ((try simp only [Kr.PT]); first | done | rfl)))
    (refine Kr.seqQ (v := ?_) (a' := ?_) (by rfl) ?_ ?_ ?_; rotate_left 2; (focus (go_simp; first | done | rfl)); (focus ((try simp only [Kr.PT]); first | done | rfl)))
    (refine Kr.seqQ (v := .int .i64 (n : Int)) (a' := ?_) (by rfl) ?_ ?_ ?_; rotate_left 1; (focus (exact Kr.valOf rfl ((by rw [← HN.out]; go_simp)))); (focus ((try simp only [Kr.PT]); first | done | rfl)))
    (refine Kr.seqQ (v := .bool true) (a' := ?_) (by rfl) ?_ ?_ ?_; rotate_left 1; (focus (exact Kr.valOf rfl (gtrI C1))); (focus ((try simp only [Kr.PT]); first | done | rfl)))
    (refine Kr.seqQ (v := ?_) (a' := ?_) (by rfl) ?_ ?_ ?_; rotate_left 2; (focus (go_simp; first | done | rfl)); (focus ((try simp only [Kr.PT]); first | done | rfl)))
    refine Kr.seqDoneW ?_
    have hr : R = false := by rw [HR.out]; simp only [decide_eq_false (show ¬ n ≤ 24 by omega), Bool.false_and, Bool.and_false]
    subst hr
    go_upto_region 2 with fail
    refine Kr.seqStartW ?_
    (refine Kr.seqQ (v := ?_) (a' := ?_) (by rfl) ?_ ?_ ?_; rotate_left 2; (focus (go_simp; first | done | rfl)); (focus ((try simp only [Kr.PT]); first | done | rfl)))
    refine Kr.seqDoneW ?_
    have hk := trivial
    go_wp2
    refine bodyPost_ret (v := .bool false) (by simp [results, Tryd.results11, go_sem, hk]) rfl ⟨rfl, H.g⟩
  have C1 : decide ((24 : Int) < (n : Int)) = false := decide_eq_false (by omega)
  have HR2 : Hid (R = S.all okc) := Lib.hid (by rw [HR.out, decide_eq_true h0, decide_eq_true (show n ≤ 24 by omega)]; rfl); clear HR h0
  go_upto_region 1 with fail
  refine Kr.seqStartW ?_
  (refine Kr.seqQ (v := ?_) (a' := ?_) (by rfl) ?_ ?_ ?_; rotate_left 2; (focus (go_simp; first | done | rfl)); (focus ((try simp only [Kr.PT]); first | done | rfl)))
  (refine Kr.seqQ (v := .int .i64 (n : Int)) (a' := ?_) (by rfl) ?_ ?_ ?_; rotate_left 1; (focus (exact Kr.valOf rfl ((by rw [← HN.out]; go_simp)))); (focus ((try simp only [Kr.PT]); first | done | rfl)))
  (refine Kr.seqQ (v := .bool false) (a' := ?_) (by rfl) ?_ ?_ ?_; rotate_left 1; (focus (exact Kr.valOf rfl (lssT C0))); (focus ((try simp only [Kr.PT]); first | done | rfl)))
  (refine Kr.seqQ (v := ?_) (a' := ?_) (by rfl) ?_ ?_ ?_; rotate_left 2; (focus (go_simp; first | done | rfl)); (focus ((try simp only [Kr.PT]); first | done | rfl)))
  (refine Kr.seqQ (v := ?_) (a' := ?_) (by rfl) ?_ ?_ ?_; rotate_left 2; (focus (go_simp; first | done | rfl)); (focus ((try simp only [Kr.PT]); first | done | rfl)))
  (refine Kr.seqQ (v := .int .i64 (n : Int)) (a' := ?_) (by rfl) ?_ ?_ ?_; rotate_left 1; (focus (exact Kr.valOf rfl ((by rw [← HN.out]; go_simp)))); (focus ((try simp only [Kr.PT]); first | done | rfl)))
  (refine Kr.seqQ (v := .bool false) (a' := ?_) (by rfl) ?_ ?_ ?_; rotate_left 1; (focus (exact Kr.valOf rfl (gtrI C1))); (focus ((try simp only [Kr.PT]); first | done | rfl)))
  (refine Kr.seqQ (v := ?_) (a' := ?_) (by rfl) ?_ ?_ ?_; rotate_left 2; (focus (go_simp; first | done | rfl)); (focus ((try simp only [Kr.PT]); first | done | rfl)))
  refine Kr.seqDoneW ?_
  go_upto_region 3 with fail
  refine Kr.seqStartW ?_
  (refine Kr.seqQ (v := ?_) (a' := ?_) (by rfl) ?_ ?_ ?_; rotate_left 2; (focus (go_simp; first | done | rfl)); (focus ((try simp only [Kr.PT]); first | done | rfl)))
  refine Kr.seqDoneW ?_
  clear C0 C1
  have H2 := Lib.hid H; clear H
  go_wp2_with fail
  go_loopw [3] (fun iv wr => ∃ (j : Nat), j ≤ n ∧ iv = .int .i64 (j : Int) ∧ Hid ((S.take j).all okc = true) ∧ Hid (Ow w wr [])) (fun iv _ => (n - (intOf iv).toNat))
  case atStart => exact ⟨0, by omega, rfl, Lib.hid rfl, H2⟩
  case round =>
    clear H2; obtain ⟨j, hj, rfl, HAL, HH⟩ := hrel; have H := HH.out; clear HH
    by_cases hje : j = n
    · have C4 : decide ((j : Int) < (n : Int)) = false := decide_eq_false (by omega)
      have hr : R = true := by rw [HR2.out, ← HAL.out, List.take_of_length_le (by omega)]
      subst hr; clear hje
      go_upto_region 4 with fail
      refine Kr.seqStartW ?_
      (refine Kr.seqQ (v := ?_) (a' := ?_) (by rfl) ?_ ?_ ?_; rotate_left 2; (focus (go_simp; first | done | rfl)); (focus ((try simp only [Kr.PT]); first | done | rfl)))
      (refine Kr.seqQ (v := ?_) (a' := ?_) (by rfl) ?_ ?_ ?_; rotate_left 2; (focus (go_simp; first | done | rfl)); (focus ((try simp only [Kr.PT]); first | done | rfl)))
      (refine Kr.seqQ (v := .int .i64 (n : Int)) (a' := ?_) (by rfl) ?_ ?_ ?_; rotate_left 1; (focus (exact Kr.valOf rfl ((by rw [← HN.out]; go_simp)))); (focus ((try simp only [Kr.PT]); first | done | rfl)))
      (refine Kr.seqQ (v := .bool false) (a' := ?_) (by rfl) ?_ ?_ ?_; rotate_left 1; (focus (exact Kr.valOf rfl (lssT C4))); (focus ((try simp only [Kr.PT]); first | done | rfl)))
      refine Kr.seqDoneW ?_
      go_upto_region 8 with fail
      refine Kr.seqStartW ?_
      (refine Kr.seqQ (v := ?_) (a' := ?_) (by rfl) ?_ ?_ ?_; rotate_left 2; (focus (go_simp; first | done | rfl)); (focus ((try simp only [Kr.PT]); first | done | rfl)))
      refine Kr.seqDoneW ?_
      have hk := trivial
      go_wp2
      refine bodyPost_ret (v := .bool true) (by simp [results, Tryd.results11, go_sem, hk]) rfl ⟨rfl, H.g⟩
    have hjl : j < n := by omega
    have C4 : decide ((j : Int) < (n : Int)) = true := decide_eq_true (by omega)
    clear hje
    obtain ⟨x, hx⟩ : ∃ x, S[j]? = some x := ⟨_, List.getElem?_eq_getElem (by omega)⟩; have HX := Lib.hid hx; have HX2 := Lib.hid (show (s8 s)[j]? = some x by rw [HSS.out]; exact hx); clear hx
    go_upto_region 4 with fail
    refine Kr.seqStartW ?_
    (refine Kr.seqQ (v := ?_) (a' := ?_) (by rfl) ?_ ?_ ?_; rotate_left 2; (focus (go_simp; first | done | rfl)); (focus ((try simp only [Kr.PT]); first | done | rfl)))
    (refine Kr.seqQ (v := ?_) (a' := ?_) (by rfl) ?_ ?_ ?_; rotate_left 2; (focus (go_simp; first | done | rfl)); (focus ((try simp only [Kr.PT]); first | done | rfl)))
    (refine Kr.seqQ (v := .int .i64 (n : Int)) (a' := ?_) (by rfl) ?_ ?_ ?_; rotate_left 1; (focus (exact Kr.valOf rfl ((by rw [← HN.out]; go_simp)))); (focus ((try simp only [Kr.PT]); first | done | rfl)))
    (refine Kr.seqQ (v := .bool true) (a' := ?_) (by rfl) ?_ ?_ ?_; rotate_left 1; (focus (exact Kr.valOf rfl (lssT C4))); (focus ((try simp only [Kr.PT]); first | done | rfl)))
    refine Kr.seqDoneW ?_
    by_cases h33 : x.toNat < 33
    · have C5 : decide ((x.toNat : Int) < 33) = true := decide_eq_true (by omega)
      have hr : R = false := by rw [HR2.out]; exact List.all_eq_false.2 ⟨x, List.mem_of_getElem? HX.out, by simp only [okc, decide_eq_false (show ¬ 33 ≤ x.toNat by omega), Bool.false_and, Bool.and_false]; decide⟩
      subst hr
      go_upto_region 6 with fail
      refine Kr.seqStartW ?_
      (refine Kr.seqQ (v := ?_) (a' := ?_) (by rfl) ?_ ?_ ?_; rotate_left 2; (focus (go_simp; first | done | rfl)); (focus ((try simp only [Kr.PT]); first | done | rfl)))
      (refine Kr.seqQ (v := ?_) (a' := ?_) (by rfl) ?_ ?_ ?_; rotate_left 2; (focus (go_simp; first | done | rfl)); (focus ((try simp only [Kr.PT]); first | done | rfl)))
      (refine Kr.seqQ (v := .int .u8 ((x).toNat : Int)) (a' := ?_) (by rfl) ?_ ?_ ?_; rotate_left 1; (focus (exact Kr.valOf rfl (atStr HX2.out))); (focus ((try simp only [Kr.PT]); first | done | rfl)))
      (refine Kr.seqQ (v := .bool true) (a' := ?_) (by rfl) ?_ ?_ ?_; rotate_left 1; (focus (exact Kr.valOf rfl (lssB C5))); (focus ((try simp only [Kr.PT]); first | done | rfl)))
      (refine Kr.seqQ (v := ?_) (a' := ?_) (by rfl) ?_ ?_ ?_; rotate_left 2; (focus (go_simp; first | done | rfl)); (focus ((try simp only [Kr.PT]); first | done | rfl)))
      (refine Kr.seqSkipQ (a' := ?_) (by rfl) ?_ ?_; rotate_left; (focus ((try simp only [Kr.PT]); first | done | rfl)))
      (refine Kr.seqSkipQ (a' := ?_) (by rfl) ?_ ?_; rotate_left; (focus ((try simp only [Kr.PT]); first | done | rfl)))
      (refine Kr.seqSkipQ (a' := ?_) (by rfl) ?_ ?_; rotate_left; (focus ((try simp only [Kr.PT]); first | done | rfl)))
      (refine Kr.seqSkipQ (a' := ?_) (by rfl) ?_ ?_; rotate_left; (focus ((try simp only [Kr.PT]); first | done | rfl)))
      (refine Kr.seqQ (v := ?_) (a' := ?_) (by rfl) ?_ ?_ ?_; rotate_left 2; (focus (go_simp; first | done | rfl)); (focus ((try simp only [Kr.PT]); first | done | rfl)))
      refine Kr.seqDoneW ?_
      go_upto_region 7 with fail
      refine Kr.seqStartW ?_
      (refine Kr.seqQ (v := ?_) (a' := ?_) (by rfl) ?_ ?_ ?_; rotate_left 2; (focus (go_simp; first | done | rfl)); (focus ((try simp only [Kr.PT]); first | done | rfl)))
      refine Kr.seqDoneW ?_
      have hk := trivial
      go_wp2
      refine bodyPost_ret (v := .bool false) (by simp [results, Tryd.results11, go_sem, hk]) rfl ⟨rfl, H.g⟩
    have C5 : decide ((x.toNat : Int) < 33) = false := decide_eq_false (by omega)
    by_cases h126 : 126 < x.toNat
    · have C6 : decide ((126 : Int) < (x.toNat : Int)) = true := decide_eq_true (by omega)
      have hr : R = false := by rw [HR2.out]; exact List.all_eq_false.2 ⟨x, List.mem_of_getElem? HX.out, by simp only [okc, decide_eq_false (show ¬ x.toNat ≤ 126 by omega), Bool.false_and, Bool.and_false]; decide⟩
      subst hr
      go_upto_region 6 with fail
      refine Kr.seqStartW ?_
      (refine Kr.seqQ (v := ?_) (a' := ?_) (by rfl) ?_ ?_ ?_; rotate_left 2; (focus (go_simp; first | done | rfl)); (focus ((try simp only [Kr.PT]); first | done | rfl)))
      (refine Kr.seqQ (v := ?_) (a' := ?_) (by rfl) ?_ ?_ ?_; rotate_left 2; (focus (go_simp; first | done | rfl)); (focus ((try simp only [Kr.PT]); first | done | rfl)))
      (refine Kr.seqQ (v := .int .u8 ((x).toNat : Int)) (a' := ?_) (by rfl) ?_ ?_ ?_; rotate_left 1; (focus (exact Kr.valOf rfl (atStr HX2.out))); (focus ((try simp only [Kr.PT]); first | done | rfl)))
      (refine Kr.seqQ (v := .bool false) (a' := ?_) (by rfl) ?_ ?_ ?_; rotate_left 1; (focus (exact Kr.valOf rfl (lssB C5))); (focus ((try simp only [Kr.PT]); first | done | rfl)))
      (refine Kr.seqQ (v := ?_) (a' := ?_) (by rfl) ?_ ?_ ?_; rotate_left 2; (focus (go_simp; first | done | rfl)); (focus ((try simp only [Kr.PT]); first | done | rfl)))
      (refine Kr.seqQ (v := ?_) (a' := ?_) (by rfl) ?_ ?_ ?_; rotate_left 2; (focus (go_simp; first | done | rfl)); (focus ((try simp only [Kr.PT]); first | done | rfl)))
      (refine Kr.seqQ (v := ?_) (a' := ?_) (by rfl) ?_ ?_ ?_; rotate_left 2; (focus (go_simp; first | done | rfl)); (focus ((try simp only [Kr.PT]); first | done | rfl)))
      (refine Kr.seqQ (v := .int .u8 ((x).toNat : Int)) (a' := ?_) (by rfl) ?_ ?_ ?_; rotate_left 1; (focus (exact Kr.valOf rfl (atStr HX2.out))); (focus ((try simp only [Kr.PT]); first | done | rfl)))
      (refine Kr.seqQ (v := .bool true) (a' := ?_) (by rfl) ?_ ?_ ?_; rotate_left 1; (focus (exact Kr.valOf rfl (gtrB C6))); (focus ((try simp only [Kr.PT]); first | done | rfl)))
      (refine Kr.seqQ (v := ?_) (a' := ?_) (by rfl) ?_ ?_ ?_; rotate_left 2; (focus (go_simp; first | done | rfl)); (focus ((try simp only [Kr.PT]); first | done | rfl)))
      refine Kr.seqDoneW ?_
      go_upto_region 7 with fail
      refine Kr.seqStartW ?_
      (refine Kr.seqQ (v := ?_) (a' := ?_) (by rfl) ?_ ?_ ?_; rotate_left 2; (focus (go_simp; first | done | rfl)); (focus ((try simp only [Kr.PT]); first | done | rfl)))
      refine Kr.seqDoneW ?_
      have hk := trivial
      go_wp2
      refine bodyPost_ret (v := .bool false) (by simp [results, Tryd.results11, go_sem, hk]) rfl ⟨rfl, H.g⟩
    · have C6 : decide ((126 : Int) < (x.toNat : Int)) = false := decide_eq_false (by omega)
      have HAL2 : Hid ((S.take (j + 1)).all okc = true) := Lib.hid (by rw [List.take_add_one, HX.out, List.all_append, HAL.out]; simp only [Option.toList_some, List.all_cons, List.all_nil, okc, decide_eq_true (show 33 ≤ x.toNat by omega), decide_eq_true (show x.toNat ≤ 126 by omega)]; rfl); clear h33 h126
      go_upto_region 6 with fail
      refine Kr.seqStartW ?_
      (refine Kr.seqQ (v := ?_) (a' := ?_) (by rfl) ?_ ?_ ?_; rotate_left 2; (focus (go_simp; first | done | rfl)); (focus ((try simp only [Kr.PT]); first | done | rfl)))
      (refine Kr.seqQ (v := ?_) (a' := ?_) (by rfl) ?_ ?_ ?_; rotate_left 2; (focus (go_simp; first | done | rfl)); (focus ((try simp only [Kr.PT]); first | done | rfl)))
      (refine Kr.seqQ (v := .int .u8 ((x).toNat : Int)) (a' := ?_) (by rfl) ?_ ?_ ?_; rotate_left 1; (focus (exact Kr.valOf rfl (atStr HX2.out))); (focus ((try simp only [Kr.PT]); first | done | rfl)))
      (refine Kr.seqQ (v := .bool false) (a' := ?_) (by rfl) ?_ ?_ ?_; rotate_left 1; (focus (exact Kr.valOf rfl (lssB C5))); (focus ((try simp only [Kr.PT]); first | done | rfl)))
      (refine Kr.seqQ (v := ?_) (a' := ?_) (by rfl) ?_ ?_ ?_; rotate_left 2; (focus (go_simp; first | done | rfl)); (focus ((try simp only [Kr.PT]); first | done | rfl)))
      (refine Kr.seqQ (v := ?_) (a' := ?_) (by rfl) ?_ ?_ ?_; rotate_left 2; (focus (go_simp; first | done | rfl)); (focus ((try simp only [Kr.PT]); first | done | rfl)))
      (refine Kr.seqQ (v := ?_) (a' := ?_) (by rfl) ?_ ?_ ?_; rotate_left 2; (focus (go_simp; first | done | rfl)); (focus ((try simp only [Kr.PT]); first | done | rfl)))
      (refine Kr.seqQ (v := .int .u8 ((x).toNat : Int)) (a' := ?_) (by rfl) ?_ ?_ ?_; rotate_left 1; (focus (exact Kr.valOf rfl (atStr HX2.out))); (focus ((try simp only [Kr.PT]); first | done | rfl)))
      (refine Kr.seqQ (v := .bool false) (a' := ?_) (by rfl) ?_ ?_ ?_; rotate_left 1; (focus (exact Kr.valOf rfl (gtrB C6))); (focus ((try simp only [Kr.PT]); first | done | rfl)))
      (refine Kr.seqQ (v := ?_) (a' := ?_) (by rfl) ?_ ?_ ?_; rotate_left 2; (focus (go_simp; first | done | rfl)); (focus ((try simp only [Kr.PT]); first | done | rfl)))
      refine Kr.seqDoneW ?_
      have HADD : IntKind.i64.wrap ((j : Int) + 1) = ((j + 1 : Nat) : Int) := wrap_nat (by omega) (by omega)
      go_upto_region 5 with fail
      refine Kr.seqStartW ?_
      (refine Kr.seqQ (v := ?_) (a' := ?_) (by rfl) ?_ ?_ ?_; rotate_left 2; (focus (go_simp; first | done | rfl)); (focus ((try simp only [Kr.PT]); first | done | rfl)))
      (refine Kr.seqQ (v := .int .i64 ((j + 1 : Nat) : Int)) (a' := ?_) (by rfl) ?_ ?_ ?_; rotate_left 1; (focus (exact Kr.valOf rfl (addI HADD))); (focus ((try simp only [Kr.PT]); first | done | rfl)))
      (refine Kr.seqQ (v := ?_) (a' := ?_) (by rfl) ?_ ?_ ?_; rotate_left 2; (focus (go_simp; first | done | rfl)); (focus ((try simp only [Kr.PT]); first | done | rfl)))
      refine Kr.seqDoneW ?_
      go_wp2; go_roundw
      case rel =>
        first
        | exact ⟨j + 1, by omega, rfl, HAL2, Lib.hid H⟩
        | (repeat apply Exists.intro); exact ⟨⟨j + 1, by omega, rfl, HAL2, Lib.hid H⟩, rfl⟩
        | (repeat apply Exists.intro); refine ⟨⟨j + 1, by omega, rfl, HAL2, Lib.hid H⟩, ?_⟩; refine ⟨?_, ?_⟩ <;> (repeat apply And.intro) <;> rfl
      case measure => simp [intOf]; omega
end Go.Proofs.YtldgjhmefaapeaaDoor.Dg
