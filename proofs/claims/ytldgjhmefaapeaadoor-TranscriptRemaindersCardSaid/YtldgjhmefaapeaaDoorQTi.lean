/- TranscriptRemainders. -/
import Derived.Test.YtldgjhmefaapeaaDoorQTh
import Derived.Deep.Cut
namespace Go.Proofs.YtldgjhmefaapeaaDoor.Dg
open Go Go.RowKit Go.Proofs.YtldgjhmefaapeaaDoor.Ne Go.Proofs.YtldgjhmefaapeaaDoor.Kr

theorem lssU {w : World} {x y : Int} {b : Bool} (h : decide (x < y) = b) : (binOp .lss 38 (.int .u32 x) (.int .u32 y)).run Tryd.prog w = .ok (.bool b) w := by
  go_simp
theorem geqU {w : World} {x y : Int} {b : Bool} (h : decide (y ≤ x) = b) : (binOp .geq 38 (.int .u32 x) (.int .u32 y)).run Tryd.prog w = .ok (.bool b) w := by
  go_simp
/-- What Challenge answers: a state, a count, a number, an error. -/
def ChP (st : List (BitVec 8)) (c : Int) (lb : ByteArray) (q : Nat) (S : List (BitVec 8)) (c2 z e : Int) : Prop :=
  S.length = 32 ∧ ((S = zH ∧ c2 = 0 ∧ z = 0 ∧ ((e = 1 ∧ (okT c = false ∨ isL lb = false)) ∨ (e = 5 ∧ okT c = true ∧ isL lb = true ∧ c = 1000))) ∨ (e = 0 ∧ okT c = true ∧ isL lb = true ∧ ¬ c = 1000 ∧ S = chS st lb q ∧ c2 = c + 1 ∧ z = chal st lb q))
theorem Chal_v {st : List (BitVec 8)} {c : Int} {lb : ByteArray} {q : Nat} {w : World} (hst : st.length = 32) (hC : Con w) (hT : Sta0 w) (hq1 : 2 ≤ q) (hq2 : q < 2305843009213693952) :
    Calls Tryd.prog 7 #[.agg (tr st c).toArray, .string lb, .int .i64 (q : Int)] w fun o w' => ∃ S c2 z e, o = .returned (.tuple #[.agg (tr S c2).toArray, .int .i64 z, .int .i64 e]) ∧ ChP st c lb q S c2 z e ∧ Gr w w' := by
  cases hc : okT c with
  | false => exact (Chal_bad hst (.inl hc)).mono fun o w' ⟨h1, h2⟩ => ⟨zH, 0, 0, 1, h1, ⟨zH_length, .inl ⟨rfl, rfl, rfl, .inl ⟨rfl, .inl hc⟩⟩⟩, h2⟩
  | true =>
    cases hl : isL lb with
    | false => exact (Chal_bad hst (.inr hl)).mono fun o w' ⟨h1, h2⟩ => ⟨zH, 0, 0, 1, h1, ⟨zH_length, .inl ⟨rfl, rfl, rfl, .inl ⟨rfl, .inr hl⟩⟩⟩, h2⟩
    | true =>
      by_cases hf : c = 1000
      · exact (Chal_full hst hc hl hC hT hq1 hq2 hf).mono fun o w' ⟨h1, h2⟩ => ⟨zH, 0, 0, 5, h1, ⟨zH_length, .inl ⟨rfl, rfl, rfl, .inr ⟨rfl, hc, hl, hf⟩⟩⟩, h2⟩
      · exact (Chal_ok hst hc hl hC hT hq1 hq2 hf).mono fun o w' ⟨h1, h2⟩ => ⟨_, _, _, 0, h1, ⟨chS_length _ _ _, .inr ⟨rfl, hc, hl, hf, rfl, rfl, rfl⟩⟩, h2⟩

set_option linter.unusedSimpArgs false in
set_option maxRecDepth 100000 in
set_option maxHeartbeats 16000000 in
theorem rem_triv {st : List (BitVec 8)} {c : Int} {lb : ByteArray} {q k : Nat} {w : World} (hC : Con w) (hT : Sta0 w) (h : 100 < lb.size ∨ q < 2 ∨ 1073741824 ≤ q ∨ k < 1 ∨ 1073741824 ≤ k) :
    Calls Tryd.prog 4 #[.agg (tr st c).toArray, .string lb, .int .u32 (q : Int), .int .u32 (k : Int)] w fun e w' => e = .returned (.bool true) ∧ Gr w w' := by
  have HCN := Lib.hid hC; have HT0 := Lib.hid hT; clear hC hT
  have H := Ow.start w
  go_enter Tryd.func4, Tryd.ntmps4
  go_upto_region 0 with fail
  refine Kr.seqStartW ?_
  refine Kr.seqR (by rfl) (fun K hK => ?_)
  refine wp_runV rfl boxT ?_
  obtain ⟨y1, hy⟩ : ∃ y, w.alloc (.cells (tr st c).toArray 25) = y := ⟨_, rfl⟩
  obtain ⟨bt, hb⟩ : ∃ b, w.heap.size = b := ⟨_, rfl⟩
  rw [hy, hb]
  have hg : Gr w y1 := hy ▸ (Gr.refl _).alloc _
  replace H := H.alloc hy hb
  clear hy hb hg
  (refine Kr.outS hK (a' := ?_) ?_ ?_; rotate_left; (focus ((try simp only [Kr.PT]); first | done | rfl))); clear hK K
  (refine Kr.seqQ (v := ?_) (a' := ?_) (by rfl) ?_ ?_ ?_; rotate_left 2; (focus (go_simp; first | done | rfl)); (focus ((try simp only [Kr.PT]); first | done | rfl)))
  refine Kr.seqDoneW ?_
  go_upto_region 1 with fail
  refine Kr.seqStartW ?_
  refine Kr.seqR (by rfl) (fun K hK => ?_)
  go_simp
  go_at_call 6
  refine (awake_v (HCN.out.grow H.g) (HT0.out.grow H.g)).mono ?_
  rintro e y2 ⟨rfl, hg⟩
  replace H := H.grow hg
  clear hg
  (refine Kr.outS hK (a' := ?_) ?_ ?_; rotate_left; (focus ((try simp only [Kr.PT]); first | done | rfl))); clear hK K
  (refine Kr.seqQ (v := ?_) (a' := ?_) (by rfl) ?_ ?_ ?_; rotate_left 2; (focus (go_simp; first | done | rfl)); (focus ((try simp only [Kr.PT]); first | done | rfl)))
  refine Kr.seqDoneW ?_
  by_cases h1 : 100 < lb.size
  · have C1 : decide ((100 : Int) < (lb.size : Int)) = true := decide_eq_true (by omega)
    go_upto_region 3 with fail
    refine Kr.seqStartW ?_
    (refine Kr.seqQ (v := ?_) (a' := ?_) (by rfl) ?_ ?_ ?_; rotate_left 2; (focus (go_simp; first | done | rfl)); (focus ((try simp only [Kr.PT]); first | done | rfl)))
    (refine Kr.seqQ (v := .int .i64 (lb.size : Int)) (a' := ?_) (by rfl) ?_ ?_ ?_; rotate_left 1; (focus (exact Kr.valOf rfl ((by go_simp)))); (focus ((try simp only [Kr.PT]); first | done | rfl)))
    (refine Kr.seqQ (v := .bool true) (a' := ?_) (by rfl) ?_ ?_ ?_; rotate_left 1; (focus (exact Kr.valOf rfl (gtrI C1))); (focus ((try simp only [Kr.PT]); first | done | rfl)))
    (refine Kr.seqQ (v := ?_) (a' := ?_) (by rfl) ?_ ?_ ?_; rotate_left 2; (focus (go_simp; first | done | rfl)); (focus ((try simp only [Kr.PT]); first | done | rfl)))
    (refine Kr.seqSkipQ (a' := ?_) (by rfl) ?_ ?_; rotate_left; (focus ((try simp only [Kr.PT]); first | done | rfl)))
    (refine Kr.seqSkipQ (a' := ?_) (by rfl) ?_ ?_; rotate_left; (focus ((try simp only [Kr.PT]); first | done | rfl)))
    (refine Kr.seqQ (v := ?_) (a' := ?_) (by rfl) ?_ ?_ ?_; rotate_left 2; (focus (go_simp; first | done | rfl)); (focus ((try simp only [Kr.PT]); first | done | rfl)))
    (refine Kr.seqQ (v := ?_) (a' := ?_) (by rfl) ?_ ?_ ?_; rotate_left 2; (focus (go_simp; first | done | rfl)); (focus ((try simp only [Kr.PT]); first | done | rfl)))
    (refine Kr.seqSkipQ (a' := ?_) (by rfl) ?_ ?_; rotate_left; (focus ((try simp only [Kr.PT]); first | done | rfl)))
    (refine Kr.seqSkipQ (a' := ?_) (by rfl) ?_ ?_; rotate_left; (focus ((try simp only [Kr.PT]); first | done | rfl)))
    (refine Kr.seqQ (v := ?_) (a' := ?_) (by rfl) ?_ ?_ ?_; rotate_left 2; (focus (go_simp; first | done | rfl)); (focus ((try simp only [Kr.PT]); first | done | rfl)))
    (refine Kr.seqQ (v := ?_) (a' := ?_) (by rfl) ?_ ?_ ?_; rotate_left 2; (focus (go_simp; first | done | rfl)); (focus ((try simp only [Kr.PT]); first | done | rfl)))
    (refine Kr.seqSkipQ (a' := ?_) (by rfl) ?_ ?_; rotate_left; (focus ((try simp only [Kr.PT]); first | done | rfl)))
    (refine Kr.seqSkipQ (a' := ?_) (by rfl) ?_ ?_; rotate_left; (focus ((try simp only [Kr.PT]); first | done | rfl)))
    (refine Kr.seqQ (v := ?_) (a' := ?_) (by rfl) ?_ ?_ ?_; rotate_left 2; (focus (go_simp; first | done | rfl)); (focus ((try simp only [Kr.PT]); first | done | rfl)))
    (refine Kr.seqQ (v := ?_) (a' := ?_) (by rfl) ?_ ?_ ?_; rotate_left 2; (focus (go_simp; first | done | rfl)); (focus ((try simp only [Kr.PT]); first | done | rfl)))
    (refine Kr.seqSkipQ (a' := ?_) (by rfl) ?_ ?_; rotate_left; (focus ((try simp only [Kr.PT]); first | done | rfl)))
    (refine Kr.seqSkipQ (a' := ?_) (by rfl) ?_ ?_; rotate_left; (focus ((try simp only [Kr.PT]); first | done | rfl)))
    (refine Kr.seqQ (v := ?_) (a' := ?_) (by rfl) ?_ ?_ ?_; rotate_left 2; (focus (go_simp; first | done | rfl)); (focus ((try simp only [Kr.PT]); first | done | rfl)))
    refine Kr.seqDoneW ?_
    clear C1
    go_upto_region 4 with fail
    refine Kr.seqStartW ?_
    (refine Kr.seqQ (v := ?_) (a' := ?_) (by rfl) ?_ ?_ ?_; rotate_left 2; (focus (go_simp; first | done | rfl)); (focus ((try simp only [Kr.PT]); first | done | rfl)))
    refine Kr.seqDoneW ?_
    have hk := trivial
    go_wp2
    refine bodyPost_ret (v := .bool true) (by simp [results, Tryd.results4, go_sem, hk]) rfl ⟨rfl, H.g⟩
  by_cases h2 : q < 2
  · have C1 : decide ((100 : Int) < (lb.size : Int)) = false := decide_eq_false (by omega)
    have C2 : decide ((q : Int) < 2) = true := decide_eq_true (by omega)
    go_upto_region 3 with fail
    refine Kr.seqStartW ?_
    (refine Kr.seqQ (v := ?_) (a' := ?_) (by rfl) ?_ ?_ ?_; rotate_left 2; (focus (go_simp; first | done | rfl)); (focus ((try simp only [Kr.PT]); first | done | rfl)))
    (refine Kr.seqQ (v := .int .i64 (lb.size : Int)) (a' := ?_) (by rfl) ?_ ?_ ?_; rotate_left 1; (focus (exact Kr.valOf rfl ((by go_simp)))); (focus ((try simp only [Kr.PT]); first | done | rfl)))
    (refine Kr.seqQ (v := .bool false) (a' := ?_) (by rfl) ?_ ?_ ?_; rotate_left 1; (focus (exact Kr.valOf rfl (gtrI C1))); (focus ((try simp only [Kr.PT]); first | done | rfl)))
    (refine Kr.seqQ (v := ?_) (a' := ?_) (by rfl) ?_ ?_ ?_; rotate_left 2; (focus (go_simp; first | done | rfl)); (focus ((try simp only [Kr.PT]); first | done | rfl)))
    (refine Kr.seqQ (v := ?_) (a' := ?_) (by rfl) ?_ ?_ ?_; rotate_left 2; (focus (go_simp; first | done | rfl)); (focus ((try simp only [Kr.PT]); first | done | rfl)))
    (refine Kr.seqQ (v := .bool true) (a' := ?_) (by rfl) ?_ ?_ ?_; rotate_left 1; (focus (exact Kr.valOf rfl (lssU C2))); (focus ((try simp only [Kr.PT]); first | done | rfl)))
    (refine Kr.seqQ (v := ?_) (a' := ?_) (by rfl) ?_ ?_ ?_; rotate_left 2; (focus (go_simp; first | done | rfl)); (focus ((try simp only [Kr.PT]); first | done | rfl)))
    (refine Kr.seqQ (v := ?_) (a' := ?_) (by rfl) ?_ ?_ ?_; rotate_left 2; (focus (go_simp; first | done | rfl)); (focus ((try simp only [Kr.PT]); first | done | rfl)))
    (refine Kr.seqSkipQ (a' := ?_) (by rfl) ?_ ?_; rotate_left; (focus ((try simp only [Kr.PT]); first | done | rfl)))
    (refine Kr.seqSkipQ (a' := ?_) (by rfl) ?_ ?_; rotate_left; (focus ((try simp only [Kr.PT]); first | done | rfl)))
    (refine Kr.seqQ (v := ?_) (a' := ?_) (by rfl) ?_ ?_ ?_; rotate_left 2; (focus (go_simp; first | done | rfl)); (focus ((try simp only [Kr.PT]); first | done | rfl)))
    (refine Kr.seqQ (v := ?_) (a' := ?_) (by rfl) ?_ ?_ ?_; rotate_left 2; (focus (go_simp; first | done | rfl)); (focus ((try simp only [Kr.PT]); first | done | rfl)))
    (refine Kr.seqSkipQ (a' := ?_) (by rfl) ?_ ?_; rotate_left; (focus ((try simp only [Kr.PT]); first | done | rfl)))
    (refine Kr.seqSkipQ (a' := ?_) (by rfl) ?_ ?_; rotate_left; (focus ((try simp only [Kr.PT]); first | done | rfl)))
    (refine Kr.seqQ (v := ?_) (a' := ?_) (by rfl) ?_ ?_ ?_; rotate_left 2; (focus (go_simp; first | done | rfl)); (focus ((try simp only [Kr.PT]); first | done | rfl)))
    (refine Kr.seqQ (v := ?_) (a' := ?_) (by rfl) ?_ ?_ ?_; rotate_left 2; (focus (go_simp; first | done | rfl)); (focus ((try simp only [Kr.PT]); first | done | rfl)))
    (refine Kr.seqSkipQ (a' := ?_) (by rfl) ?_ ?_; rotate_left; (focus ((try simp only [Kr.PT]); first | done | rfl)))
    (refine Kr.seqSkipQ (a' := ?_) (by rfl) ?_ ?_; rotate_left; (focus ((try simp only [Kr.PT]); first | done | rfl)))
    (refine Kr.seqQ (v := ?_) (a' := ?_) (by rfl) ?_ ?_ ?_; rotate_left 2; (focus (go_simp; first | done | rfl)); (focus ((try simp only [Kr.PT]); first | done | rfl)))
    refine Kr.seqDoneW ?_
    clear C1 C2
    go_upto_region 4 with fail
    refine Kr.seqStartW ?_
    (refine Kr.seqQ (v := ?_) (a' := ?_) (by rfl) ?_ ?_ ?_; rotate_left 2; (focus (go_simp; first | done | rfl)); (focus ((try simp only [Kr.PT]); first | done | rfl)))
    refine Kr.seqDoneW ?_
    have hk := trivial
    go_wp2
    refine bodyPost_ret (v := .bool true) (by simp [results, Tryd.results4, go_sem, hk]) rfl ⟨rfl, H.g⟩
  by_cases h3 : 1073741824 ≤ q
  · have C1 : decide ((100 : Int) < (lb.size : Int)) = false := decide_eq_false (by omega)
    have C2 : decide ((q : Int) < 2) = false := decide_eq_false (by omega)
    have C3 : decide ((1073741824 : Int) ≤ (q : Int)) = true := decide_eq_true (by omega)
    go_upto_region 3 with fail
    refine Kr.seqStartW ?_
    (refine Kr.seqQ (v := ?_) (a' := ?_) (by rfl) ?_ ?_ ?_; rotate_left 2; (focus (go_simp; first | done | rfl)); (focus ((try simp only [Kr.PT]); first | done | rfl)))
    (refine Kr.seqQ (v := .int .i64 (lb.size : Int)) (a' := ?_) (by rfl) ?_ ?_ ?_; rotate_left 1; (focus (exact Kr.valOf rfl ((by go_simp)))); (focus ((try simp only [Kr.PT]); first | done | rfl)))
    (refine Kr.seqQ (v := .bool false) (a' := ?_) (by rfl) ?_ ?_ ?_; rotate_left 1; (focus (exact Kr.valOf rfl (gtrI C1))); (focus ((try simp only [Kr.PT]); first | done | rfl)))
    (refine Kr.seqQ (v := ?_) (a' := ?_) (by rfl) ?_ ?_ ?_; rotate_left 2; (focus (go_simp; first | done | rfl)); (focus ((try simp only [Kr.PT]); first | done | rfl)))
    (refine Kr.seqQ (v := ?_) (a' := ?_) (by rfl) ?_ ?_ ?_; rotate_left 2; (focus (go_simp; first | done | rfl)); (focus ((try simp only [Kr.PT]); first | done | rfl)))
    (refine Kr.seqQ (v := .bool false) (a' := ?_) (by rfl) ?_ ?_ ?_; rotate_left 1; (focus (exact Kr.valOf rfl (lssU C2))); (focus ((try simp only [Kr.PT]); first | done | rfl)))
    (refine Kr.seqQ (v := ?_) (a' := ?_) (by rfl) ?_ ?_ ?_; rotate_left 2; (focus (go_simp; first | done | rfl)); (focus ((try simp only [Kr.PT]); first | done | rfl)))
    (refine Kr.seqQ (v := ?_) (a' := ?_) (by rfl) ?_ ?_ ?_; rotate_left 2; (focus (go_simp; first | done | rfl)); (focus ((try simp only [Kr.PT]); first | done | rfl)))
    (refine Kr.seqQ (v := ?_) (a' := ?_) (by rfl) ?_ ?_ ?_; rotate_left 2; (focus (go_simp; first | done | rfl)); (focus ((try simp only [Kr.PT]); first | done | rfl)))
    (refine Kr.seqQ (v := .bool true) (a' := ?_) (by rfl) ?_ ?_ ?_; rotate_left 1; (focus (exact Kr.valOf rfl (geqU C3))); (focus ((try simp only [Kr.PT]); first | done | rfl)))
    (refine Kr.seqQ (v := ?_) (a' := ?_) (by rfl) ?_ ?_ ?_; rotate_left 2; (focus (go_simp; first | done | rfl)); (focus ((try simp only [Kr.PT]); first | done | rfl)))
    (refine Kr.seqQ (v := ?_) (a' := ?_) (by rfl) ?_ ?_ ?_; rotate_left 2; (focus (go_simp; first | done | rfl)); (focus ((try simp only [Kr.PT]); first | done | rfl)))
    (refine Kr.seqSkipQ (a' := ?_) (by rfl) ?_ ?_; rotate_left; (focus ((try simp only [Kr.PT]); first | done | rfl)))
    (refine Kr.seqSkipQ (a' := ?_) (by rfl) ?_ ?_; rotate_left; (focus ((try simp only [Kr.PT]); first | done | rfl)))
    (refine Kr.seqQ (v := ?_) (a' := ?_) (by rfl) ?_ ?_ ?_; rotate_left 2; (focus (go_simp; first | done | rfl)); (focus ((try simp only [Kr.PT]); first | done | rfl)))
    (refine Kr.seqQ (v := ?_) (a' := ?_) (by rfl) ?_ ?_ ?_; rotate_left 2; (focus (go_simp; first | done | rfl)); (focus ((try simp only [Kr.PT]); first | done | rfl)))
    (refine Kr.seqSkipQ (a' := ?_) (by rfl) ?_ ?_; rotate_left; (focus ((try simp only [Kr.PT]); first | done | rfl)))
    (refine Kr.seqSkipQ (a' := ?_) (by rfl) ?_ ?_; rotate_left; (focus ((try simp only [Kr.PT]); first | done | rfl)))
    (refine Kr.seqQ (v := ?_) (a' := ?_) (by rfl) ?_ ?_ ?_; rotate_left 2; (focus (go_simp; first | done | rfl)); (focus ((try simp only [Kr.PT]); first | done | rfl)))
    refine Kr.seqDoneW ?_
    clear C1 C2 C3
    go_upto_region 4 with fail
    refine Kr.seqStartW ?_
    (refine Kr.seqQ (v := ?_) (a' := ?_) (by rfl) ?_ ?_ ?_; rotate_left 2; (focus (go_simp; first | done | rfl)); (focus ((try simp only [Kr.PT]); first | done | rfl)))
    refine Kr.seqDoneW ?_
    have hk := trivial
    go_wp2
    refine bodyPost_ret (v := .bool true) (by simp [results, Tryd.results4, go_sem, hk]) rfl ⟨rfl, H.g⟩
  by_cases h4 : k < 1
  · have C1 : decide ((100 : Int) < (lb.size : Int)) = false := decide_eq_false (by omega)
    have C2 : decide ((q : Int) < 2) = false := decide_eq_false (by omega)
    have C3 : decide ((1073741824 : Int) ≤ (q : Int)) = false := decide_eq_false (by omega)
    have C4 : decide ((k : Int) < 1) = true := decide_eq_true (by omega)
    go_upto_region 3 with fail
    refine Kr.seqStartW ?_
    (refine Kr.seqQ (v := ?_) (a' := ?_) (by rfl) ?_ ?_ ?_; rotate_left 2; (focus (go_simp; first | done | rfl)); (focus ((try simp only [Kr.PT]); first | done | rfl)))
    (refine Kr.seqQ (v := .int .i64 (lb.size : Int)) (a' := ?_) (by rfl) ?_ ?_ ?_; rotate_left 1; (focus (exact Kr.valOf rfl ((by go_simp)))); (focus ((try simp only [Kr.PT]); first | done | rfl)))
    (refine Kr.seqQ (v := .bool false) (a' := ?_) (by rfl) ?_ ?_ ?_; rotate_left 1; (focus (exact Kr.valOf rfl (gtrI C1))); (focus ((try simp only [Kr.PT]); first | done | rfl)))
    (refine Kr.seqQ (v := ?_) (a' := ?_) (by rfl) ?_ ?_ ?_; rotate_left 2; (focus (go_simp; first | done | rfl)); (focus ((try simp only [Kr.PT]); first | done | rfl)))
    (refine Kr.seqQ (v := ?_) (a' := ?_) (by rfl) ?_ ?_ ?_; rotate_left 2; (focus (go_simp; first | done | rfl)); (focus ((try simp only [Kr.PT]); first | done | rfl)))
    (refine Kr.seqQ (v := .bool false) (a' := ?_) (by rfl) ?_ ?_ ?_; rotate_left 1; (focus (exact Kr.valOf rfl (lssU C2))); (focus ((try simp only [Kr.PT]); first | done | rfl)))
    (refine Kr.seqQ (v := ?_) (a' := ?_) (by rfl) ?_ ?_ ?_; rotate_left 2; (focus (go_simp; first | done | rfl)); (focus ((try simp only [Kr.PT]); first | done | rfl)))
    (refine Kr.seqQ (v := ?_) (a' := ?_) (by rfl) ?_ ?_ ?_; rotate_left 2; (focus (go_simp; first | done | rfl)); (focus ((try simp only [Kr.PT]); first | done | rfl)))
    (refine Kr.seqQ (v := ?_) (a' := ?_) (by rfl) ?_ ?_ ?_; rotate_left 2; (focus (go_simp; first | done | rfl)); (focus ((try simp only [Kr.PT]); first | done | rfl)))
    (refine Kr.seqQ (v := .bool false) (a' := ?_) (by rfl) ?_ ?_ ?_; rotate_left 1; (focus (exact Kr.valOf rfl (geqU C3))); (focus ((try simp only [Kr.PT]); first | done | rfl)))
    (refine Kr.seqQ (v := ?_) (a' := ?_) (by rfl) ?_ ?_ ?_; rotate_left 2; (focus (go_simp; first | done | rfl)); (focus ((try simp only [Kr.PT]); first | done | rfl)))
    (refine Kr.seqQ (v := ?_) (a' := ?_) (by rfl) ?_ ?_ ?_; rotate_left 2; (focus (go_simp; first | done | rfl)); (focus ((try simp only [Kr.PT]); first | done | rfl)))
    (refine Kr.seqQ (v := ?_) (a' := ?_) (by rfl) ?_ ?_ ?_; rotate_left 2; (focus (go_simp; first | done | rfl)); (focus ((try simp only [Kr.PT]); first | done | rfl)))
    (refine Kr.seqQ (v := .bool true) (a' := ?_) (by rfl) ?_ ?_ ?_; rotate_left 1; (focus (exact Kr.valOf rfl (lssU C4))); (focus ((try simp only [Kr.PT]); first | done | rfl)))
    (refine Kr.seqQ (v := ?_) (a' := ?_) (by rfl) ?_ ?_ ?_; rotate_left 2; (focus (go_simp; first | done | rfl)); (focus ((try simp only [Kr.PT]); first | done | rfl)))
    (refine Kr.seqQ (v := ?_) (a' := ?_) (by rfl) ?_ ?_ ?_; rotate_left 2; (focus (go_simp; first | done | rfl)); (focus ((try simp only [Kr.PT]); first | done | rfl)))
    (refine Kr.seqSkipQ (a' := ?_) (by rfl) ?_ ?_; rotate_left; (focus ((try simp only [Kr.PT]); first | done | rfl)))
    (refine Kr.seqSkipQ (a' := ?_) (by rfl) ?_ ?_; rotate_left; (focus ((try simp only [Kr.PT]); first | done | rfl)))
    (refine Kr.seqQ (v := ?_) (a' := ?_) (by rfl) ?_ ?_ ?_; rotate_left 2; (focus (go_simp; first | done | rfl)); (focus ((try simp only [Kr.PT]); first | done | rfl)))
    refine Kr.seqDoneW ?_
    clear C1 C2 C3 C4
    go_upto_region 4 with fail
    refine Kr.seqStartW ?_
    (refine Kr.seqQ (v := ?_) (a' := ?_) (by rfl) ?_ ?_ ?_; rotate_left 2; (focus (go_simp; first | done | rfl)); (focus ((try simp only [Kr.PT]); first | done | rfl)))
    refine Kr.seqDoneW ?_
    have hk := trivial
    go_wp2
    refine bodyPost_ret (v := .bool true) (by simp [results, Tryd.results4, go_sem, hk]) rfl ⟨rfl, H.g⟩
  have C1 : decide ((100 : Int) < (lb.size : Int)) = false := decide_eq_false (by omega)
  have C2 : decide ((q : Int) < 2) = false := decide_eq_false (by omega)
  have C3 : decide ((1073741824 : Int) ≤ (q : Int)) = false := decide_eq_false (by omega)
  have C4 : decide ((k : Int) < 1) = false := decide_eq_false (by omega)
  have C5 : decide ((1073741824 : Int) ≤ (k : Int)) = true := decide_eq_true (by omega)
  go_upto_region 3 with fail
  refine Kr.seqStartW ?_
  (refine Kr.seqQ (v := ?_) (a' := ?_) (by rfl) ?_ ?_ ?_; rotate_left 2; (focus (go_simp; first | done | rfl)); (focus ((try simp only [Kr.PT]); first | done | rfl)))
  (refine Kr.seqQ (v := .int .i64 (lb.size : Int)) (a' := ?_) (by rfl) ?_ ?_ ?_; rotate_left 1; (focus (exact Kr.valOf rfl ((by go_simp)))); (focus ((try simp only [Kr.PT]); first | done | rfl)))
  (refine Kr.seqQ (v := .bool false) (a' := ?_) (by rfl) ?_ ?_ ?_; rotate_left 1; (focus (exact Kr.valOf rfl (gtrI C1))); (focus ((try simp only [Kr.PT]); first | done | rfl)))
  (refine Kr.seqQ (v := ?_) (a' := ?_) (by rfl) ?_ ?_ ?_; rotate_left 2; (focus (go_simp; first | done | rfl)); (focus ((try simp only [Kr.PT]); first | done | rfl)))
  (refine Kr.seqQ (v := ?_) (a' := ?_) (by rfl) ?_ ?_ ?_; rotate_left 2; (focus (go_simp; first | done | rfl)); (focus ((try simp only [Kr.PT]); first | done | rfl)))
  (refine Kr.seqQ (v := .bool false) (a' := ?_) (by rfl) ?_ ?_ ?_; rotate_left 1; (focus (exact Kr.valOf rfl (lssU C2))); (focus ((try simp only [Kr.PT]); first | done | rfl)))
  (refine Kr.seqQ (v := ?_) (a' := ?_) (by rfl) ?_ ?_ ?_; rotate_left 2; (focus (go_simp; first | done | rfl)); (focus ((try simp only [Kr.PT]); first | done | rfl)))
  (refine Kr.seqQ (v := ?_) (a' := ?_) (by rfl) ?_ ?_ ?_; rotate_left 2; (focus (go_simp; first | done | rfl)); (focus ((try simp only [Kr.PT]); first | done | rfl)))
  (refine Kr.seqQ (v := ?_) (a' := ?_) (by rfl) ?_ ?_ ?_; rotate_left 2; (focus (go_simp; first | done | rfl)); (focus ((try simp only [Kr.PT]); first | done | rfl)))
  (refine Kr.seqQ (v := .bool false) (a' := ?_) (by rfl) ?_ ?_ ?_; rotate_left 1; (focus (exact Kr.valOf rfl (geqU C3))); (focus ((try simp only [Kr.PT]); first | done | rfl)))
  (refine Kr.seqQ (v := ?_) (a' := ?_) (by rfl) ?_ ?_ ?_; rotate_left 2; (focus (go_simp; first | done | rfl)); (focus ((try simp only [Kr.PT]); first | done | rfl)))
  (refine Kr.seqQ (v := ?_) (a' := ?_) (by rfl) ?_ ?_ ?_; rotate_left 2; (focus (go_simp; first | done | rfl)); (focus ((try simp only [Kr.PT]); first | done | rfl)))
  (refine Kr.seqQ (v := ?_) (a' := ?_) (by rfl) ?_ ?_ ?_; rotate_left 2; (focus (go_simp; first | done | rfl)); (focus ((try simp only [Kr.PT]); first | done | rfl)))
  (refine Kr.seqQ (v := .bool false) (a' := ?_) (by rfl) ?_ ?_ ?_; rotate_left 1; (focus (exact Kr.valOf rfl (lssU C4))); (focus ((try simp only [Kr.PT]); first | done | rfl)))
  (refine Kr.seqQ (v := ?_) (a' := ?_) (by rfl) ?_ ?_ ?_; rotate_left 2; (focus (go_simp; first | done | rfl)); (focus ((try simp only [Kr.PT]); first | done | rfl)))
  (refine Kr.seqQ (v := ?_) (a' := ?_) (by rfl) ?_ ?_ ?_; rotate_left 2; (focus (go_simp; first | done | rfl)); (focus ((try simp only [Kr.PT]); first | done | rfl)))
  (refine Kr.seqQ (v := ?_) (a' := ?_) (by rfl) ?_ ?_ ?_; rotate_left 2; (focus (go_simp; first | done | rfl)); (focus ((try simp only [Kr.PT]); first | done | rfl)))
  (refine Kr.seqQ (v := .bool true) (a' := ?_) (by rfl) ?_ ?_ ?_; rotate_left 1; (focus (exact Kr.valOf rfl (geqU C5))); (focus ((try simp only [Kr.PT]); first | done | rfl)))
  (refine Kr.seqQ (v := ?_) (a' := ?_) (by rfl) ?_ ?_ ?_; rotate_left 2; (focus (go_simp; first | done | rfl)); (focus ((try simp only [Kr.PT]); first | done | rfl)))
  refine Kr.seqDoneW ?_
  clear C1 C2 C3 C4 C5
  go_upto_region 4 with fail
  refine Kr.seqStartW ?_
  (refine Kr.seqQ (v := ?_) (a' := ?_) (by rfl) ?_ ?_ ?_; rotate_left 2; (focus (go_simp; first | done | rfl)); (focus ((try simp only [Kr.PT]); first | done | rfl)))
  refine Kr.seqDoneW ?_
  have hk := trivial
  go_wp2
  refine bodyPost_ret (v := .bool true) (by simp [results, Tryd.results4, go_sem, hk]) rfl ⟨rfl, H.g⟩
set_option linter.unusedSimpArgs false in
set_option maxRecDepth 100000 in
set_option maxHeartbeats 16000000 in
theorem rem_main {st : List (BitVec 8)} {c : Int} {lb : ByteArray} {q k : Nat} {w : World} (hst : st.length = 32) (hC : Con w) (hT : Sta0 w) (hlb : lb.size ≤ 100) (hq1 : 2 ≤ q) (hq2 : q < 1073741824) (hk1 : 1 ≤ k) (hk2 : k < 1073741824) :
    Calls Tryd.prog 4 #[.agg (tr st c).toArray, .string lb, .int .u32 (q : Int), .int .u32 (k : Int)] w fun e w' => e = .returned (.bool true) ∧ Gr w w' := by
  have HCN := Lib.hid hC; have HT0 := Lib.hid hT; clear hC hT
  obtain ⟨qk, hqk⟩ : ∃ z, q * k = z := ⟨_, rfl⟩; have hqk2 : qk < 2305843009213693952 := by have h := Nat.mul_lt_mul_of_lt_of_le hq2 (Nat.le_of_lt hk2) (by omega); omega
  have hqk1 : q ≤ qk := hqk ▸ Nat.le_mul_of_pos_right q (by omega); have hmul : IntKind.i64.wrap ((q : Int) * (k : Int)) = (qk : Int) := by rw [← hqk, ← Int.natCast_mul]; exact IntWalk.i64_in _ (by omega)
  have HQK := Lib.hid hqk; have HMUL := Lib.hid hmul; clear hqk hmul
  have H := Ow.start w
  go_enter Tryd.func4, Tryd.ntmps4
  go_upto_region 0 with fail
  refine Kr.seqStartW ?_
  refine Kr.seqR (by rfl) (fun K hK => ?_)
  refine wp_runV rfl boxT ?_
  obtain ⟨y1, hy⟩ : ∃ y, w.alloc (.cells (tr st c).toArray 25) = y := ⟨_, rfl⟩
  obtain ⟨bt, hb⟩ : ∃ b, w.heap.size = b := ⟨_, rfl⟩
  rw [hy, hb]
  have hg : Gr w y1 := hy ▸ (Gr.refl _).alloc _
  replace H := H.alloc hy hb
  clear hy hb hg
  (refine Kr.outS hK (a' := ?_) ?_ ?_; rotate_left; (focus ((try simp only [Kr.PT]); first | done | rfl))); clear hK K
  (refine Kr.seqQ (v := ?_) (a' := ?_) (by rfl) ?_ ?_ ?_; rotate_left 2; (focus (go_simp; first | done | rfl)); (focus ((try simp only [Kr.PT]); first | done | rfl)))
  refine Kr.seqDoneW ?_
  go_upto_region 1 with fail
  refine Kr.seqStartW ?_
  refine Kr.seqR (by rfl) (fun K hK => ?_)
  go_simp
  go_at_call 6
  refine (awake_v (HCN.out.grow H.g) (HT0.out.grow H.g)).mono ?_
  rintro e y2 ⟨rfl, hg⟩
  replace H := H.grow hg
  clear hg
  (refine Kr.outS hK (a' := ?_) ?_ ?_; rotate_left; (focus ((try simp only [Kr.PT]); first | done | rfl))); clear hK K
  (refine Kr.seqQ (v := ?_) (a' := ?_) (by rfl) ?_ ?_ ?_; rotate_left 2; (focus (go_simp; first | done | rfl)); (focus ((try simp only [Kr.PT]); first | done | rfl)))
  refine Kr.seqDoneW ?_
  have C1 : decide ((100 : Int) < (lb.size : Int)) = false := decide_eq_false (by omega)
  have C2 : decide ((q : Int) < 2) = false := decide_eq_false (by omega)
  have C3 : decide ((1073741824 : Int) ≤ (q : Int)) = false := decide_eq_false (by omega)
  have C4 : decide ((k : Int) < 1) = false := decide_eq_false (by omega)
  have C5 : decide ((1073741824 : Int) ≤ (k : Int)) = false := decide_eq_false (by omega)
  go_upto_region 3 with fail
  refine Kr.seqStartW ?_
  (refine Kr.seqQ (v := ?_) (a' := ?_) (by rfl) ?_ ?_ ?_; rotate_left 2; (focus (go_simp; first | done | rfl)); (focus ((try simp only [Kr.PT]); first | done | rfl)))
  (refine Kr.seqQ (v := .int .i64 (lb.size : Int)) (a' := ?_) (by rfl) ?_ ?_ ?_; rotate_left 1; (focus (exact Kr.valOf rfl ((by go_simp)))); (focus ((try simp only [Kr.PT]); first | done | rfl)))
  (refine Kr.seqQ (v := .bool false) (a' := ?_) (by rfl) ?_ ?_ ?_; rotate_left 1; (focus (exact Kr.valOf rfl (gtrI C1))); (focus ((try simp only [Kr.PT]); first | done | rfl)))
  (refine Kr.seqQ (v := ?_) (a' := ?_) (by rfl) ?_ ?_ ?_; rotate_left 2; (focus (go_simp; first | done | rfl)); (focus ((try simp only [Kr.PT]); first | done | rfl)))
  (refine Kr.seqQ (v := ?_) (a' := ?_) (by rfl) ?_ ?_ ?_; rotate_left 2; (focus (go_simp; first | done | rfl)); (focus ((try simp only [Kr.PT]); first | done | rfl)))
  (refine Kr.seqQ (v := .bool false) (a' := ?_) (by rfl) ?_ ?_ ?_; rotate_left 1; (focus (exact Kr.valOf rfl (lssU C2))); (focus ((try simp only [Kr.PT]); first | done | rfl)))
  (refine Kr.seqQ (v := ?_) (a' := ?_) (by rfl) ?_ ?_ ?_; rotate_left 2; (focus (go_simp; first | done | rfl)); (focus ((try simp only [Kr.PT]); first | done | rfl)))
  (refine Kr.seqQ (v := ?_) (a' := ?_) (by rfl) ?_ ?_ ?_; rotate_left 2; (focus (go_simp; first | done | rfl)); (focus ((try simp only [Kr.PT]); first | done | rfl)))
  (refine Kr.seqQ (v := ?_) (a' := ?_) (by rfl) ?_ ?_ ?_; rotate_left 2; (focus (go_simp; first | done | rfl)); (focus ((try simp only [Kr.PT]); first | done | rfl)))
  (refine Kr.seqQ (v := .bool false) (a' := ?_) (by rfl) ?_ ?_ ?_; rotate_left 1; (focus (exact Kr.valOf rfl (geqU C3))); (focus ((try simp only [Kr.PT]); first | done | rfl)))
  (refine Kr.seqQ (v := ?_) (a' := ?_) (by rfl) ?_ ?_ ?_; rotate_left 2; (focus (go_simp; first | done | rfl)); (focus ((try simp only [Kr.PT]); first | done | rfl)))
  (refine Kr.seqQ (v := ?_) (a' := ?_) (by rfl) ?_ ?_ ?_; rotate_left 2; (focus (go_simp; first | done | rfl)); (focus ((try simp only [Kr.PT]); first | done | rfl)))
  (refine Kr.seqQ (v := ?_) (a' := ?_) (by rfl) ?_ ?_ ?_; rotate_left 2; (focus (go_simp; first | done | rfl)); (focus ((try simp only [Kr.PT]); first | done | rfl)))
  (refine Kr.seqQ (v := .bool false) (a' := ?_) (by rfl) ?_ ?_ ?_; rotate_left 1; (focus (exact Kr.valOf rfl (lssU C4))); (focus ((try simp only [Kr.PT]); first | done | rfl)))
  (refine Kr.seqQ (v := ?_) (a' := ?_) (by rfl) ?_ ?_ ?_; rotate_left 2; (focus (go_simp; first | done | rfl)); (focus ((try simp only [Kr.PT]); first | done | rfl)))
  (refine Kr.seqQ (v := ?_) (a' := ?_) (by rfl) ?_ ?_ ?_; rotate_left 2; (focus (go_simp; first | done | rfl)); (focus ((try simp only [Kr.PT]); first | done | rfl)))
  (refine Kr.seqQ (v := ?_) (a' := ?_) (by rfl) ?_ ?_ ?_; rotate_left 2; (focus (go_simp; first | done | rfl)); (focus ((try simp only [Kr.PT]); first | done | rfl)))
  (refine Kr.seqQ (v := .bool false) (a' := ?_) (by rfl) ?_ ?_ ?_; rotate_left 1; (focus (exact Kr.valOf rfl (geqU C5))); (focus ((try simp only [Kr.PT]); first | done | rfl)))
  (refine Kr.seqQ (v := ?_) (a' := ?_) (by rfl) ?_ ?_ ?_; rotate_left 2; (focus (go_simp; first | done | rfl)); (focus ((try simp only [Kr.PT]); first | done | rfl)))
  refine Kr.seqDoneW ?_
  clear C1 C2 C3 C4 C5
  go_upto_region 5 with fail
  refine Kr.seqStartW ?_
  (refine Kr.seqQ (v := .agg (tr st c).toArray) (a' := ?_) (by rfl) ?_ ?_ ?_; rotate_left 1; (focus (exact Kr.valOf rfl (ldT (H.at 0 rfl) (tr_len _ hst)))); (focus ((try simp only [Kr.PT]); first | done | rfl)))
  (refine Kr.seqQ (v := ?_) (a' := ?_) (by rfl) ?_ ?_ ?_; rotate_left 2; (focus (go_simp; first | done | rfl)); (focus ((try simp only [Kr.PT]); first | done | rfl)))
  (refine Kr.seqQ (v := ?_) (a' := ?_) (by rfl) ?_ ?_ ?_; rotate_left 2; (focus (go_simp; first | done | rfl)); (focus ((try simp only [Kr.PT]); first | done | rfl)))
  (refine Kr.seqQ (v := .int .i64 (q : Int)) (a' := ?_) (by rfl) ?_ ?_ ?_; rotate_left 1; (focus (exact Kr.valOf rfl (conv32 (by omega)))); (focus ((try simp only [Kr.PT]); first | done | rfl)))
  refine Kr.seqR (by rfl) (fun K hK => ?_)
  go_simp
  go_at_call 7
  refine (Chal_v (q := q) (w := y2) hst (HCN.out.grow H.g) (HT0.out.grow H.g) (by omega) (by omega)).mono ?_
  rintro o y3 ⟨S1, m1, z1, e1, rfl, hp, hg⟩; have hSl1 := hp.1; have HP1 := Lib.hid hp.2; clear hp
  replace H := H.grow hg
  clear hg
  (refine Kr.outS hK (a' := ?_) ?_ ?_; rotate_left; (focus ((try simp only [Kr.PT]); first | done | rfl))); clear hK K
  (refine Kr.seqQ (v := ?_) (a' := ?_) (by rfl) ?_ ?_ ?_; rotate_left 2; (focus (go_simp; first | done | rfl)); (focus ((try simp only [Kr.PT]); first | done | rfl)))
  (refine Kr.seqQ (v := ?_) (a' := ?_) (by rfl) ?_ ?_ ?_; rotate_left 2; (focus (go_simp; first | done | rfl)); (focus ((try simp only [Kr.PT]); first | done | rfl)))
  (refine Kr.seqQ (v := ?_) (a' := ?_) (by rfl) ?_ ?_ ?_; rotate_left 2; (focus (go_simp; first | done | rfl)); (focus ((try simp only [Kr.PT]); first | done | rfl)))
  (refine Kr.seqQ (v := ?_) (a' := ?_) (by rfl) ?_ ?_ ?_; rotate_left 2; (focus (go_simp; first | done | rfl)); (focus ((try simp only [Kr.PT]); first | done | rfl)))
  refine Kr.seqR (by rfl) (fun K hK => ?_)
  refine wp_runV rfl newT ?_
  obtain ⟨y4, hy⟩ : ∃ y, y3.alloc (.cells (tr zH 0).toArray 25) = y := ⟨_, rfl⟩
  obtain ⟨ba, hb⟩ : ∃ b, y3.heap.size = b := ⟨_, rfl⟩
  rw [hy, hb]
  have hg : Gr y3 y4 := hy ▸ (Gr.refl _).alloc _
  replace H := H.alloc hy hb
  clear hy hb hg
  (refine Kr.outS hK (a' := ?_) ?_ ?_; rotate_left; (focus ((try simp only [Kr.PT]); first | done | rfl))); clear hK K
  refine Kr.seqR (by rfl) (fun K hK => ?_)
  refine wp_run rfl (stT (H.at 0 rfl) (tr_len _ zH_length) (tr_len _ hSl1) (tr_one _ _)) ?_
  obtain ⟨y5, hy⟩ : ∃ y, y4.setRow ba (tr S1 m1).toArray = y := ⟨_, rfl⟩
  rw [hy]
  replace H := H.put 0 hy rfl
  dsimp only [List.set] at H
  clear hy
  (refine Kr.outS hK (a' := ?_) ?_ ?_; rotate_left; (focus ((try simp only [Kr.PT]); first | done | rfl))); clear hK K
  (refine Kr.seqQ (v := ?_) (a' := ?_) (by rfl) ?_ ?_ ?_; rotate_left 2; (focus (go_simp; first | done | rfl)); (focus ((try simp only [Kr.PT]); first | done | rfl)))
  (refine Kr.seqQ (v := ?_) (a' := ?_) (by rfl) ?_ ?_ ?_; rotate_left 2; (focus (go_simp; first | done | rfl)); (focus ((try simp only [Kr.PT]); first | done | rfl)))
  refine Kr.seqDoneW ?_
  go_upto_region 6 with fail
  refine Kr.seqStartW ?_
  (refine Kr.seqQ (v := .agg (tr st c).toArray) (a' := ?_) (by rfl) ?_ ?_ ?_; rotate_left 1; (focus (exact Kr.valOf rfl (ldT (H.at 1 rfl) (tr_len _ hst)))); (focus ((try simp only [Kr.PT]); first | done | rfl)))
  (refine Kr.seqQ (v := ?_) (a' := ?_) (by rfl) ?_ ?_ ?_; rotate_left 2; (focus (go_simp; first | done | rfl)); (focus ((try simp only [Kr.PT]); first | done | rfl)))
  (refine Kr.seqQ (v := ?_) (a' := ?_) (by rfl) ?_ ?_ ?_; rotate_left 2; (focus (go_simp; first | done | rfl)); (focus ((try simp only [Kr.PT]); first | done | rfl)))
  (refine Kr.seqQ (v := .int .i64 (q : Int)) (a' := ?_) (by rfl) ?_ ?_ ?_; rotate_left 1; (focus (exact Kr.valOf rfl (conv32 (by omega)))); (focus ((try simp only [Kr.PT]); first | done | rfl)))
  (refine Kr.seqQ (v := ?_) (a' := ?_) (by rfl) ?_ ?_ ?_; rotate_left 2; (focus (go_simp; first | done | rfl)); (focus ((try simp only [Kr.PT]); first | done | rfl)))
  (refine Kr.seqQ (v := .int .i64 (k : Int)) (a' := ?_) (by rfl) ?_ ?_ ?_; rotate_left 1; (focus (exact Kr.valOf rfl (conv32 (by omega)))); (focus ((try simp only [Kr.PT]); first | done | rfl)))
  (refine Kr.seqQ (v := .int .i64 (qk : Int)) (a' := ?_) (by rfl) ?_ ?_ ?_; rotate_left 1; (focus (exact Kr.valOf rfl (mulI HMUL.out))); (focus ((try simp only [Kr.PT]); first | done | rfl)))
  refine Kr.seqR (by rfl) (fun K hK => ?_)
  go_simp
  go_at_call 7
  refine (Chal_v (q := qk) (w := y5) hst (HCN.out.grow H.g) (HT0.out.grow H.g) (by omega) (by omega)).mono ?_
  rintro o y6 ⟨S2, m2, z2, e2, rfl, hp, hg⟩; have hSl2 := hp.1; have HP2 := Lib.hid hp.2; clear hp
  replace H := H.grow hg
  clear hg
  (refine Kr.outS hK (a' := ?_) ?_ ?_; rotate_left; (focus ((try simp only [Kr.PT]); first | done | rfl))); clear hK K
  (refine Kr.seqQ (v := ?_) (a' := ?_) (by rfl) ?_ ?_ ?_; rotate_left 2; (focus (go_simp; first | done | rfl)); (focus ((try simp only [Kr.PT]); first | done | rfl)))
  (refine Kr.seqQ (v := ?_) (a' := ?_) (by rfl) ?_ ?_ ?_; rotate_left 2; (focus (go_simp; first | done | rfl)); (focus ((try simp only [Kr.PT]); first | done | rfl)))
  (refine Kr.seqQ (v := ?_) (a' := ?_) (by rfl) ?_ ?_ ?_; rotate_left 2; (focus (go_simp; first | done | rfl)); (focus ((try simp only [Kr.PT]); first | done | rfl)))
  (refine Kr.seqQ (v := ?_) (a' := ?_) (by rfl) ?_ ?_ ?_; rotate_left 2; (focus (go_simp; first | done | rfl)); (focus ((try simp only [Kr.PT]); first | done | rfl)))
  refine Kr.seqR (by rfl) (fun K hK => ?_)
  refine wp_runV rfl newT ?_
  obtain ⟨y7, hy⟩ : ∃ y, y6.alloc (.cells (tr zH 0).toArray 25) = y := ⟨_, rfl⟩
  obtain ⟨bb, hb⟩ : ∃ b, y6.heap.size = b := ⟨_, rfl⟩
  rw [hy, hb]
  have hg : Gr y6 y7 := hy ▸ (Gr.refl _).alloc _
  replace H := H.alloc hy hb
  clear hy hb hg
  (refine Kr.outS hK (a' := ?_) ?_ ?_; rotate_left; (focus ((try simp only [Kr.PT]); first | done | rfl))); clear hK K
  refine Kr.seqR (by rfl) (fun K hK => ?_)
  refine wp_run rfl (stT (H.at 0 rfl) (tr_len _ zH_length) (tr_len _ hSl2) (tr_one _ _)) ?_
  obtain ⟨y8, hy⟩ : ∃ y, y7.setRow bb (tr S2 m2).toArray = y := ⟨_, rfl⟩
  rw [hy]
  replace H := H.put 0 hy rfl
  dsimp only [List.set] at H
  clear hy
  (refine Kr.outS hK (a' := ?_) ?_ ?_; rotate_left; (focus ((try simp only [Kr.PT]); first | done | rfl))); clear hK K
  (refine Kr.seqQ (v := ?_) (a' := ?_) (by rfl) ?_ ?_ ?_; rotate_left 2; (focus (go_simp; first | done | rfl)); (focus ((try simp only [Kr.PT]); first | done | rfl)))
  (refine Kr.seqQ (v := ?_) (a' := ?_) (by rfl) ?_ ?_ ?_; rotate_left 2; (focus (go_simp; first | done | rfl)); (focus ((try simp only [Kr.PT]); first | done | rfl)))
  refine Kr.seqDoneW ?_
  by_cases hbad : okT c = false ∨ isL lb = false ∨ c = 1000
  · have hz : ∃ e : Int, ¬ e = 0 ∧ e1 = e ∧ e2 = e ∧ z1 = 0 ∧ z2 = 0 := by
      rcases HP1.out with ⟨_, _, a3, a4⟩ | ⟨_, b2, b3, b4, _⟩
      · rcases HP2.out with ⟨_, _, d3, d4⟩ | ⟨_, d2, d3, d4, _⟩
        · rcases a4 with ⟨a4, a5⟩ | ⟨a4, a5, a6, a7⟩
          · rcases d4 with ⟨d4, _⟩ | ⟨_, d5, d6, _⟩
            · exact ⟨1, by decide, a4, d4, a3, d3⟩
            · rcases a5 with a5 | a5
              · rw [a5] at d5; cases d5
              · rw [a5] at d6; cases d6
          · rcases d4 with ⟨_, d5⟩ | ⟨d4, _⟩
            · rcases d5 with d5 | d5
              · rw [a5] at d5; cases d5
              · rw [a6] at d5; cases d5
            · exact ⟨5, by decide, a4, d4, a3, d3⟩
        · rcases hbad with h | h | h
          · rw [h] at d2; cases d2
          · rw [h] at d3; cases d3
          · exact absurd h d4
      · rcases hbad with h | h | h
        · rw [h] at b2; cases b2
        · rw [h] at b3; cases b3
        · exact absurd h b4
    obtain ⟨e, hne, rfl, h2, rfl, rfl⟩ := hz; subst h2; clear hbad HP1 HP2
    have N1 : (!decide (e2 = 0)) = true := by rw [decide_eq_false hne]; rfl
    have E1 : decide (e2 = e2) = true := decide_eq_true rfl; clear hne
    go_upto_region 7 with fail
    refine Kr.seqStartW ?_
    (refine Kr.seqQ (v := ?_) (a' := ?_) (by rfl) ?_ ?_ ?_; rotate_left 2; (focus (go_simp; first | done | rfl)); (focus ((try simp only [Kr.PT]); first | done | rfl)))
    (refine Kr.seqQ (v := .bool true) (a' := ?_) (by rfl) ?_ ?_ ?_; rotate_left 1; (focus (exact Kr.valOf rfl (neqI N1))); (focus ((try simp only [Kr.PT]); first | done | rfl)))
    (refine Kr.seqQ (v := ?_) (a' := ?_) (by rfl) ?_ ?_ ?_; rotate_left 2; (focus (go_simp; first | done | rfl)); (focus ((try simp only [Kr.PT]); first | done | rfl)))
    (refine Kr.seqSkipQ (a' := ?_) (by rfl) ?_ ?_; rotate_left; (focus ((try simp only [Kr.PT]); first | done | rfl)))
    (refine Kr.seqSkipQ (a' := ?_) (by rfl) ?_ ?_; rotate_left; (focus ((try simp only [Kr.PT]); first | done | rfl)))
    (refine Kr.seqQ (v := ?_) (a' := ?_) (by rfl) ?_ ?_ ?_; rotate_left 2; (focus (go_simp; first | done | rfl)); (focus ((try simp only [Kr.PT]); first | done | rfl)))
    refine Kr.seqDoneW ?_
    go_upto_region 8 with fail
    refine Kr.seqStartW ?_
    (refine Kr.seqQ (v := ?_) (a' := ?_) (by rfl) ?_ ?_ ?_; rotate_left 2; (focus (go_simp; first | done | rfl)); (focus ((try simp only [Kr.PT]); first | done | rfl)))
    (refine Kr.seqQ (v := ?_) (a' := ?_) (by rfl) ?_ ?_ ?_; rotate_left 2; (focus (go_simp; first | done | rfl)); (focus ((try simp only [Kr.PT]); first | done | rfl)))
    (refine Kr.seqQ (v := .bool true) (a' := ?_) (by rfl) ?_ ?_ ?_; rotate_left 1; (focus (exact Kr.valOf rfl (eqlI E1))); (focus ((try simp only [Kr.PT]); first | done | rfl)))
    (refine Kr.seqQ (v := ?_) (a' := ?_) (by rfl) ?_ ?_ ?_; rotate_left 2; (focus (go_simp; first | done | rfl)); (focus ((try simp only [Kr.PT]); first | done | rfl)))
    (refine Kr.seqQ (v := ?_) (a' := ?_) (by rfl) ?_ ?_ ?_; rotate_left 2; (focus (go_simp; first | done | rfl)); (focus ((try simp only [Kr.PT]); first | done | rfl)))
    (refine Kr.seqQ (v := .bool true) (a' := ?_) (by rfl) ?_ ?_ ?_; rotate_left 1; (focus (exact Kr.valOf rfl (eqlI (x := 0) (y := 0) (by decide)))); (focus ((try simp only [Kr.PT]); first | done | rfl)))
    (refine Kr.seqQ (v := ?_) (a' := ?_) (by rfl) ?_ ?_ ?_; rotate_left 2; (focus (go_simp; first | done | rfl)); (focus ((try simp only [Kr.PT]); first | done | rfl)))
    (refine Kr.seqQ (v := ?_) (a' := ?_) (by rfl) ?_ ?_ ?_; rotate_left 2; (focus (go_simp; first | done | rfl)); (focus ((try simp only [Kr.PT]); first | done | rfl)))
    (refine Kr.seqQ (v := ?_) (a' := ?_) (by rfl) ?_ ?_ ?_; rotate_left 2; (focus (go_simp; first | done | rfl)); (focus ((try simp only [Kr.PT]); first | done | rfl)))
    (refine Kr.seqQ (v := .bool true) (a' := ?_) (by rfl) ?_ ?_ ?_; rotate_left 1; (focus (exact Kr.valOf rfl (eqlI (x := 0) (y := 0) (by decide)))); (focus ((try simp only [Kr.PT]); first | done | rfl)))
    (refine Kr.seqQ (v := ?_) (a' := ?_) (by rfl) ?_ ?_ ?_; rotate_left 2; (focus (go_simp; first | done | rfl)); (focus ((try simp only [Kr.PT]); first | done | rfl)))
    (refine Kr.seqQ (v := ?_) (a' := ?_) (by rfl) ?_ ?_ ?_; rotate_left 2; (focus (go_simp; first | done | rfl)); (focus ((try simp only [Kr.PT]); first | done | rfl)))
    refine Kr.seqDoneW ?_
    have hk := trivial
    go_wp2
    refine bodyPost_ret (v := .bool true) (by simp [results, Tryd.results4, go_sem, hk]) rfl ⟨rfl, H.g⟩
  have hz : ∃ x y : Nat, e1 = 0 ∧ e2 = 0 ∧ m1 = c + 1 ∧ z1 = (x : Int) ∧ z2 = (y : Int) ∧ x < q ∧ y % q = x := by
    have hb1 : ¬ (okT c = false ∨ isL lb = false) := fun h => hbad (by rcases h with h | h; exact .inl h; exact .inr (.inl h))
    have hb2 : ¬ c = 1000 := fun h => hbad (.inr (.inr h))
    rcases HP1.out with ⟨_, _, _, a4⟩ | ⟨b1, _, _, _, _, b6, b7⟩
    · rcases a4 with ⟨_, a4⟩ | ⟨_, _, _, a4⟩
      · exact absurd a4 hb1
      · exact absurd a4 hb2
    · rcases HP2.out with ⟨_, _, _, a4⟩ | ⟨d1, _, _, _, _, _, d7⟩
      · rcases a4 with ⟨_, a4⟩ | ⟨_, _, _, a4⟩
        · exact absurd a4 hb1
        · exact absurd a4 hb2
      · exact ⟨_, _, b1, d1, b6, b7, d7, Nat.mod_lt _ (by omega), by rw [← HQK.out, Nat.mod_mul_right_mod]⟩
  have hcc : 0 ≤ c ∧ c ≤ 1000 := by
    cases ho : okT c with
    | false => exact absurd (.inl ho) hbad
    | true => simpa [okT] using ho
  obtain ⟨x, yy, rfl, rfl, rfl, rfl, rfl, hxq, hyx⟩ := hz; clear hbad HP1 HP2; obtain ⟨hc0, hc1⟩ := hcc
  obtain ⟨c2, hc2⟩ : ∃ z, c + 1 = z := ⟨_, rfl⟩; have hadd : IntKind.i64.wrap (c + 1) = c2 := by rw [hc2]; exact IntWalk.i64_in _ (by omega)
  rw [hc2] at H; have HADD := Lib.hid hadd; have HYX := Lib.hid hyx; clear hadd hyx hc2
  have N0 : (!decide ((0 : Int) = 0)) = false := rfl
  go_upto_region 7 with fail
  refine Kr.seqStartW ?_
  (refine Kr.seqQ (v := ?_) (a' := ?_) (by rfl) ?_ ?_ ?_; rotate_left 2; (focus (go_simp; first | done | rfl)); (focus ((try simp only [Kr.PT]); first | done | rfl)))
  (refine Kr.seqQ (v := .bool false) (a' := ?_) (by rfl) ?_ ?_ ?_; rotate_left 1; (focus (exact Kr.valOf rfl (neqI (x := 0) (y := 0) (by decide)))); (focus ((try simp only [Kr.PT]); first | done | rfl)))
  (refine Kr.seqQ (v := ?_) (a' := ?_) (by rfl) ?_ ?_ ?_; rotate_left 2; (focus (go_simp; first | done | rfl)); (focus ((try simp only [Kr.PT]); first | done | rfl)))
  (refine Kr.seqQ (v := ?_) (a' := ?_) (by rfl) ?_ ?_ ?_; rotate_left 2; (focus (go_simp; first | done | rfl)); (focus ((try simp only [Kr.PT]); first | done | rfl)))
  (refine Kr.seqQ (v := .bool false) (a' := ?_) (by rfl) ?_ ?_ ?_; rotate_left 1; (focus (exact Kr.valOf rfl (neqI (x := 0) (y := 0) (by decide)))); (focus ((try simp only [Kr.PT]); first | done | rfl)))
  (refine Kr.seqQ (v := ?_) (a' := ?_) (by rfl) ?_ ?_ ?_; rotate_left 2; (focus (go_simp; first | done | rfl)); (focus ((try simp only [Kr.PT]); first | done | rfl)))
  refine Kr.seqDoneW ?_
  have G1 : decide ((0 : Int) ≤ (x : Int)) = true := decide_eq_true (by omega)
  have G2 : decide ((x : Int) < (q : Int)) = true := decide_eq_true (by omega)
  have E2 : decide ((x : Int) = (x : Int)) = true := decide_eq_true rfl; have E3 : decide (c2 = c2) = true := decide_eq_true rfl
  go_upto_region 9 with fail
  refine Kr.seqStartW ?_
  (refine Kr.seqQ (v := ?_) (a' := ?_) (by rfl) ?_ ?_ ?_; rotate_left 2; (focus (go_simp; first | done | rfl)); (focus ((try simp only [Kr.PT]); first | done | rfl)))
  (refine Kr.seqQ (v := .bool true) (a' := ?_) (by rfl) ?_ ?_ ?_; rotate_left 1; (focus (exact Kr.valOf rfl (geqI G1))); (focus ((try simp only [Kr.PT]); first | done | rfl)))
  (refine Kr.seqQ (v := ?_) (a' := ?_) (by rfl) ?_ ?_ ?_; rotate_left 2; (focus (go_simp; first | done | rfl)); (focus ((try simp only [Kr.PT]); first | done | rfl)))
  (refine Kr.seqQ (v := ?_) (a' := ?_) (by rfl) ?_ ?_ ?_; rotate_left 2; (focus (go_simp; first | done | rfl)); (focus ((try simp only [Kr.PT]); first | done | rfl)))
  (refine Kr.seqQ (v := ?_) (a' := ?_) (by rfl) ?_ ?_ ?_; rotate_left 2; (focus (go_simp; first | done | rfl)); (focus ((try simp only [Kr.PT]); first | done | rfl)))
  (refine Kr.seqQ (v := .int .i64 (q : Int)) (a' := ?_) (by rfl) ?_ ?_ ?_; rotate_left 1; (focus (exact Kr.valOf rfl (conv32 (by omega)))); (focus ((try simp only [Kr.PT]); first | done | rfl)))
  (refine Kr.seqQ (v := .bool true) (a' := ?_) (by rfl) ?_ ?_ ?_; rotate_left 1; (focus (exact Kr.valOf rfl (lssT G2))); (focus ((try simp only [Kr.PT]); first | done | rfl)))
  (refine Kr.seqQ (v := ?_) (a' := ?_) (by rfl) ?_ ?_ ?_; rotate_left 2; (focus (go_simp; first | done | rfl)); (focus ((try simp only [Kr.PT]); first | done | rfl)))
  (refine Kr.seqQ (v := ?_) (a' := ?_) (by rfl) ?_ ?_ ?_; rotate_left 2; (focus (go_simp; first | done | rfl)); (focus ((try simp only [Kr.PT]); first | done | rfl)))
  (refine Kr.seqQ (v := ?_) (a' := ?_) (by rfl) ?_ ?_ ?_; rotate_left 2; (focus (go_simp; first | done | rfl)); (focus ((try simp only [Kr.PT]); first | done | rfl)))
  (refine Kr.seqQ (v := ?_) (a' := ?_) (by rfl) ?_ ?_ ?_; rotate_left 2; (focus (go_simp; first | done | rfl)); (focus ((try simp only [Kr.PT]); first | done | rfl)))
  (refine Kr.seqQ (v := .int .i64 (q : Int)) (a' := ?_) (by rfl) ?_ ?_ ?_; rotate_left 1; (focus (exact Kr.valOf rfl (conv32 (by omega)))); (focus ((try simp only [Kr.PT]); first | done | rfl)))
  (refine Kr.seqQ (v := .int .i64 (x : Int)) (a' := ?_) (by rfl) ?_ ?_ ?_; rotate_left 1; (focus (exact Kr.valOf rfl (remI (by omega) HYX.out (by omega)))); (focus ((try simp only [Kr.PT]); first | done | rfl)))
  (refine Kr.seqQ (v := ?_) (a' := ?_) (by rfl) ?_ ?_ ?_; rotate_left 2; (focus (go_simp; first | done | rfl)); (focus ((try simp only [Kr.PT]); first | done | rfl)))
  (refine Kr.seqQ (v := .bool true) (a' := ?_) (by rfl) ?_ ?_ ?_; rotate_left 1; (focus (exact Kr.valOf rfl (eqlI E2))); (focus ((try simp only [Kr.PT]); first | done | rfl)))
  (refine Kr.seqQ (v := ?_) (a' := ?_) (by rfl) ?_ ?_ ?_; rotate_left 2; (focus (go_simp; first | done | rfl)); (focus ((try simp only [Kr.PT]); first | done | rfl)))
  (refine Kr.seqQ (v := ?_) (a' := ?_) (by rfl) ?_ ?_ ?_; rotate_left 2; (focus (go_simp; first | done | rfl)); (focus ((try simp only [Kr.PT]); first | done | rfl)))
  (refine Kr.seqQ (v := .pointer (some ⟨ba, 32, none⟩)) (a' := ?_) (by rfl) ?_ ?_ ?_; rotate_left 1; (focus (go_simp; first | done | rfl)); (focus ((try simp only [Kr.PT]); first | done | rfl)))
  (refine Kr.seqQ (v := .int .i64 c2) (a' := ?_) (by rfl) ?_ ?_ ?_; rotate_left 1; (focus (exact Kr.valOf rfl (ldInt (rowCell (j := 32) (H.at 1 rfl) (tr_cnt _ hSl1))))); (focus ((try simp only [Kr.PT]); first | done | rfl)))
  (refine Kr.seqQ (v := .pointer (some ⟨bt, 32, none⟩)) (a' := ?_) (by rfl) ?_ ?_ ?_; rotate_left 1; (focus (go_simp; first | done | rfl)); (focus ((try simp only [Kr.PT]); first | done | rfl)))
  (refine Kr.seqQ (v := .int .i64 c) (a' := ?_) (by rfl) ?_ ?_ ?_; rotate_left 1; (focus (exact Kr.valOf rfl (ldInt (rowCell (j := 32) (H.at 2 rfl) (tr_cnt _ hst))))); (focus ((try simp only [Kr.PT]); first | done | rfl)))
  (refine Kr.seqQ (v := .int .i64 c2) (a' := ?_) (by rfl) ?_ ?_ ?_; rotate_left 1; (focus (exact Kr.valOf rfl (addI HADD.out))); (focus ((try simp only [Kr.PT]); first | done | rfl)))
  (refine Kr.seqQ (v := .bool true) (a' := ?_) (by rfl) ?_ ?_ ?_; rotate_left 1; (focus (exact Kr.valOf rfl (eqlI E3))); (focus ((try simp only [Kr.PT]); first | done | rfl)))
  (refine Kr.seqQ (v := ?_) (a' := ?_) (by rfl) ?_ ?_ ?_; rotate_left 2; (focus (go_simp; first | done | rfl)); (focus ((try simp only [Kr.PT]); first | done | rfl)))
  (refine Kr.seqQ (v := ?_) (a' := ?_) (by rfl) ?_ ?_ ?_; rotate_left 2; (focus (go_simp; first | done | rfl)); (focus ((try simp only [Kr.PT]); first | done | rfl)))
  refine Kr.seqDoneW ?_
  have hk := trivial
  go_wp2
  refine bodyPost_ret (v := .bool true) (by simp [results, Tryd.results4, go_sem, hk]) rfl ⟨rfl, H.g⟩
end Go.Proofs.YtldgjhmefaapeaaDoor.Dg
