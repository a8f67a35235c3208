/- The walk of NatformDigits. -/
import Derived.Test.YtlciocebbckdcaaQPf
import Derived.Deep.Cut
namespace Go.Proofs.Ytlciocebbckdcaa.Pf
open Go.RowKit Go.Shelf Go.Proofs.Ytlciocebbckdcaa.Nm Go.Proofs.Ytlciocebbckdcaa.Ne Go.Proofs.Ytlciocebbckdcaa.Nf Go.Proofs.Ytlciocebbckdcaa.Nk Go.Proofs.Ytlciocebbckdcaa.Nv Go.Proofs.Ytlciocebbckdcaa.Nr2 Go.Proofs.Ytlciocebbckdcaa.Kr Go.Proofs.Ytlciocebbckdcaa.Fb Go.Proofs.Ytlciocebbckdcaa.Ff Go.Proofs.Ytlciocebbckdcaa.Mo Go.Proofs.Ytlciocebbckdcaa.Rf Go.Proofs.Ytlciocebbckdcaa.Nl

theorem str_extract (l : List Nat) (a b : Nat) : (str l).extract a b = str ((l.drop a).take (b - a)) := by
  apply ByteArray.ext
  simp [str, ByteArray.data_extract]
theorem const_sm : (⟨#[48, 49, 50, 51, 52, 53, 54, 55, 56, 57, 97, 98, 99, 100, 101, 102]⟩ : ByteArray) = str ((List.range 16).map sm) := rfl
theorem run_sub {w : World} (s : ByteArray) {a b : Nat} (h : a ≤ b) (hb : b ≤ s.size) : (Instr.slice 9 (.string s) (some (.int .u8 (a : Int))) (some (.int .u8 (b : Int))) none).run Try.prog w = .ok (.string (s.extract a b)) w := by
  have h1 : (a : Int) ≤ (b : Int) := by omega
  have h2 : (b : Int) ≤ (s.size : Int) := by omega
  go_simp
theorem run_digit {w : World} {d : Nat} (h : d < 16) : (Instr.slice 9 (.string ⟨#[48, 49, 50, 51, 52, 53, 54, 55, 56, 57, 97, 98, 99, 100, 101, 102]⟩) (some (.int .u8 (d : Int))) (some (.int .u8 ((d + 1 : Nat) : Int))) none).run Try.prog w = .ok (.string (str [sm d])) w := by
  have e : (⟨#[48, 49, 50, 51, 52, 53, 54, 55, 56, 57, 97, 98, 99, 100, 101, 102]⟩ : ByteArray).extract d (d + 1) = str [sm d] := by
    rw [const_sm, str_extract, Nat.add_sub_cancel_left]
    congr 1
    rw [← List.map_drop, ← List.map_take, List.drop_eq_getElem_cons (by simpa using h)]
    simp
  rw [← e]
  exact run_sub _ (Nat.le_succ d) (show d + 1 ≤ 16 from h)
theorem run_tail {w : World} {d : Nat} {l : List Nat} : (Instr.slice 9 (.string (str (d :: l))) (some (.int .i64 1)) none none).run Try.prog w = .ok (.string (str l)) w := by
  have e : (str (d :: l)).extract 1 (str (d :: l)).size = str l := by
    rw [str_extract, str_size]
    simp
  rw [← e]
  have hs : 1 ≤ (str (d :: l)).size := by rw [str_size]; simp
  generalize str (d :: l) = s at hs ⊢
  have h2 : (1 : Int) ≤ (s.size : Int) := by omega
  go_simp
theorem run_hi {w : World} {x z : Nat} (hx : x / 16 = z) : (binOp .shr 5 (.int .u8 (x : Int)) (.int .u64 4)).run Try.prog w = .ok (.int .u8 (z : Int)) w := by
  have h : (x : Int) / 16 = (z : Int) := by omega
  clear hx
  go_simp
theorem run_lo {w : World} {x z : Nat} (h0 : x < 256) (hx : x % 16 = z) : (binOp .and 5 (.int .u8 (x : Int)) (.int .u8 15)).run Try.prog w = .ok (.int .u8 (z : Int)) w := by
  have h : bits .and .u8 (x : Int) 15 = (z : Int) := by
    have h1 : (BitVec.ofInt 8 (x : Int)).toNat = x := by
      rw [BitVec.ofInt_natCast, BitVec.toNat_ofNat]; exact Nat.mod_eq_of_lt (by omega)
    have h2 : (BitVec.ofInt 8 (15 : Int)).toNat = 15 := rfl
    show IntKind.u8.wrap ((BitVec.ofInt 8 (x : Int) &&& BitVec.ofInt 8 (15 : Int)).toNat : Int) = _
    rw [BitVec.toNat_and, h1, h2, IntWalk.u8_in _ (by have := Nat.and_le_right (n := x) (m := 15); omega), show x &&& 15 = z by rw [← hx]; exact Nat.and_two_pow_sub_one_eq_mod x 4]
  clear hx
  go_simp
theorem run_inc8 {w : World} {x : Nat} (h0 : x < 200) : (binOp .add 5 (.int .u8 (x : Int)) (.int .u8 1)).run Try.prog w = .ok (.int .u8 ((x + 1 : Nat) : Int)) w := by
  have h : IntKind.u8.wrap ((x : Int) + 1) = ((x + 1 : Nat) : Int) := by rw [IntWalk.u8_in _ (by omega)]; omega
  go_simp
/-- The half bytes. -/
def half (l : List Nat) : List Nat := l.flatMap fun x => [x / 16, x % 16]
theorem half_snoc (l : List Nat) (x : Nat) : half (l ++ [x]) = half l ++ [x / 16, x % 16] := by simp [half]
theorem half_lt {l : List Nat} (h : ∀ x ∈ l, x < 256) : ∀ d ∈ half l, d < 16 := by
  intro d hd
  obtain ⟨x, hx, hd⟩ := List.mem_flatMap.1 hd
  have := h x hx
  simp at hd
  rcases hd with rfl | rfl <;> omega
theorem half_len (l : List Nat) : (half l).length = 2 * l.length := by
  induction l with
  | nil => rfl
  | cons x l ih => simp [half, List.flatMap_cons] at ih ⊢; omega
theorem half_val (l : List Nat) : dval 16 (half l) = dval 256 l := by
  induction l using snoc_ind with
  | h0 => rfl
  | h1 l x ih =>
    rw [half_snoc, dval_snoc, ← ih, show half l ++ [x / 16, x % 16] = (half l ++ [x / 16]) ++ [x % 16] by simp, dval_snoc, dval_snoc]
    omega
/-- Digits without leading zeros, or one digit alone, are the string of their number. -/
theorem txt_of {D : List Nat} (h : ∀ d ∈ D, d < 16) (h1 : ∀ d, D.head? = some d → d = 0 → D.length = 1) (h0 : D ≠ []) : txt 16 (dval 16 D) = D.map sm := by
  by_cases hz : dval 16 D = 0
  · have hD : D = [0] := by
      match D, h0 with
      | d :: l, _ =>
        rw [dval_cons] at hz
        have hd : d = 0 := by
          rcases Nat.eq_zero_or_pos d with h2 | h2
          · exact h2
          · have := Nat.mul_pos h2 (Nat.pow_pos (n := l.length) (show 0 < 16 by decide)); omega
        have hl := h1 d rfl hd
        have : l = [] := List.eq_nil_of_length_eq_zero (by simpa using hl)
        rw [hd, this]
    subst hD
    rw [txt, if_pos hz]
    rfl
  · rw [txt, if_neg hz]
    have hh : ∀ d, D.head? = some d → d ≠ 0 := by
      intro d hd e
      have hl := h1 d hd e
      match D, hd, hl with
      | y :: l, hd, hl =>
        have : l = [] := List.eq_nil_of_length_eq_zero (by simpa using hl)
        subst this
        have : y = d := Option.some.inj hd
        subst this; subst e
        exact hz rfl
    rw [low_dval (by decide) D h hh]
set_option linter.unusedSimpArgs false in
set_option maxRecDepth 100000 in
set_option maxHeartbeats 16000000 in
theorem digits_great {pn : Option Addr} {nn cn : Nat} {w : World} (hg : 100 < nn) :
    Calls Try.prog 17 #[.agg #[.slice pn nn cn]] w fun e w' => e = .returned (.bool true) ∧ Gr w w' := by
  have HG := Lib.hid hg
  clear hg
  have H := Sta.start w
  go_enter Try.func17, Try.ntmps17
  go_upto_region 0 with fail
  refine Kr.seqStartW ?_
  refine Kr.seqR (by rfl) (fun K hK => ?_)
  go_simp
  obtain ⟨y1, hy⟩ : ∃ y, w.alloc (.cells #[.slice pn nn cn] 24) = y := ⟨_, rfl⟩
  obtain ⟨bn, hb⟩ : ∃ b, w.heap.size = b := ⟨_, rfl⟩
  rw [hy, hb]
  replace H := H.alloc hy hb rfl
  clear hy hb
  (refine Kr.outS hK (a' := ?_) ?_ ?_; rotate_left; (focus ((try simp only [Act.put, List.getElem_toArray, List.getElem_cons_zero, List.getElem_cons_succ, List.setIfInBounds_toArray, List.set_cons_zero, List.set_cons_succ]); first | done | rfl))); clear hK K
  (refine Kr.seqQ (v := ?_) (a' := ?_) (by rfl) ?_ ?_ ?_; rotate_left 2; (focus (go_simp; first | done | rfl)); (focus ((try simp only [Act.put, List.getElem_toArray, List.getElem_cons_zero, List.getElem_cons_succ, List.setIfInBounds_toArray, List.set_cons_zero, List.set_cons_succ]); first | done | rfl)))
  refine Kr.seqDoneW ?_
  go_upto_region 1 with fail
  refine Kr.seqStartW ?_
  refine Kr.seqR (by rfl) (fun K hK => ?_)
  go_simp
  go_at_call 53
  refine (awake4 _).mono ?_
  rintro e y2 ⟨rfl, hg⟩
  replace H := H.grow hg
  clear hg
  (refine Kr.outS hK (a' := ?_) ?_ ?_; rotate_left; (focus ((try simp only [Act.put, List.getElem_toArray, List.getElem_cons_zero, List.getElem_cons_succ, List.setIfInBounds_toArray, List.set_cons_zero, List.set_cons_succ]); first | done | rfl))); clear hK K
  (refine Kr.seqQ (v := ?_) (a' := ?_) (by rfl) ?_ ?_ ?_; rotate_left 2; (focus (go_simp; first | done | rfl)); (focus ((try simp only [Act.put, List.getElem_toArray, List.getElem_cons_zero, List.getElem_cons_succ, List.setIfInBounds_toArray, List.set_cons_zero, List.set_cons_succ]); first | done | rfl)))
  refine Kr.seqDoneW ?_
  go_upto_region 3 with fail
  refine Kr.seqStartW ?_
  have hk := H.c
  simp only [Kr.Cells] at hk
  (refine Kr.seqQ (v := ?_) (a' := ?_) (by rfl) ?_ ?_ ?_; rotate_left 2; (focus (go_simp; first | done | rfl)); (focus ((try simp only [Act.put, List.getElem_toArray, List.getElem_cons_zero, List.getElem_cons_succ, List.setIfInBounds_toArray, List.set_cons_zero, List.set_cons_succ]); first | done | rfl)))
  refine Kr.seqR (by rfl) (fun K hK => ?_)
  go_simp
  go_at_call 54
  refine (great4_yes HG.out).mono ?_
  rintro e y3 ⟨rfl, hg⟩
  clear hk
  replace H := H.grow hg
  clear hg
  (refine Kr.outS hK (a' := ?_) ?_ ?_; rotate_left; (focus ((try simp only [Act.put, List.getElem_toArray, List.getElem_cons_zero, List.getElem_cons_succ, List.setIfInBounds_toArray, List.set_cons_zero, List.set_cons_succ]); first | done | rfl))); clear hK K
  (refine Kr.seqQ (v := ?_) (a' := ?_) (by rfl) ?_ ?_ ?_; rotate_left 2; (focus (go_simp; first | done | rfl)); (focus ((try simp only [Act.put, List.getElem_toArray, List.getElem_cons_zero, List.getElem_cons_succ, List.setIfInBounds_toArray, List.set_cons_zero, List.set_cons_succ]); first | done | rfl)))
  (refine Kr.seqSkipQ (a' := ?_) (by rfl) ?_ ?_; rotate_left; (focus ((try simp only [Act.put, List.getElem_toArray, List.getElem_cons_zero, List.getElem_cons_succ, List.setIfInBounds_toArray, List.set_cons_zero, List.set_cons_succ]); first | done | rfl)))
  (refine Kr.seqSkipQ (a' := ?_) (by rfl) ?_ ?_; rotate_left; (focus ((try simp only [Act.put, List.getElem_toArray, List.getElem_cons_zero, List.getElem_cons_succ, List.setIfInBounds_toArray, List.set_cons_zero, List.set_cons_succ]); first | done | rfl)))
  (refine Kr.seqSkipQ (a' := ?_) (by rfl) ?_ ?_; rotate_left; (focus ((try simp only [Act.put, List.getElem_toArray, List.getElem_cons_zero, List.getElem_cons_succ, List.setIfInBounds_toArray, List.set_cons_zero, List.set_cons_succ]); first | done | rfl)))
  (refine Kr.seqQ (v := ?_) (a' := ?_) (by rfl) ?_ ?_ ?_; rotate_left 2; (focus (go_simp; first | done | rfl)); (focus ((try simp only [Act.put, List.getElem_toArray, List.getElem_cons_zero, List.getElem_cons_succ, List.setIfInBounds_toArray, List.set_cons_zero, List.set_cons_succ]); first | done | rfl)))
  refine Kr.seqDoneW ?_
  go_upto_region 4 with fail
  refine Kr.seqStartW ?_
  (refine Kr.seqQ (v := ?_) (a' := ?_) (by rfl) ?_ ?_ ?_; rotate_left 2; (focus (go_simp; first | done | rfl)); (focus ((try simp only [Act.put, List.getElem_toArray, List.getElem_cons_zero, List.getElem_cons_succ, List.setIfInBounds_toArray, List.set_cons_zero, List.set_cons_succ]); first | done | rfl)))
  refine Kr.seqDoneW ?_
  go_wp2
  go_ret
  exact ⟨rfl, H.g⟩
set_option linter.unusedSimpArgs false in
set_option maxRecDepth 100000 in
set_option maxHeartbeats 16000000 in
theorem digits_bad {pn : Option Addr} {nn cn : Nat} {l : List Nat} {w : World} (hn : Nw w pn nn cn l) (hg : nn ≤ 100) (hv : ¬ valid l) :
    Calls Try.prog 17 #[.agg #[.slice pn nn cn]] w fun e w' => e = .returned (.bool true) ∧ Gr w w' := by
  have HG := Lib.hid hg
  have HV := Lib.hid hv
  clear hg hv
  have H := Sta.start w
  replace H := H.add (keepWs _ _ _ _) hn
  go_enter Try.func17, Try.ntmps17
  go_upto_region 0 with fail
  refine Kr.seqStartW ?_
  refine Kr.seqR (by rfl) (fun K hK => ?_)
  go_simp
  obtain ⟨y1, hy⟩ : ∃ y, w.alloc (.cells #[.slice pn nn cn] 24) = y := ⟨_, rfl⟩
  obtain ⟨bn, hb⟩ : ∃ b, w.heap.size = b := ⟨_, rfl⟩
  rw [hy, hb]
  replace H := H.alloc hy hb rfl
  clear hy hb
  (refine Kr.outS hK (a' := ?_) ?_ ?_; rotate_left; (focus ((try simp only [Act.put, List.getElem_toArray, List.getElem_cons_zero, List.getElem_cons_succ, List.setIfInBounds_toArray, List.set_cons_zero, List.set_cons_succ]); first | done | rfl))); clear hK K
  (refine Kr.seqQ (v := ?_) (a' := ?_) (by rfl) ?_ ?_ ?_; rotate_left 2; (focus (go_simp; first | done | rfl)); (focus ((try simp only [Act.put, List.getElem_toArray, List.getElem_cons_zero, List.getElem_cons_succ, List.setIfInBounds_toArray, List.set_cons_zero, List.set_cons_succ]); first | done | rfl)))
  refine Kr.seqDoneW ?_
  go_upto_region 1 with fail
  refine Kr.seqStartW ?_
  refine Kr.seqR (by rfl) (fun K hK => ?_)
  go_simp
  go_at_call 53
  refine (awake4 _).mono ?_
  rintro e y2 ⟨rfl, hg⟩
  replace H := H.grow hg
  clear hg
  (refine Kr.outS hK (a' := ?_) ?_ ?_; rotate_left; (focus ((try simp only [Act.put, List.getElem_toArray, List.getElem_cons_zero, List.getElem_cons_succ, List.setIfInBounds_toArray, List.set_cons_zero, List.set_cons_succ]); first | done | rfl))); clear hK K
  (refine Kr.seqQ (v := ?_) (a' := ?_) (by rfl) ?_ ?_ ?_; rotate_left 2; (focus (go_simp; first | done | rfl)); (focus ((try simp only [Act.put, List.getElem_toArray, List.getElem_cons_zero, List.getElem_cons_succ, List.setIfInBounds_toArray, List.set_cons_zero, List.set_cons_succ]); first | done | rfl)))
  refine Kr.seqDoneW ?_
  go_upto_region 3 with fail
  refine Kr.seqStartW ?_
  have hk := H.c
  simp only [Kr.Cells] at hk
  (refine Kr.seqQ (v := ?_) (a' := ?_) (by rfl) ?_ ?_ ?_; rotate_left 2; (focus (go_simp; first | done | rfl)); (focus ((try simp only [Act.put, List.getElem_toArray, List.getElem_cons_zero, List.getElem_cons_succ, List.setIfInBounds_toArray, List.set_cons_zero, List.set_cons_succ]); first | done | rfl)))
  refine Kr.seqR (by rfl) (fun K hK => ?_)
  go_simp
  go_at_call 54
  refine (great4_no HG.out).mono ?_
  rintro e y3 ⟨rfl, hg⟩
  clear hk
  replace H := H.grow hg
  clear hg
  (refine Kr.outS hK (a' := ?_) ?_ ?_; rotate_left; (focus ((try simp only [Act.put, List.getElem_toArray, List.getElem_cons_zero, List.getElem_cons_succ, List.setIfInBounds_toArray, List.set_cons_zero, List.set_cons_succ]); first | done | rfl))); clear hK K
  (refine Kr.seqQ (v := ?_) (a' := ?_) (by rfl) ?_ ?_ ?_; rotate_left 2; (focus (go_simp; first | done | rfl)); (focus ((try simp only [Act.put, List.getElem_toArray, List.getElem_cons_zero, List.getElem_cons_succ, List.setIfInBounds_toArray, List.set_cons_zero, List.set_cons_succ]); first | done | rfl)))
  have hk := H.c
  simp only [Kr.Cells] at hk
  (refine Kr.seqQ (v := ?_) (a' := ?_) (by rfl) ?_ ?_ ?_; rotate_left 2; (focus (go_simp; first | done | rfl)); (focus ((try simp only [Act.put, List.getElem_toArray, List.getElem_cons_zero, List.getElem_cons_succ, List.setIfInBounds_toArray, List.set_cons_zero, List.set_cons_succ]); first | done | rfl)))
  refine Kr.seqR (by rfl) (fun K hK => ?_)
  go_simp
  go_at_call 55
  refine (valid4_any _ _ _ l _ (H.ws 0 rfl)).mono ?_
  rintro e y4 ⟨rfl, hg⟩
  rw [decide_eq_false HV.out]
  clear hk
  replace H := H.grow hg
  clear hg
  (refine Kr.outS hK (a' := ?_) ?_ ?_; rotate_left; (focus ((try simp only [Act.put, List.getElem_toArray, List.getElem_cons_zero, List.getElem_cons_succ, List.setIfInBounds_toArray, List.set_cons_zero, List.set_cons_succ]); first | done | rfl))); clear hK K
  iterate 2 (refine Kr.seqQ (v := ?_) (a' := ?_) (by rfl) ?_ ?_ ?_; rotate_left 2; (focus (go_simp; first | done | rfl)); (focus ((try simp only [Act.put, List.getElem_toArray, List.getElem_cons_zero, List.getElem_cons_succ, List.setIfInBounds_toArray, List.set_cons_zero, List.set_cons_succ]); first | done | rfl)))
  refine Kr.seqDoneW ?_
  go_upto_region 4 with fail
  refine Kr.seqStartW ?_
  (refine Kr.seqQ (v := ?_) (a' := ?_) (by rfl) ?_ ?_ ?_; rotate_left 2; (focus (go_simp; first | done | rfl)); (focus ((try simp only [Act.put, List.getElem_toArray, List.getElem_cons_zero, List.getElem_cons_succ, List.setIfInBounds_toArray, List.set_cons_zero, List.set_cons_succ]); first | done | rfl)))
  refine Kr.seqDoneW ?_
  go_wp2
  go_ret
  exact ⟨rfl, H.g⟩
set_option linter.unusedSimpArgs false in
set_option maxRecDepth 100000 in
set_option maxHeartbeats 16000000 in
theorem digits_ok {pn : Option Addr} {nn cn : Nat} {x : Nat} {w : World} (hn : Nw w pn nn cn (digs x)) (hg : nn ≤ 100) (hx : x < pw 64) :
    Calls Try.prog 17 #[.agg #[.slice pn nn cn]] w fun e w' => e = .returned (.bool true) ∧ Gr w w' := by
  obtain ⟨m, hN⟩ : ∃ m, 4 * nn = m := ⟨_, rfl⟩
  have HFIT : Hid ((low 256 x).reverse.length ≤ m) := Lib.hid (by rw [← hN]; exact fits_words hn.len 0)
  have hn64 : nn ≤ 64 := by rw [← hn.len]; exact (digs_length_le x 64).2 hx
  have hm1 : m ≤ 256 := by omega
  have HM1 : Hid (m ≤ 1000) := Lib.hid (by omega)
  have HNE := Lib.hid hN; have HN64 := Lib.hid hn64
  clear hN hn64
  have HG := Lib.hid hg
  have HX := Lib.hid hx
  clear hg hx
  have H := Sta.start w
  replace H := H.num hn
  go_enter Try.func17, Try.ntmps17
  obtain ⟨l, hl⟩ : ∃ l, pad m (low 256 x).reverse = l := ⟨_, rfl⟩
  have HLL := Lib.hid hl; have HLM : Hid (l.length = m) := Lib.hid (by rw [← hl, pad_len HFIT.out]); have HL256 : Hid (∀ d ∈ l, d < 256) := Lib.hid (by rw [← hl]; exact pad_lt fun d hd => low_lt (by decide) x d (List.mem_reverse.1 hd)); have HLV : Hid (dval 256 l = x) := Lib.hid (by rw [← hl, dval_pad, dval_low (by decide)])
  clear hl
  go_upto_region 0 with fail
  refine Kr.seqStartW ?_
  refine Kr.seqR (by rfl) (fun K hK => ?_)
  go_simp
  obtain ⟨y1, hy⟩ : ∃ y, w.alloc (.cells #[.slice pn nn cn] 24) = y := ⟨_, rfl⟩
  obtain ⟨bn, hb⟩ : ∃ b, w.heap.size = b := ⟨_, rfl⟩
  rw [hy, hb]
  replace H := H.alloc hy hb rfl
  clear hy hb
  (refine Kr.outS hK (a' := ?_) ?_ ?_; rotate_left; (focus ((try simp only [Act.put, List.getElem_toArray, List.getElem_cons_zero, List.getElem_cons_succ, List.setIfInBounds_toArray, List.set_cons_zero, List.set_cons_succ]); first | done | rfl))); clear hK K
  (refine Kr.seqQ (v := ?_) (a' := ?_) (by rfl) ?_ ?_ ?_; rotate_left 2; (focus (go_simp; first | done | rfl)); (focus ((try simp only [Act.put, List.getElem_toArray, List.getElem_cons_zero, List.getElem_cons_succ, List.setIfInBounds_toArray, List.set_cons_zero, List.set_cons_succ]); first | done | rfl)))
  refine Kr.seqDoneW ?_
  go_upto_region 1 with fail
  refine Kr.seqStartW ?_
  refine Kr.seqR (by rfl) (fun K hK => ?_)
  go_simp
  go_at_call 53
  refine (awake4 _).mono ?_
  rintro e y2 ⟨rfl, hg⟩
  replace H := H.grow hg
  clear hg
  (refine Kr.outS hK (a' := ?_) ?_ ?_; rotate_left; (focus ((try simp only [Act.put, List.getElem_toArray, List.getElem_cons_zero, List.getElem_cons_succ, List.setIfInBounds_toArray, List.set_cons_zero, List.set_cons_succ]); first | done | rfl))); clear hK K
  (refine Kr.seqQ (v := ?_) (a' := ?_) (by rfl) ?_ ?_ ?_; rotate_left 2; (focus (go_simp; first | done | rfl)); (focus ((try simp only [Act.put, List.getElem_toArray, List.getElem_cons_zero, List.getElem_cons_succ, List.setIfInBounds_toArray, List.set_cons_zero, List.set_cons_succ]); first | done | rfl)))
  refine Kr.seqDoneW ?_
  go_upto_region 3 with fail
  refine Kr.seqStartW ?_
  have hk := H.c
  simp only [Kr.Cells] at hk
  (refine Kr.seqQ (v := ?_) (a' := ?_) (by rfl) ?_ ?_ ?_; rotate_left 2; (focus (go_simp; first | done | rfl)); (focus ((try simp only [Act.put, List.getElem_toArray, List.getElem_cons_zero, List.getElem_cons_succ, List.setIfInBounds_toArray, List.set_cons_zero, List.set_cons_succ]); first | done | rfl)))
  refine Kr.seqR (by rfl) (fun K hK => ?_)
  go_simp
  go_at_call 54
  refine (great4_no HG.out).mono ?_
  rintro e y3 ⟨rfl, hg⟩
  clear hk
  replace H := H.grow hg
  clear hg
  (refine Kr.outS hK (a' := ?_) ?_ ?_; rotate_left; (focus ((try simp only [Act.put, List.getElem_toArray, List.getElem_cons_zero, List.getElem_cons_succ, List.setIfInBounds_toArray, List.set_cons_zero, List.set_cons_succ]); first | done | rfl))); clear hK K
  (refine Kr.seqQ (v := ?_) (a' := ?_) (by rfl) ?_ ?_ ?_; rotate_left 2; (focus (go_simp; first | done | rfl)); (focus ((try simp only [Act.put, List.getElem_toArray, List.getElem_cons_zero, List.getElem_cons_succ, List.setIfInBounds_toArray, List.set_cons_zero, List.set_cons_succ]); first | done | rfl)))
  have hk := H.c
  simp only [Kr.Cells] at hk
  (refine Kr.seqQ (v := ?_) (a' := ?_) (by rfl) ?_ ?_ ?_; rotate_left 2; (focus (go_simp; first | done | rfl)); (focus ((try simp only [Act.put, List.getElem_toArray, List.getElem_cons_zero, List.getElem_cons_succ, List.setIfInBounds_toArray, List.set_cons_zero, List.set_cons_succ]); first | done | rfl)))
  refine Kr.seqR (by rfl) (fun K hK => ?_)
  go_simp
  go_at_call 55
  refine (valid4_any _ _ _ _ _ (H.nw 0 rfl)).mono ?_
  rintro e y4 ⟨rfl, hg⟩
  rw [dv HX.out]
  clear hk
  replace H := H.grow hg
  clear hg
  (refine Kr.outS hK (a' := ?_) ?_ ?_; rotate_left; (focus ((try simp only [Act.put, List.getElem_toArray, List.getElem_cons_zero, List.getElem_cons_succ, List.setIfInBounds_toArray, List.set_cons_zero, List.set_cons_succ]); first | done | rfl))); clear hK K
  iterate 2 (refine Kr.seqQ (v := ?_) (a' := ?_) (by rfl) ?_ ?_ ?_; rotate_left 2; (focus (go_simp; first | done | rfl)); (focus ((try simp only [Act.put, List.getElem_toArray, List.getElem_cons_zero, List.getElem_cons_succ, List.setIfInBounds_toArray, List.set_cons_zero, List.set_cons_succ]); first | done | rfl)))
  refine Kr.seqDoneW ?_
  go_upto_region 5 with fail
  refine Kr.seqStartW ?_
  have hk := H.c
  simp only [Kr.Cells] at hk
  iterate 4 (refine Kr.seqQ (v := ?_) (a' := ?_) (by rfl) ?_ ?_ ?_; rotate_left 2; (focus (go_simp; first | done | rfl)); (focus ((try simp only [Act.put, List.getElem_toArray, List.getElem_cons_zero, List.getElem_cons_succ, List.setIfInBounds_toArray, List.set_cons_zero, List.set_cons_succ]); first | done | rfl)))
  (refine Kr.seqQ (v := .int .i64 (m : Int)) (a' := ?_) (by rfl) ?_ ?_ ?_; rotate_left 1; (focus (exact val_of rfl (run_muli (x := 4) (by have h := HN64.out; omega) HNE.out))); (focus ((try simp only [Act.put, List.getElem_toArray, List.getElem_cons_zero, List.getElem_cons_succ, List.setIfInBounds_toArray, List.set_cons_zero, List.set_cons_succ]); first | done | rfl)))
  refine Kr.seqR (by rfl) (fun K hK => ?_)
  go_simp
  go_at_call 63
  refine (bytes_ok (H.nw 0 rfl) HX.out HM1.out rfl HFIT.out).mono ?_
  rintro e y5 ⟨pl, nl, cl, rfl, hr, hg⟩
  rw [HLL.out] at hr
  have hnl : m = nl := by rw [← hr.len, HLM.out]
  subst hnl
  clear hk
  replace H := H.grow hg
  replace H := H.add (keepB _ _ _ _) hr
  clear hr hg
  (refine Kr.outS hK (a' := ?_) ?_ ?_; rotate_left; (focus ((try simp only [Act.put, List.getElem_toArray, List.getElem_cons_zero, List.getElem_cons_succ, List.setIfInBounds_toArray, List.set_cons_zero, List.set_cons_succ]); first | done | rfl))); clear hK K
  iterate 5 (refine Kr.seqQ (v := ?_) (a' := ?_) (by rfl) ?_ ?_ ?_; rotate_left 2; (focus (go_simp; first | done | rfl)); (focus ((try simp only [Act.put, List.getElem_toArray, List.getElem_cons_zero, List.getElem_cons_succ, List.setIfInBounds_toArray, List.set_cons_zero, List.set_cons_succ]); first | done | rfl)))
  refine Kr.seqDoneW ?_
  go_upto_region 6 with fail
  refine Kr.seqStartW ?_
  iterate 2 (refine Kr.seqQ (v := ?_) (a' := ?_) (by rfl) ?_ ?_ ?_; rotate_left 2; (focus (go_simp; first | done | rfl)); (focus ((try simp only [Act.put, List.getElem_toArray, List.getElem_cons_zero, List.getElem_cons_succ, List.setIfInBounds_toArray, List.set_cons_zero, List.set_cons_succ]); first | done | rfl)))
  refine Kr.seqDoneW ?_
  go_upto_region 8 with fail
  refine Kr.seqStartW ?_
  (refine Kr.seqQ (v := ?_) (a' := ?_) (by rfl) ?_ ?_ ?_; rotate_left 2; (focus (go_simp; first | done | rfl)); (focus ((try simp only [Act.put, List.getElem_toArray, List.getElem_cons_zero, List.getElem_cons_succ, List.setIfInBounds_toArray, List.set_cons_zero, List.set_cons_succ]); first | done | rfl)))
  refine Kr.seqDoneW ?_
  go_upto_region 9 with fail
  refine Kr.seqStartW ?_
  iterate 3 (refine Kr.seqQ (v := ?_) (a' := ?_) (by rfl) ?_ ?_ ?_; rotate_left 2; (focus (go_simp; first | done | rfl)); (focus ((try simp only [Act.put, List.getElem_toArray, List.getElem_cons_zero, List.getElem_cons_succ, List.setIfInBounds_toArray, List.set_cons_zero, List.set_cons_succ]); first | done | rfl)))
  refine Kr.seqDoneW ?_
  have H2 : Hid (Sta w y5 [(bn, 0, .slice pn nn cn)] [N pn nn cn (x), B pl m cl l]) := Lib.hid (H.pick [1, 0] rfl)
  go_wp2
  go_loopw [5, 7, 30] (fun sv _ i wr => ∃ k : Nat, k ≤ m ∧ sv = .string (str ((half (l.take k)).map sm)) ∧ i = .int .i64 (k : Int) ∧ Hid (Sta w wr [(bn, 0, .slice pn nn cn)] [N pn nn cn (x), B pl m cl l])) (fun _ _ i _ => m - (intOf i).toNat)
  case atStart => exact ⟨0, Nat.zero_le _, rfl, rfl, H2⟩
  case round =>
    clear H H2
    obtain ⟨k, hk, rfl, rfl, HH⟩ := hrel
    have H := HH.out
    clear HH
    by_cases hlt : k < m
    · obtain ⟨b0, off, ep, hc⟩ := (H.fact 1 rfl : B pl m cl l wr).at hlt
      subst ep
      have hkl : k < l.length := by rw [HLM.out]; exact hlt
      obtain ⟨d, hd⟩ : ∃ d, l[k]?.getD 0 = d := ⟨_, rfl⟩
      rw [hd] at hc
      have HD256 : Hid (d < 256) := Lib.hid (by rw [← hd]; exact HL256.out _ (get_mem hkl))
      have HST : Hid (half (l.take (k + 1)) = half (l.take k) ++ [d / 16, d % 16]) := Lib.hid (by rw [← half_snoc, List.take_add_one, ← hd, List.getElem?_eq_getElem hkl]; rfl)
      have HLE : Hid ((half (l.take k)).length ≤ 512) := Lib.hid (by rw [half_len, List.length_take]; omega)
      clear hd hkl
      obtain ⟨hi, hhi⟩ : ∃ hi, d / 16 = hi := ⟨_, rfl⟩
      obtain ⟨lo, hlo⟩ : ∃ lo, d % 16 = lo := ⟨_, rfl⟩
      rw [hhi, hlo] at HST
      have HHI := Lib.hid hhi; have HLO := Lib.hid hlo; have HHI16 : Hid (hi < 16) := Lib.hid (by have h := HD256.out; omega); have HLO16 : Hid (lo < 16) := Lib.hid (by omega)
      clear hhi hlo
      have k0 : (0 : Int) ≤ (k : Int) := by omega
      have k1 : (k : Int) < (m : Int) := by omega
      have kt : ((k : Int)).toNat = k := by omega
      have kw : IntKind.i64.wrap ((k : Int) + 1) = (k : Int) + 1 := IntWalk.i64_in _ (by omega)
      go_upto_region 11 with fail
      refine Kr.seqStartW ?_
      (refine Kr.seqQ (v := ?_) (a' := ?_) (by rfl) ?_ ?_ ?_; rotate_left 2; (focus (go_simp; first | done | rfl)); (focus ((try simp only [Act.put, List.getElem_toArray, List.getElem_cons_zero, List.getElem_cons_succ, List.setIfInBounds_toArray, List.set_cons_zero, List.set_cons_succ]); first | done | rfl)))
      have hk := H.c
      simp only [Kr.Cells] at hk
      iterate 2 (refine Kr.seqQ (v := ?_) (a' := ?_) (by rfl) ?_ ?_ ?_; rotate_left 2; (focus (go_simp; first | done | rfl)); (focus ((try simp only [Act.put, List.getElem_toArray, List.getElem_cons_zero, List.getElem_cons_succ, List.setIfInBounds_toArray, List.set_cons_zero, List.set_cons_succ]); first | done | rfl)))
      clear hk
      refine Kr.seqDoneW ?_
      clear hc
      go_upto_region 12 with fail
      refine Kr.startL (fun W' => Kr.Cells W' []) [] (by kernel_rfl) ?_
      have gd : Gr wr wr.drew := (Gr.refl _).drew
      generalize wr.drew = d6 at gd ⊢
      replace H := H.grow gd
      clear gd
      (refine Kr.tPQ 0 (v := ?_) (a' := ?_) rfl (by kernel_rfl) (fun _ _ _ h => h) (by rfl) (fun _ => (H.sub [] rfl)) (fun wx => ?_) ?_ ?_; rotate_left 2; (focus (go_simp; first | done | rfl)); (focus ((try simp only [Act.put, List.getElem_toArray, List.getElem_cons_zero, List.getElem_cons_succ, List.setIfInBounds_toArray, List.set_cons_zero, List.set_cons_succ]); first | done | rfl)))
      (refine Kr.tPQ 1 (v := ?_) (a' := ?_) rfl (by kernel_rfl) (fun _ _ _ h => h) (by rfl) (fun _ => (H.sub [] rfl)) (fun wx => ?_) ?_ ?_; rotate_left 2; (focus (go_simp; first | done | rfl)); (focus ((try simp only [Act.put, List.getElem_toArray, List.getElem_cons_zero, List.getElem_cons_succ, List.setIfInBounds_toArray, List.set_cons_zero, List.set_cons_succ]); first | done | rfl)))
      (refine Kr.tPQ 2 (v := .int .u8 (hi : Int)) (a' := ?_) rfl (by kernel_rfl) (fun _ _ _ h => h) (by rfl) (fun _ => (H.sub [] rfl)) (fun wx => ?_) ?_ ?_; rotate_left 1; (focus (exact Fb.val_of rfl (run_hi HHI.out))); (focus ((try simp only [Act.put, List.getElem_toArray, List.getElem_cons_zero, List.getElem_cons_succ, List.setIfInBounds_toArray, List.set_cons_zero, List.set_cons_succ]); first | done | rfl)))
      (refine Kr.tPQ 3 (v := ?_) (a' := ?_) rfl (by kernel_rfl) (fun _ _ _ h => h) (by rfl) (fun _ => (H.sub [] rfl)) (fun wx => ?_) ?_ ?_; rotate_left 2; (focus (go_simp; first | done | rfl)); (focus ((try simp only [Act.put, List.getElem_toArray, List.getElem_cons_zero, List.getElem_cons_succ, List.setIfInBounds_toArray, List.set_cons_zero, List.set_cons_succ]); first | done | rfl)))
      (refine Kr.tPQ 4 (v := .int .u8 (hi : Int)) (a' := ?_) rfl (by kernel_rfl) (fun _ _ _ h => h) (by rfl) (fun _ => (H.sub [] rfl)) (fun wx => ?_) ?_ ?_; rotate_left 1; (focus (exact Fb.val_of rfl (run_hi HHI.out))); (focus ((try simp only [Act.put, List.getElem_toArray, List.getElem_cons_zero, List.getElem_cons_succ, List.setIfInBounds_toArray, List.set_cons_zero, List.set_cons_succ]); first | done | rfl)))
      (refine Kr.tPQ 5 (v := .int .u8 ((hi + 1 : Nat) : Int)) (a' := ?_) rfl (by kernel_rfl) (fun _ _ _ h => h) (by rfl) (fun _ => (H.sub [] rfl)) (fun wx => ?_) ?_ ?_; rotate_left 1; (focus (exact Fb.val_of rfl (run_inc8 (by have h := HHI16.out; omega)))); (focus ((try simp only [Act.put, List.getElem_toArray, List.getElem_cons_zero, List.getElem_cons_succ, List.setIfInBounds_toArray, List.set_cons_zero, List.set_cons_succ]); first | done | rfl)))
      (refine Kr.tPQ 6 (v := .string (str [sm hi])) (a' := ?_) rfl (by kernel_rfl) (fun _ _ _ h => h) (by rfl) (fun _ => (H.sub [] rfl)) (fun wx => ?_) ?_ ?_; rotate_left 1; (focus (exact Fb.val_of rfl (run_digit HHI16.out))); (focus ((try simp only [Act.put, List.getElem_toArray, List.getElem_cons_zero, List.getElem_cons_succ, List.setIfInBounds_toArray, List.set_cons_zero, List.set_cons_succ]); first | done | rfl)))
      (refine Kr.tPQ 7 (v := ?_) (a' := ?_) rfl (by kernel_rfl) (fun _ _ _ h => h) (by rfl) (fun _ => (H.sub [] rfl)) (fun wx => ?_) ?_ ?_; rotate_left 2; (focus (go_simp; first | done | rfl)); (focus ((try simp only [Act.put, List.getElem_toArray, List.getElem_cons_zero, List.getElem_cons_succ, List.setIfInBounds_toArray, List.set_cons_zero, List.set_cons_succ]); first | done | rfl)))
      (refine Kr.tPQ 8 (v := .int .u8 (lo : Int)) (a' := ?_) rfl (by kernel_rfl) (fun _ _ _ h => h) (by rfl) (fun _ => (H.sub [] rfl)) (fun wx => ?_) ?_ ?_; rotate_left 1; (focus (exact Fb.val_of rfl (run_lo HD256.out HLO.out))); (focus ((try simp only [Act.put, List.getElem_toArray, List.getElem_cons_zero, List.getElem_cons_succ, List.setIfInBounds_toArray, List.set_cons_zero, List.set_cons_succ]); first | done | rfl)))
      (refine Kr.tPQ 9 (v := ?_) (a' := ?_) rfl (by kernel_rfl) (fun _ _ _ h => h) (by rfl) (fun _ => (H.sub [] rfl)) (fun wx => ?_) ?_ ?_; rotate_left 2; (focus (go_simp; first | done | rfl)); (focus ((try simp only [Act.put, List.getElem_toArray, List.getElem_cons_zero, List.getElem_cons_succ, List.setIfInBounds_toArray, List.set_cons_zero, List.set_cons_succ]); first | done | rfl)))
      (refine Kr.tPQ 10 (v := .int .u8 (lo : Int)) (a' := ?_) rfl (by kernel_rfl) (fun _ _ _ h => h) (by rfl) (fun _ => (H.sub [] rfl)) (fun wx => ?_) ?_ ?_; rotate_left 1; (focus (exact Fb.val_of rfl (run_lo HD256.out HLO.out))); (focus ((try simp only [Act.put, List.getElem_toArray, List.getElem_cons_zero, List.getElem_cons_succ, List.setIfInBounds_toArray, List.set_cons_zero, List.set_cons_succ]); first | done | rfl)))
      (refine Kr.tPQ 11 (v := .int .u8 ((lo + 1 : Nat) : Int)) (a' := ?_) rfl (by kernel_rfl) (fun _ _ _ h => h) (by rfl) (fun _ => (H.sub [] rfl)) (fun wx => ?_) ?_ ?_; rotate_left 1; (focus (exact Fb.val_of rfl (run_inc8 (by have h := HLO16.out; omega)))); (focus ((try simp only [Act.put, List.getElem_toArray, List.getElem_cons_zero, List.getElem_cons_succ, List.setIfInBounds_toArray, List.set_cons_zero, List.set_cons_succ]); first | done | rfl)))
      (refine Kr.tPQ 12 (v := .string (str [sm lo])) (a' := ?_) rfl (by kernel_rfl) (fun _ _ _ h => h) (by rfl) (fun _ => (H.sub [] rfl)) (fun wx => ?_) ?_ ?_; rotate_left 1; (focus (exact Fb.val_of rfl (run_digit HLO16.out))); (focus ((try simp only [Act.put, List.getElem_toArray, List.getElem_cons_zero, List.getElem_cons_succ, List.setIfInBounds_toArray, List.set_cons_zero, List.set_cons_succ]); first | done | rfl)))
      (refine Kr.tPQ 13 (v := .string (str ([sm hi] ++ [sm lo]))) (a' := ?_) rfl (by kernel_rfl) (fun _ _ _ h => h) (by rfl) (fun _ => (H.sub [] rfl)) (fun wx => ?_) ?_ ?_; rotate_left 1; (focus (exact Fb.val_of rfl (run_cat 9 (l := [sm hi]) (m := [sm lo]) (by simp)))); (focus ((try simp only [Act.put, List.getElem_toArray, List.getElem_cons_zero, List.getElem_cons_succ, List.setIfInBounds_toArray, List.set_cons_zero, List.set_cons_succ]); first | done | rfl)))
      (refine Kr.tPQ 14 (v := .string (str ((half (l.take k)).map sm ++ ([sm hi] ++ [sm lo])))) (a' := ?_) rfl (by kernel_rfl) (fun _ _ _ h => h) (by rfl) (fun _ => (H.sub [] rfl)) (fun wx => ?_) ?_ ?_; rotate_left 1; (focus (exact Fb.val_of rfl (run_cat 9 (l := (half (l.take k)).map sm) (m := [sm hi] ++ [sm lo]) (by rw [List.length_map]; have h := HLE.out; simp; omega)))); (focus ((try simp only [Act.put, List.getElem_toArray, List.getElem_cons_zero, List.getElem_cons_succ, List.setIfInBounds_toArray, List.set_cons_zero, List.set_cons_succ]); first | done | rfl)))
      (refine Kr.tPQ 15 (v := ?_) (a' := ?_) rfl (by kernel_rfl) (fun _ _ _ h => h) (by rfl) (fun _ => (H.sub [] rfl)) (fun wx => ?_) ?_ ?_; rotate_left 2; (focus (go_simp; first | done | rfl)); (focus ((try simp only [Act.put, List.getElem_toArray, List.getElem_cons_zero, List.getElem_cons_succ, List.setIfInBounds_toArray, List.set_cons_zero, List.set_cons_succ]); first | done | rfl)))
      refine Kr.doneL (by kernel_rfl) ?_ _
      go_upto_region 13 with fail
      refine Kr.seqStartW ?_
      iterate 2 (refine Kr.seqQ (v := ?_) (a' := ?_) (by rfl) ?_ ?_ ?_; rotate_left 2; (focus (go_simp; first | done | rfl)); (focus ((try simp only [Act.put, List.getElem_toArray, List.getElem_cons_zero, List.getElem_cons_succ, List.setIfInBounds_toArray, List.set_cons_zero, List.set_cons_succ]); first | done | rfl)))
      refine Kr.seqDoneW ?_
      go_wp2
      go_roundw
      case rel => exact ⟨k + 1, by omega, by rw [HST.out, List.map_append]; rfl, rfl, Lib.hid H⟩
      case measure => (simp [intOf] <;> omega)
    · obtain rfl : k = m := by omega
      clear hk
      have HTK : Hid (l.take k = l) := Lib.hid (List.take_of_length_le (by rw [HLM.out]; exact Nat.le_refl _))
      rw [HTK.out]
      obtain ⟨D0, hD0⟩ : ∃ D0, half l = D0 := ⟨_, rfl⟩
      have HD0 : Hid ((∀ d ∈ D0, d < 16) ∧ dval 16 D0 = x ∧ D0.length ≤ 512) := Lib.hid (by rw [← hD0]; exact ⟨half_lt HL256.out, by rw [half_val, HLV.out], by rw [half_len, HLM.out]; omega⟩)
      rw [hD0]
      clear hD0
      have H2 := Lib.hid H
      go_wp2
      go_loopg [5] D0.length (fun n sv wr => ∃ D : List Nat, D.length ≤ n ∧ sv = .string (str (D.map sm)) ∧ Hid ((∀ d ∈ D, d < 16) ∧ dval 16 D = x ∧ D.length ≤ 512) ∧ Hid (Sta w wr [(bn, 0, .slice pn nn cn)] [N pn nn cn (x), B pl k cl l]))
      case atStart => exact ⟨D0, Nat.le_refl _, rfl, HD0, H2⟩
      case round =>
        clear H H2
        obtain ⟨D, hDn, rfl, HD, HH⟩ := hrel
        have H := HH.out
        clear HH
        have HSZ : Hid ((str (D.map sm)).size = D.length) := Lib.hid (by rw [str_size, List.length_map])
        rcases D with _ | ⟨d, D⟩
        · have hsz : ¬ (1 : Int) < ((str (([] : List Nat).map sm)).size : Int) := by rw [HSZ.out]; decide
          go_upto_region 14 with fail
          refine Kr.seqStartW ?_
          iterate 4 (refine Kr.seqQ (v := ?_) (a' := ?_) (by rfl) ?_ ?_ ?_; rotate_left 2; (focus (go_simp; first | done | rfl)); (focus ((try simp only [Act.put, List.getElem_toArray, List.getElem_cons_zero, List.getElem_cons_succ, List.setIfInBounds_toArray, List.set_cons_zero, List.set_cons_succ]); first | done | rfl)))
          (refine Kr.seqSkipQ (a' := ?_) (by rfl) ?_ ?_; rotate_left; (focus ((try simp only [Act.put, List.getElem_toArray, List.getElem_cons_zero, List.getElem_cons_succ, List.setIfInBounds_toArray, List.set_cons_zero, List.set_cons_succ]); first | done | rfl)))
          (refine Kr.seqSkipQ (a' := ?_) (by rfl) ?_ ?_; rotate_left; (focus ((try simp only [Act.put, List.getElem_toArray, List.getElem_cons_zero, List.getElem_cons_succ, List.setIfInBounds_toArray, List.set_cons_zero, List.set_cons_succ]); first | done | rfl)))
          (refine Kr.seqSkipQ (a' := ?_) (by rfl) ?_ ?_; rotate_left; (focus ((try simp only [Act.put, List.getElem_toArray, List.getElem_cons_zero, List.getElem_cons_succ, List.setIfInBounds_toArray, List.set_cons_zero, List.set_cons_succ]); first | done | rfl)))
          (refine Kr.seqQ (v := ?_) (a' := ?_) (by rfl) ?_ ?_ ?_; rotate_left 2; (focus (go_simp; first | done | rfl)); (focus ((try simp only [Act.put, List.getElem_toArray, List.getElem_cons_zero, List.getElem_cons_succ, List.setIfInBounds_toArray, List.set_cons_zero, List.set_cons_succ]); first | done | rfl)))
          refine Kr.seqDoneW ?_
          clear hsz
          go_upto_region 16 with fail
          refine Kr.seqStartW ?_
          (refine Kr.seqQ (v := ?_) (a' := ?_) (by rfl) ?_ ?_ ?_; rotate_left 2; (focus (go_simp; first | done | rfl)); (focus ((try simp only [Act.put, List.getElem_toArray, List.getElem_cons_zero, List.getElem_cons_succ, List.setIfInBounds_toArray, List.set_cons_zero, List.set_cons_succ]); first | done | rfl)))
          (refine Kr.seqQ (v := .bool true) (a' := ?_) (by rfl) ?_ ?_ ?_; rotate_left 1; (focus (exact val_of rfl (run_eql_t 9 _ rfl))); (focus ((try simp only [Act.put, List.getElem_toArray, List.getElem_cons_zero, List.getElem_cons_succ, List.setIfInBounds_toArray, List.set_cons_zero, List.set_cons_succ]); first | done | rfl)))
          refine Kr.seqDoneW ?_
          go_upto_region 17 with fail
          refine Kr.seqStartW ?_
          (refine Kr.seqQ (v := ?_) (a' := ?_) (by rfl) ?_ ?_ ?_; rotate_left 2; (focus (go_simp; first | done | rfl)); (focus ((try simp only [Act.put, List.getElem_toArray, List.getElem_cons_zero, List.getElem_cons_succ, List.setIfInBounds_toArray, List.set_cons_zero, List.set_cons_succ]); first | done | rfl)))
          refine Kr.seqDoneW ?_
          have HX0 : Hid (str (txt 16 x) = ⟨#[48]⟩) := Lib.hid (by rw [show x = 0 from HD.out.2.1.symm, txt, if_pos rfl]; rfl)
          go_upto_region 18 with fail
          refine Kr.seqStartW ?_
          have hk := H.c
          simp only [Kr.Cells] at hk
          (refine Kr.seqQ (v := ?_) (a' := ?_) (by rfl) ?_ ?_ ?_; rotate_left 2; (focus (go_simp; first | done | rfl)); (focus ((try simp only [Act.put, List.getElem_toArray, List.getElem_cons_zero, List.getElem_cons_succ, List.setIfInBounds_toArray, List.set_cons_zero, List.set_cons_succ]); first | done | rfl)))
          refine Kr.seqR (by rfl) (fun K hK => ?_)
          go_simp
          go_at_call 57
          refine (Hex_v (H.nw 0 rfl) HX.out).mono ?_
          rintro e y7 ⟨rfl, hg⟩
          clear hk
          replace H := H.grow hg
          clear hg
          (refine Kr.outS hK (a' := ?_) ?_ ?_; rotate_left; (focus ((try simp only [Act.put, List.getElem_toArray, List.getElem_cons_zero, List.getElem_cons_succ, List.setIfInBounds_toArray, List.set_cons_zero, List.set_cons_succ]); first | done | rfl))); clear hK K
          (refine Kr.seqQ (v := ?_) (a' := ?_) (by rfl) ?_ ?_ ?_; rotate_left 2; (focus (go_simp; first | done | rfl)); (focus ((try simp only [Act.put, List.getElem_toArray, List.getElem_cons_zero, List.getElem_cons_succ, List.setIfInBounds_toArray, List.set_cons_zero, List.set_cons_succ]); first | done | rfl)))
          (refine Kr.seqQ (v := .bool true) (a' := ?_) (by rfl) ?_ ?_ ?_; rotate_left 1; (focus (exact val_of rfl (run_eql_t 9 _ HX0.out))); (focus ((try simp only [Act.put, List.getElem_toArray, List.getElem_cons_zero, List.getElem_cons_succ, List.setIfInBounds_toArray, List.set_cons_zero, List.set_cons_succ]); first | done | rfl)))
          (refine Kr.seqQ (v := ?_) (a' := ?_) (by rfl) ?_ ?_ ?_; rotate_left 2; (focus (go_simp; first | done | rfl)); (focus ((try simp only [Act.put, List.getElem_toArray, List.getElem_cons_zero, List.getElem_cons_succ, List.setIfInBounds_toArray, List.set_cons_zero, List.set_cons_succ]); first | done | rfl)))
          refine Kr.seqDoneW ?_
          go_wp2
          go_ret
          exact ⟨rfl, H.g⟩
        · obtain ⟨S, hS⟩ : ∃ S, str ((d :: D).map sm) = S := ⟨_, rfl⟩
          have HS := Lib.hid hS
          rw [hS] at HSZ ⊢
          have hszd : (S.size : Int) = (D.length : Int) + 1 := by rw [HSZ.out]; simp
          have hd16 := HD.out.1 d (List.mem_cons_self ..)
          have HC0 : Hid ((bs S)[0]?.getD 0 = sm d) := Lib.hid (by rw [← hS, bs_str (fun c hc => by obtain ⟨y, hy, rfl⟩ := List.mem_map.1 hc; exact sm_lt (HD.out.1 y hy))]; rfl)
          have HN0 : Hid (0 < S.size) := Lib.hid (by omega)
          have HNE : Hid (S ≠ ⟨#[]⟩) := Lib.hid (fun e => by rw [e] at hszd; have : (⟨#[]⟩ : ByteArray).size = 0 := rfl; omega)
          clear hS
          by_cases hD : D = []
          · subst hD
            have hsz : ¬ (1 : Int) < (S.size : Int) := by simp at hszd; omega
            clear hszd
            go_upto_region 14 with fail
            refine Kr.seqStartW ?_
            iterate 4 (refine Kr.seqQ (v := ?_) (a' := ?_) (by rfl) ?_ ?_ ?_; rotate_left 2; (focus (go_simp; first | done | rfl)); (focus ((try simp only [Act.put, List.getElem_toArray, List.getElem_cons_zero, List.getElem_cons_succ, List.setIfInBounds_toArray, List.set_cons_zero, List.set_cons_succ]); first | done | rfl)))
            (refine Kr.seqSkipQ (a' := ?_) (by rfl) ?_ ?_; rotate_left; (focus ((try simp only [Act.put, List.getElem_toArray, List.getElem_cons_zero, List.getElem_cons_succ, List.setIfInBounds_toArray, List.set_cons_zero, List.set_cons_succ]); first | done | rfl)))
            (refine Kr.seqSkipQ (a' := ?_) (by rfl) ?_ ?_; rotate_left; (focus ((try simp only [Act.put, List.getElem_toArray, List.getElem_cons_zero, List.getElem_cons_succ, List.setIfInBounds_toArray, List.set_cons_zero, List.set_cons_succ]); first | done | rfl)))
            (refine Kr.seqSkipQ (a' := ?_) (by rfl) ?_ ?_; rotate_left; (focus ((try simp only [Act.put, List.getElem_toArray, List.getElem_cons_zero, List.getElem_cons_succ, List.setIfInBounds_toArray, List.set_cons_zero, List.set_cons_succ]); first | done | rfl)))
            (refine Kr.seqQ (v := ?_) (a' := ?_) (by rfl) ?_ ?_ ?_; rotate_left 2; (focus (go_simp; first | done | rfl)); (focus ((try simp only [Act.put, List.getElem_toArray, List.getElem_cons_zero, List.getElem_cons_succ, List.setIfInBounds_toArray, List.set_cons_zero, List.set_cons_succ]); first | done | rfl)))
            refine Kr.seqDoneW ?_
            clear hsz
            go_upto_region 16 with fail
            refine Kr.seqStartW ?_
            (refine Kr.seqQ (v := ?_) (a' := ?_) (by rfl) ?_ ?_ ?_; rotate_left 2; (focus (go_simp; first | done | rfl)); (focus ((try simp only [Act.put, List.getElem_toArray, List.getElem_cons_zero, List.getElem_cons_succ, List.setIfInBounds_toArray, List.set_cons_zero, List.set_cons_succ]); first | done | rfl)))
            (refine Kr.seqQ (v := .bool false) (a' := ?_) (by rfl) ?_ ?_ ?_; rotate_left 1; (focus (exact val_of rfl (run_eql_f 9 _ HNE.out))); (focus ((try simp only [Act.put, List.getElem_toArray, List.getElem_cons_zero, List.getElem_cons_succ, List.setIfInBounds_toArray, List.set_cons_zero, List.set_cons_succ]); first | done | rfl)))
            refine Kr.seqDoneW ?_
            have HEQ : Hid (str (txt 16 x) = S) := Lib.hid (by rw [← HS.out, ← HD.out.2.1, txt_of HD.out.1 (fun _ _ _ => rfl) (by simp)])
            go_upto_region 18 with fail
            refine Kr.seqStartW ?_
            have hk := H.c
            simp only [Kr.Cells] at hk
            (refine Kr.seqQ (v := ?_) (a' := ?_) (by rfl) ?_ ?_ ?_; rotate_left 2; (focus (go_simp; first | done | rfl)); (focus ((try simp only [Act.put, List.getElem_toArray, List.getElem_cons_zero, List.getElem_cons_succ, List.setIfInBounds_toArray, List.set_cons_zero, List.set_cons_succ]); first | done | rfl)))
            refine Kr.seqR (by rfl) (fun K hK => ?_)
            go_simp
            go_at_call 57
            refine (Hex_v (H.nw 0 rfl) HX.out).mono ?_
            rintro e y8 ⟨rfl, hg⟩
            clear hk
            replace H := H.grow hg
            clear hg
            (refine Kr.outS hK (a' := ?_) ?_ ?_; rotate_left; (focus ((try simp only [Act.put, List.getElem_toArray, List.getElem_cons_zero, List.getElem_cons_succ, List.setIfInBounds_toArray, List.set_cons_zero, List.set_cons_succ]); first | done | rfl))); clear hK K
            (refine Kr.seqQ (v := ?_) (a' := ?_) (by rfl) ?_ ?_ ?_; rotate_left 2; (focus (go_simp; first | done | rfl)); (focus ((try simp only [Act.put, List.getElem_toArray, List.getElem_cons_zero, List.getElem_cons_succ, List.setIfInBounds_toArray, List.set_cons_zero, List.set_cons_succ]); first | done | rfl)))
            (refine Kr.seqQ (v := .bool true) (a' := ?_) (by rfl) ?_ ?_ ?_; rotate_left 1; (focus (exact val_of rfl (run_eql_t 9 _ HEQ.out))); (focus ((try simp only [Act.put, List.getElem_toArray, List.getElem_cons_zero, List.getElem_cons_succ, List.setIfInBounds_toArray, List.set_cons_zero, List.set_cons_succ]); first | done | rfl)))
            (refine Kr.seqQ (v := ?_) (a' := ?_) (by rfl) ?_ ?_ ?_; rotate_left 2; (focus (go_simp; first | done | rfl)); (focus ((try simp only [Act.put, List.getElem_toArray, List.getElem_cons_zero, List.getElem_cons_succ, List.setIfInBounds_toArray, List.set_cons_zero, List.set_cons_succ]); first | done | rfl)))
            refine Kr.seqDoneW ?_
            go_wp2
            go_ret
            exact ⟨rfl, H.g⟩
          · have hpos : 0 < D.length := List.length_pos_iff.2 hD
            have hsz : (1 : Int) < (S.size : Int) := by omega
            clear hszd hpos
            by_cases hd0 : d = 0
            · subst hd0
              have HC48 : Hid ((bs S)[0]?.getD 0 = 48) := Lib.hid HC0.out
              go_upto_region 14 with fail
              refine Kr.seqStartW ?_
              iterate 5 (refine Kr.seqQ (v := ?_) (a' := ?_) (by rfl) ?_ ?_ ?_; rotate_left 2; (focus (go_simp; first | done | rfl)); (focus ((try simp only [Act.put, List.getElem_toArray, List.getElem_cons_zero, List.getElem_cons_succ, List.setIfInBounds_toArray, List.set_cons_zero, List.set_cons_succ]); first | done | rfl)))
              (refine Kr.seqQ (v := .int .u8 48) (a' := ?_) (by rfl) ?_ ?_ ?_; rotate_left 1; (focus (exact val_of rfl (run_at0 Try.underlying9 HN0.out HC48.out))); (focus ((try simp only [Act.put, List.getElem_toArray, List.getElem_cons_zero, List.getElem_cons_succ, List.setIfInBounds_toArray, List.set_cons_zero, List.set_cons_succ]); first | done | rfl)))
              iterate 2 (refine Kr.seqQ (v := ?_) (a' := ?_) (by rfl) ?_ ?_ ?_; rotate_left 2; (focus (go_simp; first | done | rfl)); (focus ((try simp only [Act.put, List.getElem_toArray, List.getElem_cons_zero, List.getElem_cons_succ, List.setIfInBounds_toArray, List.set_cons_zero, List.set_cons_succ]); first | done | rfl)))
              refine Kr.seqDoneW ?_
              clear hsz
              go_upto_region 15 with fail
              refine Kr.seqStartW ?_
              (refine Kr.seqQ (v := ?_) (a' := ?_) (by rfl) ?_ ?_ ?_; rotate_left 2; (focus (go_simp; first | done | rfl)); (focus ((try simp only [Act.put, List.getElem_toArray, List.getElem_cons_zero, List.getElem_cons_succ, List.setIfInBounds_toArray, List.set_cons_zero, List.set_cons_succ]); first | done | rfl)))
              (refine Kr.seqQ (v := .string (str (D.map sm))) (a' := ?_) (by rfl) ?_ ?_ ?_; rotate_left 1; (focus (exact val_of rfl (by rw [← HS.out]; exact run_tail))); (focus ((try simp only [Act.put, List.getElem_toArray, List.getElem_cons_zero, List.getElem_cons_succ, List.setIfInBounds_toArray, List.set_cons_zero, List.set_cons_succ]); first | done | rfl)))
              (refine Kr.seqQ (v := ?_) (a' := ?_) (by rfl) ?_ ?_ ?_; rotate_left 2; (focus (go_simp; first | done | rfl)); (focus ((try simp only [Act.put, List.getElem_toArray, List.getElem_cons_zero, List.getElem_cons_succ, List.setIfInBounds_toArray, List.set_cons_zero, List.set_cons_succ]); first | done | rfl)))
              refine Kr.seqDoneW ?_
              go_wp2
              go_roundg D.length
              case measure => exact Nat.lt_of_lt_of_le (Nat.lt_succ_self _) hDn
              case rel => exact ⟨D, Nat.le_refl _, rfl, Lib.hid ⟨fun e he => HD.out.1 e (List.mem_cons_of_mem _ he), by have h := HD.out.2.1; rw [dval_cons, Nat.zero_mul, Nat.zero_add] at h; exact h, by have h := HD.out.2.2; simp at h; omega⟩, Lib.hid H⟩
            · have hsm : sm d ≠ 48 := fun h => hd0 (sm_zero h)
              have hs1 : ((sm d : Int) == 48) = false := by simp; omega
              have hs2 : ¬ (sm d : Int) = 48 := by omega
              have HD0N := Lib.hid hd0
              obtain ⟨q, hq⟩ : ∃ q, sm d = q := ⟨_, rfl⟩
              rw [hq] at HC0 hs1 hs2
              clear hsm hq hd0
              go_upto_region 14 with fail
              refine Kr.seqStartW ?_
              iterate 5 (refine Kr.seqQ (v := ?_) (a' := ?_) (by rfl) ?_ ?_ ?_; rotate_left 2; (focus (go_simp; first | done | rfl)); (focus ((try simp only [Act.put, List.getElem_toArray, List.getElem_cons_zero, List.getElem_cons_succ, List.setIfInBounds_toArray, List.set_cons_zero, List.set_cons_succ]); first | done | rfl)))
              (refine Kr.seqQ (v := .int .u8 (q : Int)) (a' := ?_) (by rfl) ?_ ?_ ?_; rotate_left 1; (focus (exact val_of rfl (run_at0 Try.underlying9 HN0.out HC0.out))); (focus ((try simp only [Act.put, List.getElem_toArray, List.getElem_cons_zero, List.getElem_cons_succ, List.setIfInBounds_toArray, List.set_cons_zero, List.set_cons_succ]); first | done | rfl)))
              iterate 2 (refine Kr.seqQ (v := ?_) (a' := ?_) (by rfl) ?_ ?_ ?_; rotate_left 2; (focus (go_simp; first | done | rfl)); (focus ((try simp only [Act.put, List.getElem_toArray, List.getElem_cons_zero, List.getElem_cons_succ, List.setIfInBounds_toArray, List.set_cons_zero, List.set_cons_succ]); first | done | rfl)))
              refine Kr.seqDoneW ?_
              clear hsz hs1 hs2
              go_upto_region 16 with fail
              refine Kr.seqStartW ?_
              (refine Kr.seqQ (v := ?_) (a' := ?_) (by rfl) ?_ ?_ ?_; rotate_left 2; (focus (go_simp; first | done | rfl)); (focus ((try simp only [Act.put, List.getElem_toArray, List.getElem_cons_zero, List.getElem_cons_succ, List.setIfInBounds_toArray, List.set_cons_zero, List.set_cons_succ]); first | done | rfl)))
              (refine Kr.seqQ (v := .bool false) (a' := ?_) (by rfl) ?_ ?_ ?_; rotate_left 1; (focus (exact val_of rfl (run_eql_f 9 _ HNE.out))); (focus ((try simp only [Act.put, List.getElem_toArray, List.getElem_cons_zero, List.getElem_cons_succ, List.setIfInBounds_toArray, List.set_cons_zero, List.set_cons_succ]); first | done | rfl)))
              refine Kr.seqDoneW ?_
              have HEQ : Hid (str (txt 16 x) = S) := Lib.hid (by rw [← HS.out, ← HD.out.2.1, txt_of HD.out.1 (fun e he h0 => absurd ((Option.some.inj he).trans h0) HD0N.out) (by simp)])
              go_upto_region 18 with fail
              refine Kr.seqStartW ?_
              have hk := H.c
              simp only [Kr.Cells] at hk
              (refine Kr.seqQ (v := ?_) (a' := ?_) (by rfl) ?_ ?_ ?_; rotate_left 2; (focus (go_simp; first | done | rfl)); (focus ((try simp only [Act.put, List.getElem_toArray, List.getElem_cons_zero, List.getElem_cons_succ, List.setIfInBounds_toArray, List.set_cons_zero, List.set_cons_succ]); first | done | rfl)))
              refine Kr.seqR (by rfl) (fun K hK => ?_)
              go_simp
              go_at_call 57
              refine (Hex_v (H.nw 0 rfl) HX.out).mono ?_
              rintro e y9 ⟨rfl, hg⟩
              clear hk
              replace H := H.grow hg
              clear hg
              (refine Kr.outS hK (a' := ?_) ?_ ?_; rotate_left; (focus ((try simp only [Act.put, List.getElem_toArray, List.getElem_cons_zero, List.getElem_cons_succ, List.setIfInBounds_toArray, List.set_cons_zero, List.set_cons_succ]); first | done | rfl))); clear hK K
              (refine Kr.seqQ (v := ?_) (a' := ?_) (by rfl) ?_ ?_ ?_; rotate_left 2; (focus (go_simp; first | done | rfl)); (focus ((try simp only [Act.put, List.getElem_toArray, List.getElem_cons_zero, List.getElem_cons_succ, List.setIfInBounds_toArray, List.set_cons_zero, List.set_cons_succ]); first | done | rfl)))
              (refine Kr.seqQ (v := .bool true) (a' := ?_) (by rfl) ?_ ?_ ?_; rotate_left 1; (focus (exact val_of rfl (run_eql_t 9 _ HEQ.out))); (focus ((try simp only [Act.put, List.getElem_toArray, List.getElem_cons_zero, List.getElem_cons_succ, List.setIfInBounds_toArray, List.set_cons_zero, List.set_cons_succ]); first | done | rfl)))
              (refine Kr.seqQ (v := ?_) (a' := ?_) (by rfl) ?_ ?_ ?_; rotate_left 2; (focus (go_simp; first | done | rfl)); (focus ((try simp only [Act.put, List.getElem_toArray, List.getElem_cons_zero, List.getElem_cons_succ, List.setIfInBounds_toArray, List.set_cons_zero, List.set_cons_succ]); first | done | rfl)))
              refine Kr.seqDoneW ?_
              go_wp2
              go_ret
              exact ⟨rfl, H.g⟩
theorem NatformDigits (w : World) (pn : Option Addr) (nn cn : Nat) (h : Nin w pn nn cn) :
    Calls Try.prog 17 #[.agg #[.slice pn nn cn]] w fun e w' => e = .returned (.bool true) ∧ Gr w w' := by
  by_cases hg : 100 < nn
  · exact digits_great hg
  obtain ⟨l, hl⟩ := h.nw (by omega)
  by_cases hv : valid l
  · obtain ⟨x, hx, rfl⟩ := nw_value hl (decide_eq_true hv)
    exact digits_ok hl (by omega) hx
  · exact digits_bad hl (by omega) hv
end Go.Proofs.Ytlciocebbckdcaa.Pf
