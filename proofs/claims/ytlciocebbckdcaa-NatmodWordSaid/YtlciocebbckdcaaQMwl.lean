/- The walk of NatmodWord. -/
import Derived.Test.YtlciocebbckdcaaQMwk
import Derived.Test.YtlciocebbckdcaaPk5
import Derived.Test.YtlciocebbckdcaaQWgcd
import Derived.Deep.Cut
namespace Go.Proofs.Ytlciocebbckdcaa.Ml
open Go.RowKit Go.Shelf Go.Proofs.Ytlciocebbckdcaa.Nm Go.Proofs.Ytlciocebbckdcaa.Ne Go.Proofs.Ytlciocebbckdcaa.Nf Go.Proofs.Ytlciocebbckdcaa.Nk Go.Proofs.Ytlciocebbckdcaa.Nv Go.Proofs.Ytlciocebbckdcaa.Nr2 Go.Proofs.Ytlciocebbckdcaa.Mo Go.Proofs.Ytlciocebbckdcaa.Mr Go.Proofs.Ytlciocebbckdcaa.Kr Go.Proofs.Ytlciocebbckdcaa.Nl

set_option linter.unusedSimpArgs false in
set_option maxRecDepth 100000 in
set_option maxHeartbeats 16000000 in
theorem word_zero {a b m : Nat} {w : World} (h0 : m < 1) :
    Calls Try.prog 11 #[.int .u64 (a : Int), .int .u64 (b : Int), .int .u64 (m : Int)] w fun e w' => e = .returned (.bool true) ∧ Gr w w' := by
  have HL1 : Hid (decide (m < 1) = true) := Lib.hid (decide_eq_true h0)
  clear h0
  have H := Sta.start w
  go_enter Try.func11, Try.ntmps11
  go_upto_region 0 with fail
  refine Kr.seqStartW ?_
  (refine Kr.seqQ (v := ?_) (a' := ?_) (by rfl) ?_ ?_ ?_; rotate_left 2; (focus (go_simp; first | done | rfl)); (focus ((try simp only [Kr.PT]); first | done | rfl)))
  refine Kr.seqDoneW ?_
  go_upto_region 1 with fail
  refine Kr.seqStartW ?_
  refine Kr.seqR (by rfl) (fun K hK => ?_)
  go_simp
  go_at_call 18
  refine (awake3 _).mono ?_
  rintro e y1 ⟨rfl, hg⟩
  replace H := H.grow hg
  clear hg
  (refine Kr.outS hK (a' := ?_) ?_ ?_; rotate_left; (focus ((try simp only [Kr.PT]); first | done | rfl))); clear hK K
  iterate 3 (refine Kr.seqQ (v := ?_) (a' := ?_) (by rfl) ?_ ?_ ?_; rotate_left 2; (focus (go_simp; first | done | rfl)); (focus ((try simp only [Kr.PT]); first | done | rfl)))
  (refine Kr.seqQ (v := .bool true) (a' := ?_) (by rfl) ?_ ?_ ?_; rotate_left 1; (focus (exact Kr.valOf rfl (Kr.lssU 1 HL1.out))); (focus ((try simp only [Kr.PT]); first | done | rfl)))
  iterate 2 (refine Kr.seqQ (v := ?_) (a' := ?_) (by rfl) ?_ ?_ ?_; rotate_left 2; (focus (go_simp; first | done | rfl)); (focus ((try simp only [Kr.PT]); first | done | rfl)))
  (refine Kr.seqSkipQ (a' := ?_) (by rfl) ?_ ?_; rotate_left; (focus ((try simp only [Kr.PT]); first | done | rfl)))
  (refine Kr.seqSkipQ (a' := ?_) (by rfl) ?_ ?_; rotate_left; (focus ((try simp only [Kr.PT]); first | done | rfl)))
  (refine Kr.seqQ (v := ?_) (a' := ?_) (by rfl) ?_ ?_ ?_; rotate_left 2; (focus (go_simp; first | done | rfl)); (focus ((try simp only [Kr.PT]); first | done | rfl)))
  refine Kr.seqDoneW ?_
  go_upto_region 2 with fail
  refine Kr.seqStartW ?_
  refine Kr.seqR (by rfl) (fun K hK => ?_)
  go_simp
  go_at_call 18
  refine (awake3 _).mono ?_
  rintro e y2 ⟨rfl, hg⟩
  replace H := H.grow hg
  clear hg
  (refine Kr.outS hK (a' := ?_) ?_ ?_; rotate_left; (focus ((try simp only [Kr.PT]); first | done | rfl))); clear hK K
  (refine Kr.seqQ (v := ?_) (a' := ?_) (by rfl) ?_ ?_ ?_; rotate_left 2; (focus (go_simp; first | done | rfl)); (focus ((try simp only [Kr.PT]); first | done | rfl)))
  refine Kr.seqDoneW ?_
  go_wp2
  go_ret
  exact ⟨rfl, H.g⟩
set_option linter.unusedSimpArgs false in
set_option maxRecDepth 100000 in
set_option maxHeartbeats 16000000 in
theorem word_big {a b m : Nat} {w : World} (h1 : 2305843009213693952 ≤ m) :
    Calls Try.prog 11 #[.int .u64 (a : Int), .int .u64 (b : Int), .int .u64 (m : Int)] w fun e w' => e = .returned (.bool true) ∧ Gr w w' := by
  have HL1 : Hid (decide (m < 1) = false) := Lib.hid (decide_eq_false (by omega))
  have HL2 : Hid (decide (2305843009213693952 ≤ m) = true) := Lib.hid (decide_eq_true h1)
  clear h1
  have H := Sta.start w
  go_enter Try.func11, Try.ntmps11
  go_upto_region 0 with fail
  refine Kr.seqStartW ?_
  (refine Kr.seqQ (v := ?_) (a' := ?_) (by rfl) ?_ ?_ ?_; rotate_left 2; (focus (go_simp; first | done | rfl)); (focus ((try simp only [Kr.PT]); first | done | rfl)))
  refine Kr.seqDoneW ?_
  go_upto_region 1 with fail
  refine Kr.seqStartW ?_
  refine Kr.seqR (by rfl) (fun K hK => ?_)
  go_simp
  go_at_call 18
  refine (awake3 _).mono ?_
  rintro e y1 ⟨rfl, hg⟩
  replace H := H.grow hg
  clear hg
  (refine Kr.outS hK (a' := ?_) ?_ ?_; rotate_left; (focus ((try simp only [Kr.PT]); first | done | rfl))); clear hK K
  iterate 3 (refine Kr.seqQ (v := ?_) (a' := ?_) (by rfl) ?_ ?_ ?_; rotate_left 2; (focus (go_simp; first | done | rfl)); (focus ((try simp only [Kr.PT]); first | done | rfl)))
  (refine Kr.seqQ (v := .bool false) (a' := ?_) (by rfl) ?_ ?_ ?_; rotate_left 1; (focus (exact Kr.valOf rfl (Kr.lssU 1 HL1.out))); (focus ((try simp only [Kr.PT]); first | done | rfl)))
  iterate 3 (refine Kr.seqQ (v := ?_) (a' := ?_) (by rfl) ?_ ?_ ?_; rotate_left 2; (focus (go_simp; first | done | rfl)); (focus ((try simp only [Kr.PT]); first | done | rfl)))
  (refine Kr.seqQ (v := .bool true) (a' := ?_) (by rfl) ?_ ?_ ?_; rotate_left 1; (focus (exact Kr.valOf rfl (Kr.geqU 2305843009213693952 HL2.out))); (focus ((try simp only [Kr.PT]); first | done | rfl)))
  (refine Kr.seqQ (v := ?_) (a' := ?_) (by rfl) ?_ ?_ ?_; rotate_left 2; (focus (go_simp; first | done | rfl)); (focus ((try simp only [Kr.PT]); first | done | rfl)))
  refine Kr.seqDoneW ?_
  go_upto_region 2 with fail
  refine Kr.seqStartW ?_
  refine Kr.seqR (by rfl) (fun K hK => ?_)
  go_simp
  go_at_call 18
  refine (awake3 _).mono ?_
  rintro e y2 ⟨rfl, hg⟩
  replace H := H.grow hg
  clear hg
  (refine Kr.outS hK (a' := ?_) ?_ ?_; rotate_left; (focus ((try simp only [Kr.PT]); first | done | rfl))); clear hK K
  (refine Kr.seqQ (v := ?_) (a' := ?_) (by rfl) ?_ ?_ ?_; rotate_left 2; (focus (go_simp; first | done | rfl)); (focus ((try simp only [Kr.PT]); first | done | rfl)))
  refine Kr.seqDoneW ?_
  go_wp2
  go_ret
  exact ⟨rfl, H.g⟩
set_option linter.unusedSimpArgs false in
set_option maxRecDepth 100000 in
set_option maxHeartbeats 16000000 in
theorem word_inv {a b m : Nat} {w : World} (h0 : 0 < m) (h1 : m < 2305843009213693952) (hg : Nat.gcd (a % m) m = 1) :
    Calls Try.prog 11 #[.int .u64 (a : Int), .int .u64 (b : Int), .int .u64 (m : Int)] w fun e w' => e = .returned (.bool true) ∧ Gr w w' := by
  have HL1 : Hid (decide (m < 1) = false) := Lib.hid (decide_eq_false (by omega))
  have HL2 : Hid (decide (2305843009213693952 ≤ m) = false) := Lib.hid (decide_eq_false (by omega))
  have M0 : Hid (0 < m) := Lib.hid h0; have M61 : Hid (m < 2305843009213693952) := Lib.hid h1; have VM : Hid (m < pw 32) := Lib.hid (Nat.lt_of_lt_of_le (Nat.lt_trans h1 (show 2305843009213693952 < pw 2 from by decide)) (pw_mono (by decide)))
  obtain ⟨x, hx⟩ : ∃ x, a % m = x := ⟨_, rfl⟩
  obtain ⟨y, hy⟩ : ∃ y, b % m = y := ⟨_, rfl⟩
  have HXE := Lib.hid hx; have HYE := Lib.hid hy; have HX : Hid (x < m) := Lib.hid (hx ▸ Nat.mod_lt _ h0); have HY : Hid (y < m) := Lib.hid (hy ▸ Nat.mod_lt _ h0)
  have HX63 : Hid (x < 9223372036854775808) := Lib.hid (Nat.lt_trans HX.out (Nat.lt_trans h1 (by decide))); have HY63 : Hid (y < 9223372036854775808) := Lib.hid (Nat.lt_trans HY.out (Nat.lt_trans h1 (by decide))); have HM63 : Hid (m < 9223372036854775808) := Lib.hid (Nat.lt_trans h1 (by decide))
  have HG1 : Hid (Nat.gcd x m = 1) := Lib.hid (hx ▸ hg)
  clear hx hy h0 h1 hg
  have H := Sta.start w
  go_enter Try.func11, Try.ntmps11
  go_upto_region 0 with fail
  refine Kr.seqStartW ?_
  (refine Kr.seqQ (v := ?_) (a' := ?_) (by rfl) ?_ ?_ ?_; rotate_left 2; (focus (go_simp; first | done | rfl)); (focus ((try simp only [Kr.PT]); first | done | rfl)))
  refine Kr.seqDoneW ?_
  go_upto_region 1 with fail
  refine Kr.seqStartW ?_
  refine Kr.seqR (by rfl) (fun K hK => ?_)
  go_simp
  go_at_call 18
  refine (awake3 _).mono ?_
  rintro e y1 ⟨rfl, hg⟩
  replace H := H.grow hg
  clear hg
  (refine Kr.outS hK (a' := ?_) ?_ ?_; rotate_left; (focus ((try simp only [Kr.PT]); first | done | rfl))); clear hK K
  iterate 3 (refine Kr.seqQ (v := ?_) (a' := ?_) (by rfl) ?_ ?_ ?_; rotate_left 2; (focus (go_simp; first | done | rfl)); (focus ((try simp only [Kr.PT]); first | done | rfl)))
  (refine Kr.seqQ (v := .bool false) (a' := ?_) (by rfl) ?_ ?_ ?_; rotate_left 1; (focus (exact Kr.valOf rfl (Kr.lssU 1 HL1.out))); (focus ((try simp only [Kr.PT]); first | done | rfl)))
  iterate 3 (refine Kr.seqQ (v := ?_) (a' := ?_) (by rfl) ?_ ?_ ?_; rotate_left 2; (focus (go_simp; first | done | rfl)); (focus ((try simp only [Kr.PT]); first | done | rfl)))
  (refine Kr.seqQ (v := .bool false) (a' := ?_) (by rfl) ?_ ?_ ?_; rotate_left 1; (focus (exact Kr.valOf rfl (Kr.geqU 2305843009213693952 HL2.out))); (focus ((try simp only [Kr.PT]); first | done | rfl)))
  (refine Kr.seqQ (v := ?_) (a' := ?_) (by rfl) ?_ ?_ ?_; rotate_left 2; (focus (go_simp; first | done | rfl)); (focus ((try simp only [Kr.PT]); first | done | rfl)))
  refine Kr.seqDoneW ?_
  go_upto_region 3 with fail
  refine Kr.startL (fun W' => Kr.Cells W' []) [] (by kernel_rfl) ?_
  have gd : Gr y1 y1.drew := (Gr.refl _).drew
  generalize y1.drew = d2 at gd ⊢
  replace H := H.grow gd
  clear gd
  (refine Kr.tPQ 0 (v := ?_) (a' := ?_) rfl (by kernel_rfl) (fun _ _ _ h => h) (by rfl) (fun _ => (H.sub [] rfl)) (fun wx => ?_) ?_ ?_; rotate_left 2; (focus (go_simp; first | done | rfl)); (focus ((try simp only [Kr.PT]); first | done | rfl)))
  (refine Kr.tPQ 1 (v := ?_) (a' := ?_) rfl (by kernel_rfl) (fun _ _ _ h => h) (by rfl) (fun _ => (H.sub [] rfl)) (fun wx => ?_) ?_ ?_; rotate_left 2; (focus (go_simp; first | done | rfl)); (focus ((try simp only [Kr.PT]); first | done | rfl)))
  (refine Kr.tPQ 2 (v := .int .u64 (x : Int)) (a' := ?_) rfl (by kernel_rfl) (fun _ _ _ h => h) (by rfl) (fun _ => (H.sub [] rfl)) (fun wx => ?_) ?_ ?_; rotate_left 1; (focus (exact Kr.valOf rfl (Kr.remU M0.out HXE.out))); (focus ((try simp only [Kr.PT]); first | done | rfl)))
  (refine Kr.tPQ 3 (v := .int .i64 (x : Int)) (a' := ?_) rfl (by kernel_rfl) (fun _ _ _ h => h) (by rfl) (fun _ => (H.sub [] rfl)) (fun wx => ?_) ?_ ?_; rotate_left 1; (focus (exact Kr.valOf rfl (Kr.convUI HX63.out))); (focus ((try simp only [Kr.PT]); first | done | rfl)))
  (refine Kr.tPQ 4 (v := ?_) (a' := ?_) rfl (by kernel_rfl) (fun _ _ _ h => h) (by rfl) (fun _ => (H.sub [] rfl)) (fun wx => ?_) ?_ ?_; rotate_left 2; (focus (go_simp; first | done | rfl)); (focus ((try simp only [Kr.PT]); first | done | rfl)))
  (refine Kr.tPQ 5 (v := ?_) (a' := ?_) rfl (by kernel_rfl) (fun _ _ _ h => h) (by rfl) (fun _ => (H.sub [] rfl)) (fun wx => ?_) ?_ ?_; rotate_left 2; (focus (go_simp; first | done | rfl)); (focus ((try simp only [Kr.PT]); first | done | rfl)))
  (refine Kr.tPQ 6 (v := .int .u64 (y : Int)) (a' := ?_) rfl (by kernel_rfl) (fun _ _ _ h => h) (by rfl) (fun _ => (H.sub [] rfl)) (fun wx => ?_) ?_ ?_; rotate_left 1; (focus (exact Kr.valOf rfl (Kr.remU M0.out HYE.out))); (focus ((try simp only [Kr.PT]); first | done | rfl)))
  (refine Kr.tPQ 7 (v := .int .i64 (y : Int)) (a' := ?_) rfl (by kernel_rfl) (fun _ _ _ h => h) (by rfl) (fun _ => (H.sub [] rfl)) (fun wx => ?_) ?_ ?_; rotate_left 1; (focus (exact Kr.valOf rfl (Kr.convUI HY63.out))); (focus ((try simp only [Kr.PT]); first | done | rfl)))
  (refine Kr.tPQ 8 (v := ?_) (a' := ?_) rfl (by kernel_rfl) (fun _ _ _ h => h) (by rfl) (fun _ => (H.sub [] rfl)) (fun wx => ?_) ?_ ?_; rotate_left 2; (focus (go_simp; first | done | rfl)); (focus ((try simp only [Kr.PT]); first | done | rfl)))
  (refine Kr.tPQ 9 (v := .int .i64 (m : Int)) (a' := ?_) rfl (by kernel_rfl) (fun _ _ _ h => h) (by rfl) (fun _ => (H.sub [] rfl)) (fun wx => ?_) ?_ ?_; rotate_left 1; (focus (exact Kr.valOf rfl (Kr.convUI HM63.out))); (focus ((try simp only [Kr.PT]); first | done | rfl)))
  (refine Kr.tPQ 10 (v := ?_) (a' := ?_) rfl (by kernel_rfl) (fun _ _ _ h => h) (by rfl) (fun _ => (H.sub [] rfl)) (fun wx => ?_) ?_ ?_; rotate_left 2; (focus (go_simp; first | done | rfl)); (focus ((try simp only [Kr.PT]); first | done | rfl)))
  (refine Kr.tPQ 11 (v := ?_) (a' := ?_) rfl (by kernel_rfl) (fun _ _ _ h => h) (by rfl) (fun _ => (H.sub [] rfl)) (fun wx => ?_) ?_ ?_; rotate_left 2; (focus (go_simp; first | done | rfl)); (focus ((try simp only [Kr.PT]); first | done | rfl)))
  (refine Kr.tPQ 12 (v := ?_) (a' := ?_) rfl (by kernel_rfl) (fun _ _ _ h => h) (by rfl) (fun _ => (H.sub [] rfl)) (fun wx => ?_) ?_ ?_; rotate_left 2; (focus (go_simp; first | done | rfl)); (focus ((try simp only [Kr.PT]); first | done | rfl)))
  refine Kr.doneL (by kernel_rfl) ?_ _
  go_upto_region 4 with fail
  refine Kr.startL (fun W' => Kr.Cells W' []) [] (by kernel_rfl) ?_
  have gd : Gr d2 d2.drew := (Gr.refl _).drew
  generalize d2.drew = d3 at gd ⊢
  replace H := H.grow gd
  clear gd
  refine have nd4_34 : ∀ (Wd34 : World) (bn : Nat) (bq : Nat) (bp : Nat) (p4 : Option Addr) (n4 : Nat) (c4 : Nat) (p8 : Option Addr) (n8 : Nat) (c8 : Nat) (p21 : Option Addr) (n21 : Nat) (c21 : Nat), Sta w Wd34 [(bn, 0, .slice p21 n21 c21), (bq, 0, .slice p8 n8 c8), (bp, 0, .slice p4 n4 c4)] [N p21 n21 c21 (m), N p8 n8 c8 (y), N p4 n4 c4 (x)] → (?Q4_34 : World → Nat → Nat → Nat → Option Addr → Nat → Nat → Option Addr → Nat → Nat → Option Addr → Nat → Nat → Prop) Wd34 bn bq bp p4 n4 c4 p8 n8 c8 p21 n21 c21 := ?pf4_34; ?mn4_34
  case' mn4_34 => refine have nd4_33 : ∀ (Wd33 : World) (bn : Nat) (bq : Nat) (bp : Nat) (p4 : Option Addr) (n4 : Nat) (c4 : Nat) (p8 : Option Addr) (n8 : Nat) (c8 : Nat) (p21 : Option Addr) (n21 : Nat) (c21 : Nat), Sta w Wd33 [(bn, 0, .slice none 0 0), (bq, 0, .slice p8 n8 c8), (bp, 0, .slice p4 n4 c4)] [N p21 n21 c21 (m), N p8 n8 c8 (y), N p4 n4 c4 (x)] → (?Q4_33 : World → Nat → Nat → Nat → Option Addr → Nat → Nat → Option Addr → Nat → Nat → Option Addr → Nat → Nat → Prop) Wd33 bn bq bp p4 n4 c4 p8 n8 c8 p21 n21 c21 := ?pf4_33; ?mn4_33
  case' mn4_33 => refine have nd4_32 : ∀ (Wd32 : World) (bn : Nat) (bq : Nat) (bp : Nat) (p4 : Option Addr) (n4 : Nat) (c4 : Nat) (p8 : Option Addr) (n8 : Nat) (c8 : Nat) (p21 : Option Addr) (n21 : Nat) (c21 : Nat), Sta w Wd32 [(bn, 0, .slice none 0 0), (bq, 0, .slice none 0 0), (bp, 0, .slice p4 n4 c4)] [N p21 n21 c21 (m), N p8 n8 c8 (y), N p4 n4 c4 (x)] → (?Q4_32 : World → Nat → Nat → Nat → Option Addr → Nat → Nat → Option Addr → Nat → Nat → Option Addr → Nat → Nat → Prop) Wd32 bn bq bp p4 n4 c4 p8 n8 c8 p21 n21 c21 := ?pf4_32; ?mn4_32
  case' mn4_32 => refine have nd4_31 : ∀ (Wd31 : World) (bn : Nat) (bq : Nat) (bp : Nat) (p4 : Option Addr) (n4 : Nat) (c4 : Nat) (p8 : Option Addr) (n8 : Nat) (c8 : Nat) (p21 : Option Addr) (n21 : Nat) (c21 : Nat), Sta w Wd31 [(bn, 0, .slice none 0 0), (bq, 0, .slice none 0 0), (bp, 0, .slice none 0 0)] [N p21 n21 c21 (m), N p8 n8 c8 (y), N p4 n4 c4 (x)] → (?Q4_31 : World → Nat → Nat → Nat → Option Addr → Nat → Nat → Option Addr → Nat → Nat → Option Addr → Nat → Nat → Prop) Wd31 bn bq bp p4 n4 c4 p8 n8 c8 p21 n21 c21 := ?pf4_31; ?mn4_31
  case' mn4_31 => refine have nd4_30 : ∀ (Wd30 : World) (bn : Nat) (bq : Nat) (bp : Nat) (p4 : Option Addr) (n4 : Nat) (c4 : Nat) (p8 : Option Addr) (n8 : Nat) (c8 : Nat), Sta w Wd30 [(bn, 0, .slice none 0 0), (bq, 0, .slice none 0 0), (bp, 0, .slice none 0 0)] [N p8 n8 c8 (y), N p4 n4 c4 (x)] → (?Q4_30 : World → Nat → Nat → Nat → Option Addr → Nat → Nat → Option Addr → Nat → Nat → Prop) Wd30 bn bq bp p4 n4 c4 p8 n8 c8 := ?pf4_30; ?mn4_30
  case' mn4_30 => refine have nd4_29 : ∀ (Wd29 : World) (bn : Nat) (bq : Nat) (p4 : Option Addr) (n4 : Nat) (c4 : Nat) (p8 : Option Addr) (n8 : Nat) (c8 : Nat) (p21 : Option Addr) (n21 : Nat) (c21 : Nat), Sta w Wd29 [(bn, 0, .slice none 0 0), (bq, 0, .slice none 0 0)] [N p21 n21 c21 (m), N p8 n8 c8 (y), N p4 n4 c4 (x)] → (?Q4_29 : World → Nat → Nat → Option Addr → Nat → Nat → Option Addr → Nat → Nat → Option Addr → Nat → Nat → Prop) Wd29 bn bq p4 n4 c4 p8 n8 c8 p21 n21 c21 := ?pf4_29; ?mn4_29
  case' mn4_29 => refine have nd4_28 : ∀ (Wd28 : World) (bn : Nat) (bp : Nat) (p4 : Option Addr) (n4 : Nat) (c4 : Nat) (p8 : Option Addr) (n8 : Nat) (c8 : Nat) (p21 : Option Addr) (n21 : Nat) (c21 : Nat), Sta w Wd28 [(bn, 0, .slice none 0 0), (bp, 0, .slice none 0 0)] [N p21 n21 c21 (m), N p8 n8 c8 (y), N p4 n4 c4 (x)] → (?Q4_28 : World → Nat → Nat → Option Addr → Nat → Nat → Option Addr → Nat → Nat → Option Addr → Nat → Nat → Prop) Wd28 bn bp p4 n4 c4 p8 n8 c8 p21 n21 c21 := ?pf4_28; ?mn4_28
  case' mn4_28 => refine have nd4_27 : ∀ (Wd27 : World) (bq : Nat) (bp : Nat) (p4 : Option Addr) (n4 : Nat) (c4 : Nat) (p8 : Option Addr) (n8 : Nat) (c8 : Nat) (p21 : Option Addr) (n21 : Nat) (c21 : Nat), Sta w Wd27 [(bq, 0, .slice none 0 0), (bp, 0, .slice none 0 0)] [N p21 n21 c21 (m), N p8 n8 c8 (y), N p4 n4 c4 (x)] → (?Q4_27 : World → Nat → Nat → Option Addr → Nat → Nat → Option Addr → Nat → Nat → Option Addr → Nat → Nat → Prop) Wd27 bq bp p4 n4 c4 p8 n8 c8 p21 n21 c21 := ?pf4_27; ?mn4_27
  case' mn4_27 => refine have nd4_26 : ∀ (Wd26 : World) (bn : Nat) (bq : Nat) (bp : Nat) (p4 : Option Addr) (n4 : Nat) (c4 : Nat), Sta w Wd26 [(bn, 0, .slice none 0 0), (bq, 0, .slice none 0 0), (bp, 0, .slice none 0 0)] [N p4 n4 c4 (x)] → (?Q4_26 : World → Nat → Nat → Nat → Option Addr → Nat → Nat → Prop) Wd26 bn bq bp p4 n4 c4 := ?pf4_26; ?mn4_26
  case' mn4_26 => refine have nd4_25 : ∀ (Wd25 : World) (bn : Nat) (bq : Nat) (p4 : Option Addr) (n4 : Nat) (c4 : Nat) (p8 : Option Addr) (n8 : Nat) (c8 : Nat), Sta w Wd25 [(bn, 0, .slice none 0 0), (bq, 0, .slice none 0 0)] [N p8 n8 c8 (y), N p4 n4 c4 (x)] → (?Q4_25 : World → Nat → Nat → Option Addr → Nat → Nat → Option Addr → Nat → Nat → Prop) Wd25 bn bq p4 n4 c4 p8 n8 c8 := ?pf4_25; ?mn4_25
  case' mn4_25 => refine have nd4_24 : ∀ (Wd24 : World) (bn : Nat) (bp : Nat) (p4 : Option Addr) (n4 : Nat) (c4 : Nat) (p8 : Option Addr) (n8 : Nat) (c8 : Nat), Sta w Wd24 [(bn, 0, .slice none 0 0), (bp, 0, .slice none 0 0)] [N p8 n8 c8 (y), N p4 n4 c4 (x)] → (?Q4_24 : World → Nat → Nat → Option Addr → Nat → Nat → Option Addr → Nat → Nat → Prop) Wd24 bn bp p4 n4 c4 p8 n8 c8 := ?pf4_24; ?mn4_24
  case' mn4_24 => refine have nd4_23 : ∀ (Wd23 : World) (bq : Nat) (bp : Nat) (p4 : Option Addr) (n4 : Nat) (c4 : Nat) (p8 : Option Addr) (n8 : Nat) (c8 : Nat), Sta w Wd23 [(bq, 0, .slice none 0 0), (bp, 0, .slice none 0 0)] [N p8 n8 c8 (y), N p4 n4 c4 (x)] → (?Q4_23 : World → Nat → Nat → Option Addr → Nat → Nat → Option Addr → Nat → Nat → Prop) Wd23 bq bp p4 n4 c4 p8 n8 c8 := ?pf4_23; ?mn4_23
  case' mn4_23 => refine have nd4_22 : ∀ (Wd22 : World) (bn : Nat) (p4 : Option Addr) (n4 : Nat) (c4 : Nat) (p8 : Option Addr) (n8 : Nat) (c8 : Nat) (p21 : Option Addr) (n21 : Nat) (c21 : Nat), Sta w Wd22 [(bn, 0, .slice none 0 0)] [N p21 n21 c21 (m), N p8 n8 c8 (y), N p4 n4 c4 (x)] → (?Q4_22 : World → Nat → Option Addr → Nat → Nat → Option Addr → Nat → Nat → Option Addr → Nat → Nat → Prop) Wd22 bn p4 n4 c4 p8 n8 c8 p21 n21 c21 := ?pf4_22; ?mn4_22
  case' mn4_22 => refine have nd4_21 : ∀ (Wd21 : World) (bq : Nat) (p4 : Option Addr) (n4 : Nat) (c4 : Nat) (p8 : Option Addr) (n8 : Nat) (c8 : Nat) (p21 : Option Addr) (n21 : Nat) (c21 : Nat), Sta w Wd21 [(bq, 0, .slice none 0 0)] [N p21 n21 c21 (m), N p8 n8 c8 (y), N p4 n4 c4 (x)] → (?Q4_21 : World → Nat → Option Addr → Nat → Nat → Option Addr → Nat → Nat → Option Addr → Nat → Nat → Prop) Wd21 bq p4 n4 c4 p8 n8 c8 p21 n21 c21 := ?pf4_21; ?mn4_21
  case' mn4_21 => refine have nd4_20 : ∀ (Wd20 : World) (bp : Nat) (p4 : Option Addr) (n4 : Nat) (c4 : Nat) (p8 : Option Addr) (n8 : Nat) (c8 : Nat) (p21 : Option Addr) (n21 : Nat) (c21 : Nat), Sta w Wd20 [(bp, 0, .slice none 0 0)] [N p21 n21 c21 (m), N p8 n8 c8 (y), N p4 n4 c4 (x)] → (?Q4_20 : World → Nat → Option Addr → Nat → Nat → Option Addr → Nat → Nat → Option Addr → Nat → Nat → Prop) Wd20 bp p4 n4 c4 p8 n8 c8 p21 n21 c21 := ?pf4_20; ?mn4_20
  case' mn4_20 => refine have nd4_19 : ∀ (Wd19 : World) (bn : Nat) (bq : Nat) (bp : Nat), Sta w Wd19 [(bn, 0, .slice none 0 0), (bq, 0, .slice none 0 0), (bp, 0, .slice none 0 0)] [] → (?Q4_19 : World → Nat → Nat → Nat → Prop) Wd19 bn bq bp := ?pf4_19; ?mn4_19
  case' mn4_19 => refine have nd4_18 : ∀ (Wd18 : World) (bn : Nat) (bq : Nat) (p4 : Option Addr) (n4 : Nat) (c4 : Nat), Sta w Wd18 [(bn, 0, .slice none 0 0), (bq, 0, .slice none 0 0)] [N p4 n4 c4 (x)] → (?Q4_18 : World → Nat → Nat → Option Addr → Nat → Nat → Prop) Wd18 bn bq p4 n4 c4 := ?pf4_18; ?mn4_18
  case' mn4_18 => refine have nd4_17 : ∀ (Wd17 : World) (bn : Nat) (bp : Nat) (p4 : Option Addr) (n4 : Nat) (c4 : Nat), Sta w Wd17 [(bn, 0, .slice none 0 0), (bp, 0, .slice none 0 0)] [N p4 n4 c4 (x)] → (?Q4_17 : World → Nat → Nat → Option Addr → Nat → Nat → Prop) Wd17 bn bp p4 n4 c4 := ?pf4_17; ?mn4_17
  case' mn4_17 => refine have nd4_16 : ∀ (Wd16 : World) (bq : Nat) (bp : Nat) (p4 : Option Addr) (n4 : Nat) (c4 : Nat), Sta w Wd16 [(bq, 0, .slice none 0 0), (bp, 0, .slice none 0 0)] [N p4 n4 c4 (x)] → (?Q4_16 : World → Nat → Nat → Option Addr → Nat → Nat → Prop) Wd16 bq bp p4 n4 c4 := ?pf4_16; ?mn4_16
  case' mn4_16 => refine have nd4_15 : ∀ (Wd15 : World) (bn : Nat) (p4 : Option Addr) (n4 : Nat) (c4 : Nat) (p8 : Option Addr) (n8 : Nat) (c8 : Nat), Sta w Wd15 [(bn, 0, .slice none 0 0)] [N p8 n8 c8 (y), N p4 n4 c4 (x)] → (?Q4_15 : World → Nat → Option Addr → Nat → Nat → Option Addr → Nat → Nat → Prop) Wd15 bn p4 n4 c4 p8 n8 c8 := ?pf4_15; ?mn4_15
  case' mn4_15 => refine have nd4_14 : ∀ (Wd14 : World) (bq : Nat) (p4 : Option Addr) (n4 : Nat) (c4 : Nat) (p8 : Option Addr) (n8 : Nat) (c8 : Nat), Sta w Wd14 [(bq, 0, .slice none 0 0)] [N p8 n8 c8 (y), N p4 n4 c4 (x)] → (?Q4_14 : World → Nat → Option Addr → Nat → Nat → Option Addr → Nat → Nat → Prop) Wd14 bq p4 n4 c4 p8 n8 c8 := ?pf4_14; ?mn4_14
  case' mn4_14 => refine have nd4_13 : ∀ (Wd13 : World) (bp : Nat) (p4 : Option Addr) (n4 : Nat) (c4 : Nat) (p8 : Option Addr) (n8 : Nat) (c8 : Nat), Sta w Wd13 [(bp, 0, .slice none 0 0)] [N p8 n8 c8 (y), N p4 n4 c4 (x)] → (?Q4_13 : World → Nat → Option Addr → Nat → Nat → Option Addr → Nat → Nat → Prop) Wd13 bp p4 n4 c4 p8 n8 c8 := ?pf4_13; ?mn4_13
  case' mn4_13 => refine have nd4_12 : ∀ (Wd12 : World) (p4 : Option Addr) (n4 : Nat) (c4 : Nat) (p8 : Option Addr) (n8 : Nat) (c8 : Nat) (p21 : Option Addr) (n21 : Nat) (c21 : Nat), Sta w Wd12 [] [N p21 n21 c21 (m), N p8 n8 c8 (y), N p4 n4 c4 (x)] → (?Q4_12 : World → Option Addr → Nat → Nat → Option Addr → Nat → Nat → Option Addr → Nat → Nat → Prop) Wd12 p4 n4 c4 p8 n8 c8 p21 n21 c21 := ?pf4_12; ?mn4_12
  case' mn4_12 => refine have nd4_11 : ∀ (Wd11 : World) (bn : Nat) (bq : Nat), Sta w Wd11 [(bn, 0, .slice none 0 0), (bq, 0, .slice none 0 0)] [] → (?Q4_11 : World → Nat → Nat → Prop) Wd11 bn bq := ?pf4_11; ?mn4_11
  case' mn4_11 => refine have nd4_10 : ∀ (Wd10 : World) (bn : Nat) (bp : Nat), Sta w Wd10 [(bn, 0, .slice none 0 0), (bp, 0, .slice none 0 0)] [] → (?Q4_10 : World → Nat → Nat → Prop) Wd10 bn bp := ?pf4_10; ?mn4_10
  case' mn4_10 => refine have nd4_9 : ∀ (Wd9 : World) (bq : Nat) (bp : Nat), Sta w Wd9 [(bq, 0, .slice none 0 0), (bp, 0, .slice none 0 0)] [] → (?Q4_9 : World → Nat → Nat → Prop) Wd9 bq bp := ?pf4_9; ?mn4_9
  case' mn4_9 => refine have nd4_8 : ∀ (Wd8 : World) (bn : Nat) (p4 : Option Addr) (n4 : Nat) (c4 : Nat), Sta w Wd8 [(bn, 0, .slice none 0 0)] [N p4 n4 c4 (x)] → (?Q4_8 : World → Nat → Option Addr → Nat → Nat → Prop) Wd8 bn p4 n4 c4 := ?pf4_8; ?mn4_8
  case' mn4_8 => refine have nd4_7 : ∀ (Wd7 : World) (bq : Nat) (p4 : Option Addr) (n4 : Nat) (c4 : Nat), Sta w Wd7 [(bq, 0, .slice none 0 0)] [N p4 n4 c4 (x)] → (?Q4_7 : World → Nat → Option Addr → Nat → Nat → Prop) Wd7 bq p4 n4 c4 := ?pf4_7; ?mn4_7
  case' mn4_7 => refine have nd4_6 : ∀ (Wd6 : World) (bp : Nat) (p4 : Option Addr) (n4 : Nat) (c4 : Nat), Sta w Wd6 [(bp, 0, .slice none 0 0)] [N p4 n4 c4 (x)] → (?Q4_6 : World → Nat → Option Addr → Nat → Nat → Prop) Wd6 bp p4 n4 c4 := ?pf4_6; ?mn4_6
  case' mn4_6 => refine have nd4_5 : ∀ (Wd5 : World) (p4 : Option Addr) (n4 : Nat) (c4 : Nat) (p8 : Option Addr) (n8 : Nat) (c8 : Nat), Sta w Wd5 [] [N p8 n8 c8 (y), N p4 n4 c4 (x)] → (?Q4_5 : World → Option Addr → Nat → Nat → Option Addr → Nat → Nat → Prop) Wd5 p4 n4 c4 p8 n8 c8 := ?pf4_5; ?mn4_5
  case' mn4_5 => refine have nd4_4 : ∀ (Wd4 : World) (bn : Nat), Sta w Wd4 [(bn, 0, .slice none 0 0)] [] → (?Q4_4 : World → Nat → Prop) Wd4 bn := ?pf4_4; ?mn4_4
  case' mn4_4 => refine have nd4_3 : ∀ (Wd3 : World) (bq : Nat), Sta w Wd3 [(bq, 0, .slice none 0 0)] [] → (?Q4_3 : World → Nat → Prop) Wd3 bq := ?pf4_3; ?mn4_3
  case' mn4_3 => refine have nd4_2 : ∀ (Wd2 : World) (bp : Nat), Sta w Wd2 [(bp, 0, .slice none 0 0)] [] → (?Q4_2 : World → Nat → Prop) Wd2 bp := ?pf4_2; ?mn4_2
  case' mn4_2 => refine have nd4_1 : ∀ (Wd1 : World) (p4 : Option Addr) (n4 : Nat) (c4 : Nat), Sta w Wd1 [] [N p4 n4 c4 (x)] → (?Q4_1 : World → Option Addr → Nat → Nat → Prop) Wd1 p4 n4 c4 := ?pf4_1; ?mn4_1
  case mn4_1 =>
    (refine Kr.tPQ 0 (v := ?_) (a' := ?_) rfl (by kernel_rfl) (fun _ _ _ h => h) (by rfl) (fun _ => (H.sub [] rfl)) (fun wx => ?_) ?_ ?_; rotate_left 2; (focus (go_simp; first | done | rfl)); (focus ((try simp only [Kr.PT]); first | done | rfl)))
    (refine Kr.tPQ 1 (v := ?_) (a' := ?_) rfl (by kernel_rfl) (fun _ _ _ h => h) (by rfl) (fun _ => (H.sub [] rfl)) (fun wx => ?_) ?_ ?_; rotate_left 2; (focus (go_simp; first | done | rfl)); (focus ((try simp only [Kr.PT]); first | done | rfl)))
    (refine Kr.tPQ 2 (v := .int .u64 (x : Int)) (a' := ?_) rfl (by kernel_rfl) (fun _ _ _ h => h) (by rfl) (fun _ => (H.sub [] rfl)) (fun wx => ?_) ?_ ?_; rotate_left 1; (focus (exact Kr.valOf rfl (Kr.remU M0.out HXE.out))); (focus ((try simp only [Kr.PT]); first | done | rfl)))
    (refine Kr.tPQ 4 (v := ?_) (a' := ?_) rfl (by kernel_rfl) (fun _ _ _ h => h) (by rfl) (fun _ => (H.sub [] rfl)) (fun wx => ?_) ?_ ?_; rotate_left 2; (focus (go_simp; first | done | rfl)); (focus ((try simp only [Kr.PT]); first | done | rfl)))
    (refine Kr.tPQ 5 (v := ?_) (a' := ?_) rfl (by kernel_rfl) (fun _ _ _ h => h) (by rfl) (fun _ => (H.sub [] rfl)) (fun wx => ?_) ?_ ?_; rotate_left 2; (focus (go_simp; first | done | rfl)); (focus ((try simp only [Kr.PT]); first | done | rfl)))
    (refine Kr.tPQ 6 (v := .int .u64 (y : Int)) (a' := ?_) rfl (by kernel_rfl) (fun _ _ _ h => h) (by rfl) (fun _ => (H.sub [] rfl)) (fun wx => ?_) ?_ ?_; rotate_left 1; (focus (exact Kr.valOf rfl (Kr.remU M0.out HYE.out))); (focus ((try simp only [Kr.PT]); first | done | rfl)))
    (refine Kr.tPQ 8 (v := ?_) (a' := ?_) rfl (by kernel_rfl) (fun _ _ _ h => h) (by rfl) (fun _ => (H.sub [] rfl)) (fun wx => ?_) ?_ ?_; rotate_left 2; (focus (go_simp; first | done | rfl)); (focus ((try simp only [Kr.PT]); first | done | rfl)))
    refine Kr.readyL (rs := [3, 10, 11, 12]) (by kernel_rfl) (by simp) ?_
    refine Kr.AllL.cons rfl (fun K hK => ?_) ?_
    · go_simp
      go_at_call 38
      refine (of3_v x (Nat.lt_trans HX63.out (by decide)) _).mono ?_
      rintro e y4 ⟨p4, n4, c4, rfl, hr, hg⟩
      replace H := H.grow hg
      replace H := H.num hr.toNw
      clear hr hg
      (refine Kr.outL hK (a' := ?_) ?_ (fun _ => (H.sub [] rfl)) ?_; rotate_left; (focus ((try simp only [Kr.PT]); first | done | rfl))); clear hK K
      refine Kr.relistL (l2 := #[true, true, true, true, true, true, true, false, true, false, false, false, false, false, false, false]) (by kernel_rfl) ?_
      exact nd4_1 y4 p4 n4 c4 H
    refine Kr.AllL.cons rfl (fun K hK => ?_) ?_
    · go_simp
      obtain ⟨y5, hy⟩ : ∃ y, d3.alloc (.cells #[.slice none 0 0] 24) = y := ⟨_, rfl⟩
      obtain ⟨bp, hb⟩ : ∃ b, d3.heap.size = b := ⟨_, rfl⟩
      rw [hy, hb]
      replace H := H.alloc hy hb rfl
      clear hy hb
      (refine Kr.outL hK (a' := ?_) ?_ (fun _ => (H.sub [] rfl)) ?_; rotate_left; (focus ((try simp only [Kr.PT]); first | done | rfl))); clear hK K
      refine Kr.relistL (l2 := #[true, true, true, false, true, true, true, false, true, false, true, false, false, false, false, false]) (by kernel_rfl) ?_
      exact nd4_2 y5 bp H
    refine Kr.AllL.cons rfl (fun K hK => ?_) ?_
    · go_simp
      obtain ⟨y6, hy⟩ : ∃ y, d3.alloc (.cells #[.slice none 0 0] 24) = y := ⟨_, rfl⟩
      obtain ⟨bq, hb⟩ : ∃ b, d3.heap.size = b := ⟨_, rfl⟩
      rw [hy, hb]
      replace H := H.alloc hy hb rfl
      clear hy hb
      (refine Kr.outL hK (a' := ?_) ?_ (fun _ => (H.sub [] rfl)) ?_; rotate_left; (focus ((try simp only [Kr.PT]); first | done | rfl))); clear hK K
      refine Kr.relistL (l2 := #[true, true, true, false, true, true, true, false, true, false, false, true, false, false, false, false]) (by kernel_rfl) ?_
      exact nd4_3 y6 bq H
    refine Kr.AllL.cons rfl (fun K hK => ?_) Kr.AllL.nil
    go_simp
    obtain ⟨y7, hy⟩ : ∃ y, d3.alloc (.cells #[.slice none 0 0] 24) = y := ⟨_, rfl⟩
    obtain ⟨bn, hb⟩ : ∃ b, d3.heap.size = b := ⟨_, rfl⟩
    rw [hy, hb]
    replace H := H.alloc hy hb rfl
    clear hy hb
    (refine Kr.outL hK (a' := ?_) ?_ (fun _ => (H.sub [] rfl)) ?_; rotate_left; (focus ((try simp only [Kr.PT]); first | done | rfl))); clear hK K
    refine Kr.relistL (l2 := #[true, true, true, false, true, true, true, false, true, false, false, false, true, false, false, false]) (by kernel_rfl) ?_
    exact nd4_4 y7 bn H
  case pf4_1 =>
    intro Wd1 p4 n4 c4 H
    refine Kr.readyL (rs := [7, 10, 11, 12]) (by kernel_rfl) (by simp) ?_
    refine Kr.AllL.cons rfl (fun K hK => ?_) ?_
    · go_simp
      go_at_call 38
      refine (of3_v y (Nat.lt_trans HY63.out (by decide)) _).mono ?_
      rintro e y8 ⟨p8, n8, c8, rfl, hr, hg⟩
      replace H := H.grow hg
      replace H := H.num hr.toNw
      clear hr hg
      (refine Kr.outL hK (a' := ?_) ?_ (fun _ => (H.sub [] rfl)) ?_; rotate_left; (focus ((try simp only [Kr.PT]); first | done | rfl))); clear hK K
      refine Kr.relistL (l2 := #[true, true, true, true, true, true, true, true, true, false, false, false, false, false, false, false]) (by kernel_rfl) ?_
      exact nd4_5 y8 p4 n4 c4 p8 n8 c8 H
    refine Kr.AllL.cons rfl (fun K hK => ?_) ?_
    · go_simp
      obtain ⟨y9, hy⟩ : ∃ y, Wd1.alloc (.cells #[.slice none 0 0] 24) = y := ⟨_, rfl⟩
      obtain ⟨bp, hb⟩ : ∃ b, Wd1.heap.size = b := ⟨_, rfl⟩
      rw [hy, hb]
      replace H := H.alloc hy hb rfl
      clear hy hb
      (refine Kr.outL hK (a' := ?_) ?_ (fun _ => (H.sub [] rfl)) ?_; rotate_left; (focus ((try simp only [Kr.PT]); first | done | rfl))); clear hK K
      refine Kr.relistL (l2 := #[true, true, true, true, true, true, true, false, true, false, true, false, false, false, false, false]) (by kernel_rfl) ?_
      exact nd4_6 y9 bp p4 n4 c4 H
    refine Kr.AllL.cons rfl (fun K hK => ?_) ?_
    · go_simp
      obtain ⟨y10, hy⟩ : ∃ y, Wd1.alloc (.cells #[.slice none 0 0] 24) = y := ⟨_, rfl⟩
      obtain ⟨bq, hb⟩ : ∃ b, Wd1.heap.size = b := ⟨_, rfl⟩
      rw [hy, hb]
      replace H := H.alloc hy hb rfl
      clear hy hb
      (refine Kr.outL hK (a' := ?_) ?_ (fun _ => (H.sub [] rfl)) ?_; rotate_left; (focus ((try simp only [Kr.PT]); first | done | rfl))); clear hK K
      refine Kr.relistL (l2 := #[true, true, true, true, true, true, true, false, true, false, false, true, false, false, false, false]) (by kernel_rfl) ?_
      exact nd4_7 y10 bq p4 n4 c4 H
    refine Kr.AllL.cons rfl (fun K hK => ?_) Kr.AllL.nil
    go_simp
    obtain ⟨y11, hy⟩ : ∃ y, Wd1.alloc (.cells #[.slice none 0 0] 24) = y := ⟨_, rfl⟩
    obtain ⟨bn, hb⟩ : ∃ b, Wd1.heap.size = b := ⟨_, rfl⟩
    rw [hy, hb]
    replace H := H.alloc hy hb rfl
    clear hy hb
    (refine Kr.outL hK (a' := ?_) ?_ (fun _ => (H.sub [] rfl)) ?_; rotate_left; (focus ((try simp only [Kr.PT]); first | done | rfl))); clear hK K
    refine Kr.relistL (l2 := #[true, true, true, true, true, true, true, false, true, false, false, false, true, false, false, false]) (by kernel_rfl) ?_
    exact nd4_8 y11 bn p4 n4 c4 H
  case pf4_2 =>
    intro Wd2 bp H
    refine Kr.readyL (rs := [3, 11, 12]) (by kernel_rfl) (by simp) ?_
    refine Kr.AllL.cons rfl (fun K hK => ?_) ?_
    · go_simp
      go_at_call 38
      refine (of3_v x (Nat.lt_trans HX63.out (by decide)) _).mono ?_
      rintro e y12 ⟨p12, n12, c12, rfl, hr, hg⟩
      replace H := H.grow hg
      replace H := H.num hr.toNw
      clear hr hg
      (refine Kr.outL hK (a' := ?_) ?_ (fun _ => (H.sub [] rfl)) ?_; rotate_left; (focus ((try simp only [Kr.PT]); first | done | rfl))); clear hK K
      refine Kr.relistL (l2 := #[true, true, true, true, true, true, true, false, true, false, true, false, false, false, false, false]) (by kernel_rfl) ?_
      exact nd4_6 y12 bp p12 n12 c12 H
    refine Kr.AllL.cons rfl (fun K hK => ?_) ?_
    · go_simp
      obtain ⟨y13, hy⟩ : ∃ y, Wd2.alloc (.cells #[.slice none 0 0] 24) = y := ⟨_, rfl⟩
      obtain ⟨bq, hb⟩ : ∃ b, Wd2.heap.size = b := ⟨_, rfl⟩
      rw [hy, hb]
      replace H := H.alloc hy hb rfl
      clear hy hb
      (refine Kr.outL hK (a' := ?_) ?_ (fun _ => (H.sub [] rfl)) ?_; rotate_left; (focus ((try simp only [Kr.PT]); first | done | rfl))); clear hK K
      refine Kr.relistL (l2 := #[true, true, true, false, true, true, true, false, true, false, true, true, false, false, false, false]) (by kernel_rfl) ?_
      exact nd4_9 y13 bq bp H
    refine Kr.AllL.cons rfl (fun K hK => ?_) Kr.AllL.nil
    go_simp
    obtain ⟨y14, hy⟩ : ∃ y, Wd2.alloc (.cells #[.slice none 0 0] 24) = y := ⟨_, rfl⟩
    obtain ⟨bn, hb⟩ : ∃ b, Wd2.heap.size = b := ⟨_, rfl⟩
    rw [hy, hb]
    replace H := H.alloc hy hb rfl
    clear hy hb
    (refine Kr.outL hK (a' := ?_) ?_ (fun _ => (H.sub [] rfl)) ?_; rotate_left; (focus ((try simp only [Kr.PT]); first | done | rfl))); clear hK K
    refine Kr.relistL (l2 := #[true, true, true, false, true, true, true, false, true, false, true, false, true, false, false, false]) (by kernel_rfl) ?_
    exact nd4_10 y14 bn bp H
  case pf4_3 =>
    intro Wd3 bq H
    refine Kr.readyL (rs := [3, 10, 12]) (by kernel_rfl) (by simp) ?_
    refine Kr.AllL.cons rfl (fun K hK => ?_) ?_
    · go_simp
      go_at_call 38
      refine (of3_v x (Nat.lt_trans HX63.out (by decide)) _).mono ?_
      rintro e y15 ⟨p15, n15, c15, rfl, hr, hg⟩
      replace H := H.grow hg
      replace H := H.num hr.toNw
      clear hr hg
      (refine Kr.outL hK (a' := ?_) ?_ (fun _ => (H.sub [] rfl)) ?_; rotate_left; (focus ((try simp only [Kr.PT]); first | done | rfl))); clear hK K
      refine Kr.relistL (l2 := #[true, true, true, true, true, true, true, false, true, false, false, true, false, false, false, false]) (by kernel_rfl) ?_
      exact nd4_7 y15 bq p15 n15 c15 H
    refine Kr.AllL.cons rfl (fun K hK => ?_) ?_
    · go_simp
      obtain ⟨y16, hy⟩ : ∃ y, Wd3.alloc (.cells #[.slice none 0 0] 24) = y := ⟨_, rfl⟩
      obtain ⟨bp, hb⟩ : ∃ b, Wd3.heap.size = b := ⟨_, rfl⟩
      rw [hy, hb]
      replace H := H.alloc hy hb rfl
      clear hy hb
      (refine Kr.outL hK (a' := ?_) ?_ (fun _ => (H.sub [] rfl)) ?_; rotate_left; (focus ((try simp only [Kr.PT]); first | done | rfl))); clear hK K
      refine Kr.relistL (l2 := #[true, true, true, false, true, true, true, false, true, false, true, true, false, false, false, false]) (by kernel_rfl) ?_
      exact nd4_9 y16 bq bp (H.pickC [1, 0] (by decide) rfl)
    refine Kr.AllL.cons rfl (fun K hK => ?_) Kr.AllL.nil
    go_simp
    obtain ⟨y17, hy⟩ : ∃ y, Wd3.alloc (.cells #[.slice none 0 0] 24) = y := ⟨_, rfl⟩
    obtain ⟨bn, hb⟩ : ∃ b, Wd3.heap.size = b := ⟨_, rfl⟩
    rw [hy, hb]
    replace H := H.alloc hy hb rfl
    clear hy hb
    (refine Kr.outL hK (a' := ?_) ?_ (fun _ => (H.sub [] rfl)) ?_; rotate_left; (focus ((try simp only [Kr.PT]); first | done | rfl))); clear hK K
    refine Kr.relistL (l2 := #[true, true, true, false, true, true, true, false, true, false, false, true, true, false, false, false]) (by kernel_rfl) ?_
    exact nd4_11 y17 bn bq H
  case pf4_4 =>
    intro Wd4 bn H
    refine Kr.readyL (rs := [3, 10, 11]) (by kernel_rfl) (by simp) ?_
    refine Kr.AllL.cons rfl (fun K hK => ?_) ?_
    · go_simp
      go_at_call 38
      refine (of3_v x (Nat.lt_trans HX63.out (by decide)) _).mono ?_
      rintro e y18 ⟨p18, n18, c18, rfl, hr, hg⟩
      replace H := H.grow hg
      replace H := H.num hr.toNw
      clear hr hg
      (refine Kr.outL hK (a' := ?_) ?_ (fun _ => (H.sub [] rfl)) ?_; rotate_left; (focus ((try simp only [Kr.PT]); first | done | rfl))); clear hK K
      refine Kr.relistL (l2 := #[true, true, true, true, true, true, true, false, true, false, false, false, true, false, false, false]) (by kernel_rfl) ?_
      exact nd4_8 y18 bn p18 n18 c18 H
    refine Kr.AllL.cons rfl (fun K hK => ?_) ?_
    · go_simp
      obtain ⟨y19, hy⟩ : ∃ y, Wd4.alloc (.cells #[.slice none 0 0] 24) = y := ⟨_, rfl⟩
      obtain ⟨bp, hb⟩ : ∃ b, Wd4.heap.size = b := ⟨_, rfl⟩
      rw [hy, hb]
      replace H := H.alloc hy hb rfl
      clear hy hb
      (refine Kr.outL hK (a' := ?_) ?_ (fun _ => (H.sub [] rfl)) ?_; rotate_left; (focus ((try simp only [Kr.PT]); first | done | rfl))); clear hK K
      refine Kr.relistL (l2 := #[true, true, true, false, true, true, true, false, true, false, true, false, true, false, false, false]) (by kernel_rfl) ?_
      exact nd4_10 y19 bn bp (H.pickC [1, 0] (by decide) rfl)
    refine Kr.AllL.cons rfl (fun K hK => ?_) Kr.AllL.nil
    go_simp
    obtain ⟨y20, hy⟩ : ∃ y, Wd4.alloc (.cells #[.slice none 0 0] 24) = y := ⟨_, rfl⟩
    obtain ⟨bq, hb⟩ : ∃ b, Wd4.heap.size = b := ⟨_, rfl⟩
    rw [hy, hb]
    replace H := H.alloc hy hb rfl
    clear hy hb
    (refine Kr.outL hK (a' := ?_) ?_ (fun _ => (H.sub [] rfl)) ?_; rotate_left; (focus ((try simp only [Kr.PT]); first | done | rfl))); clear hK K
    refine Kr.relistL (l2 := #[true, true, true, false, true, true, true, false, true, false, false, true, true, false, false, false]) (by kernel_rfl) ?_
    exact nd4_11 y20 bn bq (H.pickC [1, 0] (by decide) rfl)
  case pf4_5 =>
    intro Wd5 p4 n4 c4 p8 n8 c8 H
    refine Kr.readyL (rs := [9, 10, 11, 12]) (by kernel_rfl) (by simp) ?_
    refine Kr.AllL.cons rfl (fun K hK => ?_) ?_
    · go_simp
      go_at_call 38
      refine (of3_v m (Nat.lt_trans HM63.out (by decide)) _).mono ?_
      rintro e y21 ⟨p21, n21, c21, rfl, hr, hg⟩
      replace H := H.grow hg
      replace H := H.num hr.toNw
      clear hr hg
      (refine Kr.outL hK (a' := ?_) ?_ (fun _ => (H.sub [] rfl)) ?_; rotate_left; (focus ((try simp only [Kr.PT]); first | done | rfl))); clear hK K
      refine Kr.relistL (l2 := #[true, true, true, true, true, true, true, true, true, true, false, false, false, false, false, false]) (by kernel_rfl) ?_
      exact nd4_12 y21 p4 n4 c4 p8 n8 c8 p21 n21 c21 H
    refine Kr.AllL.cons rfl (fun K hK => ?_) ?_
    · go_simp
      obtain ⟨y22, hy⟩ : ∃ y, Wd5.alloc (.cells #[.slice none 0 0] 24) = y := ⟨_, rfl⟩
      obtain ⟨bp, hb⟩ : ∃ b, Wd5.heap.size = b := ⟨_, rfl⟩
      rw [hy, hb]
      replace H := H.alloc hy hb rfl
      clear hy hb
      (refine Kr.outL hK (a' := ?_) ?_ (fun _ => (H.sub [] rfl)) ?_; rotate_left; (focus ((try simp only [Kr.PT]); first | done | rfl))); clear hK K
      refine Kr.relistL (l2 := #[true, true, true, true, true, true, true, true, true, false, true, false, false, false, false, false]) (by kernel_rfl) ?_
      exact nd4_13 y22 bp p4 n4 c4 p8 n8 c8 H
    refine Kr.AllL.cons rfl (fun K hK => ?_) ?_
    · go_simp
      obtain ⟨y23, hy⟩ : ∃ y, Wd5.alloc (.cells #[.slice none 0 0] 24) = y := ⟨_, rfl⟩
      obtain ⟨bq, hb⟩ : ∃ b, Wd5.heap.size = b := ⟨_, rfl⟩
      rw [hy, hb]
      replace H := H.alloc hy hb rfl
      clear hy hb
      (refine Kr.outL hK (a' := ?_) ?_ (fun _ => (H.sub [] rfl)) ?_; rotate_left; (focus ((try simp only [Kr.PT]); first | done | rfl))); clear hK K
      refine Kr.relistL (l2 := #[true, true, true, true, true, true, true, true, true, false, false, true, false, false, false, false]) (by kernel_rfl) ?_
      exact nd4_14 y23 bq p4 n4 c4 p8 n8 c8 H
    refine Kr.AllL.cons rfl (fun K hK => ?_) Kr.AllL.nil
    go_simp
    obtain ⟨y24, hy⟩ : ∃ y, Wd5.alloc (.cells #[.slice none 0 0] 24) = y := ⟨_, rfl⟩
    obtain ⟨bn, hb⟩ : ∃ b, Wd5.heap.size = b := ⟨_, rfl⟩
    rw [hy, hb]
    replace H := H.alloc hy hb rfl
    clear hy hb
    (refine Kr.outL hK (a' := ?_) ?_ (fun _ => (H.sub [] rfl)) ?_; rotate_left; (focus ((try simp only [Kr.PT]); first | done | rfl))); clear hK K
    refine Kr.relistL (l2 := #[true, true, true, true, true, true, true, true, true, false, false, false, true, false, false, false]) (by kernel_rfl) ?_
    exact nd4_15 y24 bn p4 n4 c4 p8 n8 c8 H
  case pf4_6 =>
    intro Wd6 bp p4 n4 c4 H
    refine Kr.readyL (rs := [7, 11, 12]) (by kernel_rfl) (by simp) ?_
    refine Kr.AllL.cons rfl (fun K hK => ?_) ?_
    · go_simp
      go_at_call 38
      refine (of3_v y (Nat.lt_trans HY63.out (by decide)) _).mono ?_
      rintro e y25 ⟨p25, n25, c25, rfl, hr, hg⟩
      replace H := H.grow hg
      replace H := H.num hr.toNw
      clear hr hg
      (refine Kr.outL hK (a' := ?_) ?_ (fun _ => (H.sub [] rfl)) ?_; rotate_left; (focus ((try simp only [Kr.PT]); first | done | rfl))); clear hK K
      refine Kr.relistL (l2 := #[true, true, true, true, true, true, true, true, true, false, true, false, false, false, false, false]) (by kernel_rfl) ?_
      exact nd4_13 y25 bp p4 n4 c4 p25 n25 c25 H
    refine Kr.AllL.cons rfl (fun K hK => ?_) ?_
    · go_simp
      obtain ⟨y26, hy⟩ : ∃ y, Wd6.alloc (.cells #[.slice none 0 0] 24) = y := ⟨_, rfl⟩
      obtain ⟨bq, hb⟩ : ∃ b, Wd6.heap.size = b := ⟨_, rfl⟩
      rw [hy, hb]
      replace H := H.alloc hy hb rfl
      clear hy hb
      (refine Kr.outL hK (a' := ?_) ?_ (fun _ => (H.sub [] rfl)) ?_; rotate_left; (focus ((try simp only [Kr.PT]); first | done | rfl))); clear hK K
      refine Kr.relistL (l2 := #[true, true, true, true, true, true, true, false, true, false, true, true, false, false, false, false]) (by kernel_rfl) ?_
      exact nd4_16 y26 bq bp p4 n4 c4 H
    refine Kr.AllL.cons rfl (fun K hK => ?_) Kr.AllL.nil
    go_simp
    obtain ⟨y27, hy⟩ : ∃ y, Wd6.alloc (.cells #[.slice none 0 0] 24) = y := ⟨_, rfl⟩
    obtain ⟨bn, hb⟩ : ∃ b, Wd6.heap.size = b := ⟨_, rfl⟩
    rw [hy, hb]
    replace H := H.alloc hy hb rfl
    clear hy hb
    (refine Kr.outL hK (a' := ?_) ?_ (fun _ => (H.sub [] rfl)) ?_; rotate_left; (focus ((try simp only [Kr.PT]); first | done | rfl))); clear hK K
    refine Kr.relistL (l2 := #[true, true, true, true, true, true, true, false, true, false, true, false, true, false, false, false]) (by kernel_rfl) ?_
    exact nd4_17 y27 bn bp p4 n4 c4 H
  case pf4_7 =>
    intro Wd7 bq p4 n4 c4 H
    refine Kr.readyL (rs := [7, 10, 12]) (by kernel_rfl) (by simp) ?_
    refine Kr.AllL.cons rfl (fun K hK => ?_) ?_
    · go_simp
      go_at_call 38
      refine (of3_v y (Nat.lt_trans HY63.out (by decide)) _).mono ?_
      rintro e y28 ⟨p28, n28, c28, rfl, hr, hg⟩
      replace H := H.grow hg
      replace H := H.num hr.toNw
      clear hr hg
      (refine Kr.outL hK (a' := ?_) ?_ (fun _ => (H.sub [] rfl)) ?_; rotate_left; (focus ((try simp only [Kr.PT]); first | done | rfl))); clear hK K
      refine Kr.relistL (l2 := #[true, true, true, true, true, true, true, true, true, false, false, true, false, false, false, false]) (by kernel_rfl) ?_
      exact nd4_14 y28 bq p4 n4 c4 p28 n28 c28 H
    refine Kr.AllL.cons rfl (fun K hK => ?_) ?_
    · go_simp
      obtain ⟨y29, hy⟩ : ∃ y, Wd7.alloc (.cells #[.slice none 0 0] 24) = y := ⟨_, rfl⟩
      obtain ⟨bp, hb⟩ : ∃ b, Wd7.heap.size = b := ⟨_, rfl⟩
      rw [hy, hb]
      replace H := H.alloc hy hb rfl
      clear hy hb
      (refine Kr.outL hK (a' := ?_) ?_ (fun _ => (H.sub [] rfl)) ?_; rotate_left; (focus ((try simp only [Kr.PT]); first | done | rfl))); clear hK K
      refine Kr.relistL (l2 := #[true, true, true, true, true, true, true, false, true, false, true, true, false, false, false, false]) (by kernel_rfl) ?_
      exact nd4_16 y29 bq bp p4 n4 c4 (H.pickC [1, 0] (by decide) rfl)
    refine Kr.AllL.cons rfl (fun K hK => ?_) Kr.AllL.nil
    go_simp
    obtain ⟨y30, hy⟩ : ∃ y, Wd7.alloc (.cells #[.slice none 0 0] 24) = y := ⟨_, rfl⟩
    obtain ⟨bn, hb⟩ : ∃ b, Wd7.heap.size = b := ⟨_, rfl⟩
    rw [hy, hb]
    replace H := H.alloc hy hb rfl
    clear hy hb
    (refine Kr.outL hK (a' := ?_) ?_ (fun _ => (H.sub [] rfl)) ?_; rotate_left; (focus ((try simp only [Kr.PT]); first | done | rfl))); clear hK K
    refine Kr.relistL (l2 := #[true, true, true, true, true, true, true, false, true, false, false, true, true, false, false, false]) (by kernel_rfl) ?_
    exact nd4_18 y30 bn bq p4 n4 c4 H
  case pf4_8 =>
    intro Wd8 bn p4 n4 c4 H
    refine Kr.readyL (rs := [7, 10, 11]) (by kernel_rfl) (by simp) ?_
    refine Kr.AllL.cons rfl (fun K hK => ?_) ?_
    · go_simp
      go_at_call 38
      refine (of3_v y (Nat.lt_trans HY63.out (by decide)) _).mono ?_
      rintro e y31 ⟨p31, n31, c31, rfl, hr, hg⟩
      replace H := H.grow hg
      replace H := H.num hr.toNw
      clear hr hg
      (refine Kr.outL hK (a' := ?_) ?_ (fun _ => (H.sub [] rfl)) ?_; rotate_left; (focus ((try simp only [Kr.PT]); first | done | rfl))); clear hK K
      refine Kr.relistL (l2 := #[true, true, true, true, true, true, true, true, true, false, false, false, true, false, false, false]) (by kernel_rfl) ?_
      exact nd4_15 y31 bn p4 n4 c4 p31 n31 c31 H
    refine Kr.AllL.cons rfl (fun K hK => ?_) ?_
    · go_simp
      obtain ⟨y32, hy⟩ : ∃ y, Wd8.alloc (.cells #[.slice none 0 0] 24) = y := ⟨_, rfl⟩
      obtain ⟨bp, hb⟩ : ∃ b, Wd8.heap.size = b := ⟨_, rfl⟩
      rw [hy, hb]
      replace H := H.alloc hy hb rfl
      clear hy hb
      (refine Kr.outL hK (a' := ?_) ?_ (fun _ => (H.sub [] rfl)) ?_; rotate_left; (focus ((try simp only [Kr.PT]); first | done | rfl))); clear hK K
      refine Kr.relistL (l2 := #[true, true, true, true, true, true, true, false, true, false, true, false, true, false, false, false]) (by kernel_rfl) ?_
      exact nd4_17 y32 bn bp p4 n4 c4 (H.pickC [1, 0] (by decide) rfl)
    refine Kr.AllL.cons rfl (fun K hK => ?_) Kr.AllL.nil
    go_simp
    obtain ⟨y33, hy⟩ : ∃ y, Wd8.alloc (.cells #[.slice none 0 0] 24) = y := ⟨_, rfl⟩
    obtain ⟨bq, hb⟩ : ∃ b, Wd8.heap.size = b := ⟨_, rfl⟩
    rw [hy, hb]
    replace H := H.alloc hy hb rfl
    clear hy hb
    (refine Kr.outL hK (a' := ?_) ?_ (fun _ => (H.sub [] rfl)) ?_; rotate_left; (focus ((try simp only [Kr.PT]); first | done | rfl))); clear hK K
    refine Kr.relistL (l2 := #[true, true, true, true, true, true, true, false, true, false, false, true, true, false, false, false]) (by kernel_rfl) ?_
    exact nd4_18 y33 bn bq p4 n4 c4 (H.pickC [1, 0] (by decide) rfl)
  case pf4_9 =>
    intro Wd9 bq bp H
    refine Kr.readyL (rs := [3, 12]) (by kernel_rfl) (by simp) ?_
    refine Kr.AllL.cons rfl (fun K hK => ?_) ?_
    · go_simp
      go_at_call 38
      refine (of3_v x (Nat.lt_trans HX63.out (by decide)) _).mono ?_
      rintro e y34 ⟨p34, n34, c34, rfl, hr, hg⟩
      replace H := H.grow hg
      replace H := H.num hr.toNw
      clear hr hg
      (refine Kr.outL hK (a' := ?_) ?_ (fun _ => (H.sub [] rfl)) ?_; rotate_left; (focus ((try simp only [Kr.PT]); first | done | rfl))); clear hK K
      refine Kr.relistL (l2 := #[true, true, true, true, true, true, true, false, true, false, true, true, false, false, false, false]) (by kernel_rfl) ?_
      exact nd4_16 y34 bq bp p34 n34 c34 H
    refine Kr.AllL.cons rfl (fun K hK => ?_) Kr.AllL.nil
    go_simp
    obtain ⟨y35, hy⟩ : ∃ y, Wd9.alloc (.cells #[.slice none 0 0] 24) = y := ⟨_, rfl⟩
    obtain ⟨bn, hb⟩ : ∃ b, Wd9.heap.size = b := ⟨_, rfl⟩
    rw [hy, hb]
    replace H := H.alloc hy hb rfl
    clear hy hb
    (refine Kr.outL hK (a' := ?_) ?_ (fun _ => (H.sub [] rfl)) ?_; rotate_left; (focus ((try simp only [Kr.PT]); first | done | rfl))); clear hK K
    refine Kr.relistL (l2 := #[true, true, true, false, true, true, true, false, true, false, true, true, true, false, false, false]) (by kernel_rfl) ?_
    exact nd4_19 y35 bn bq bp H
  case pf4_10 =>
    intro Wd10 bn bp H
    refine Kr.readyL (rs := [3, 11]) (by kernel_rfl) (by simp) ?_
    refine Kr.AllL.cons rfl (fun K hK => ?_) ?_
    · go_simp
      go_at_call 38
      refine (of3_v x (Nat.lt_trans HX63.out (by decide)) _).mono ?_
      rintro e y36 ⟨p36, n36, c36, rfl, hr, hg⟩
      replace H := H.grow hg
      replace H := H.num hr.toNw
      clear hr hg
      (refine Kr.outL hK (a' := ?_) ?_ (fun _ => (H.sub [] rfl)) ?_; rotate_left; (focus ((try simp only [Kr.PT]); first | done | rfl))); clear hK K
      refine Kr.relistL (l2 := #[true, true, true, true, true, true, true, false, true, false, true, false, true, false, false, false]) (by kernel_rfl) ?_
      exact nd4_17 y36 bn bp p36 n36 c36 H
    refine Kr.AllL.cons rfl (fun K hK => ?_) Kr.AllL.nil
    go_simp
    obtain ⟨y37, hy⟩ : ∃ y, Wd10.alloc (.cells #[.slice none 0 0] 24) = y := ⟨_, rfl⟩
    obtain ⟨bq, hb⟩ : ∃ b, Wd10.heap.size = b := ⟨_, rfl⟩
    rw [hy, hb]
    replace H := H.alloc hy hb rfl
    clear hy hb
    (refine Kr.outL hK (a' := ?_) ?_ (fun _ => (H.sub [] rfl)) ?_; rotate_left; (focus ((try simp only [Kr.PT]); first | done | rfl))); clear hK K
    refine Kr.relistL (l2 := #[true, true, true, false, true, true, true, false, true, false, true, true, true, false, false, false]) (by kernel_rfl) ?_
    exact nd4_19 y37 bn bq bp (H.pickC [1, 0, 2] (by decide) rfl)
  case pf4_11 =>
    intro Wd11 bn bq H
    refine Kr.readyL (rs := [3, 10]) (by kernel_rfl) (by simp) ?_
    refine Kr.AllL.cons rfl (fun K hK => ?_) ?_
    · go_simp
      go_at_call 38
      refine (of3_v x (Nat.lt_trans HX63.out (by decide)) _).mono ?_
      rintro e y38 ⟨p38, n38, c38, rfl, hr, hg⟩
      replace H := H.grow hg
      replace H := H.num hr.toNw
      clear hr hg
      (refine Kr.outL hK (a' := ?_) ?_ (fun _ => (H.sub [] rfl)) ?_; rotate_left; (focus ((try simp only [Kr.PT]); first | done | rfl))); clear hK K
      refine Kr.relistL (l2 := #[true, true, true, true, true, true, true, false, true, false, false, true, true, false, false, false]) (by kernel_rfl) ?_
      exact nd4_18 y38 bn bq p38 n38 c38 H
    refine Kr.AllL.cons rfl (fun K hK => ?_) Kr.AllL.nil
    go_simp
    obtain ⟨y39, hy⟩ : ∃ y, Wd11.alloc (.cells #[.slice none 0 0] 24) = y := ⟨_, rfl⟩
    obtain ⟨bp, hb⟩ : ∃ b, Wd11.heap.size = b := ⟨_, rfl⟩
    rw [hy, hb]
    replace H := H.alloc hy hb rfl
    clear hy hb
    (refine Kr.outL hK (a' := ?_) ?_ (fun _ => (H.sub [] rfl)) ?_; rotate_left; (focus ((try simp only [Kr.PT]); first | done | rfl))); clear hK K
    refine Kr.relistL (l2 := #[true, true, true, false, true, true, true, false, true, false, true, true, true, false, false, false]) (by kernel_rfl) ?_
    exact nd4_19 y39 bn bq bp (H.pickC [1, 2, 0] (by decide) rfl)
  case pf4_12 =>
    intro Wd12 p4 n4 c4 p8 n8 c8 p21 n21 c21 H
    refine Kr.readyL (rs := [10, 11, 12]) (by kernel_rfl) (by simp) ?_
    refine Kr.AllL.cons rfl (fun K hK => ?_) ?_
    · go_simp
      obtain ⟨y40, hy⟩ : ∃ y, Wd12.alloc (.cells #[.slice none 0 0] 24) = y := ⟨_, rfl⟩
      obtain ⟨bp, hb⟩ : ∃ b, Wd12.heap.size = b := ⟨_, rfl⟩
      rw [hy, hb]
      replace H := H.alloc hy hb rfl
      clear hy hb
      (refine Kr.outL hK (a' := ?_) ?_ (fun _ => (H.sub [] rfl)) ?_; rotate_left; (focus ((try simp only [Kr.PT]); first | done | rfl))); clear hK K
      refine Kr.relistL (l2 := #[true, true, true, true, true, true, true, true, true, true, true, false, false, false, false, false]) (by kernel_rfl) ?_
      exact nd4_20 y40 bp p4 n4 c4 p8 n8 c8 p21 n21 c21 H
    refine Kr.AllL.cons rfl (fun K hK => ?_) ?_
    · go_simp
      obtain ⟨y41, hy⟩ : ∃ y, Wd12.alloc (.cells #[.slice none 0 0] 24) = y := ⟨_, rfl⟩
      obtain ⟨bq, hb⟩ : ∃ b, Wd12.heap.size = b := ⟨_, rfl⟩
      rw [hy, hb]
      replace H := H.alloc hy hb rfl
      clear hy hb
      (refine Kr.outL hK (a' := ?_) ?_ (fun _ => (H.sub [] rfl)) ?_; rotate_left; (focus ((try simp only [Kr.PT]); first | done | rfl))); clear hK K
      refine Kr.relistL (l2 := #[true, true, true, true, true, true, true, true, true, true, false, true, false, false, false, false]) (by kernel_rfl) ?_
      exact nd4_21 y41 bq p4 n4 c4 p8 n8 c8 p21 n21 c21 H
    refine Kr.AllL.cons rfl (fun K hK => ?_) Kr.AllL.nil
    go_simp
    obtain ⟨y42, hy⟩ : ∃ y, Wd12.alloc (.cells #[.slice none 0 0] 24) = y := ⟨_, rfl⟩
    obtain ⟨bn, hb⟩ : ∃ b, Wd12.heap.size = b := ⟨_, rfl⟩
    rw [hy, hb]
    replace H := H.alloc hy hb rfl
    clear hy hb
    (refine Kr.outL hK (a' := ?_) ?_ (fun _ => (H.sub [] rfl)) ?_; rotate_left; (focus ((try simp only [Kr.PT]); first | done | rfl))); clear hK K
    refine Kr.relistL (l2 := #[true, true, true, true, true, true, true, true, true, true, false, false, true, false, false, false]) (by kernel_rfl) ?_
    exact nd4_22 y42 bn p4 n4 c4 p8 n8 c8 p21 n21 c21 H
  case pf4_13 =>
    intro Wd13 bp p4 n4 c4 p8 n8 c8 H
    refine Kr.readyL (rs := [9, 11, 12]) (by kernel_rfl) (by simp) ?_
    refine Kr.AllL.cons rfl (fun K hK => ?_) ?_
    · go_simp
      go_at_call 38
      refine (of3_v m (Nat.lt_trans HM63.out (by decide)) _).mono ?_
      rintro e y43 ⟨p43, n43, c43, rfl, hr, hg⟩
      replace H := H.grow hg
      replace H := H.num hr.toNw
      clear hr hg
      (refine Kr.outL hK (a' := ?_) ?_ (fun _ => (H.sub [] rfl)) ?_; rotate_left; (focus ((try simp only [Kr.PT]); first | done | rfl))); clear hK K
      refine Kr.relistL (l2 := #[true, true, true, true, true, true, true, true, true, true, true, false, false, false, false, false]) (by kernel_rfl) ?_
      exact nd4_20 y43 bp p4 n4 c4 p8 n8 c8 p43 n43 c43 H
    refine Kr.AllL.cons rfl (fun K hK => ?_) ?_
    · go_simp
      obtain ⟨y44, hy⟩ : ∃ y, Wd13.alloc (.cells #[.slice none 0 0] 24) = y := ⟨_, rfl⟩
      obtain ⟨bq, hb⟩ : ∃ b, Wd13.heap.size = b := ⟨_, rfl⟩
      rw [hy, hb]
      replace H := H.alloc hy hb rfl
      clear hy hb
      (refine Kr.outL hK (a' := ?_) ?_ (fun _ => (H.sub [] rfl)) ?_; rotate_left; (focus ((try simp only [Kr.PT]); first | done | rfl))); clear hK K
      refine Kr.relistL (l2 := #[true, true, true, true, true, true, true, true, true, false, true, true, false, false, false, false]) (by kernel_rfl) ?_
      exact nd4_23 y44 bq bp p4 n4 c4 p8 n8 c8 H
    refine Kr.AllL.cons rfl (fun K hK => ?_) Kr.AllL.nil
    go_simp
    obtain ⟨y45, hy⟩ : ∃ y, Wd13.alloc (.cells #[.slice none 0 0] 24) = y := ⟨_, rfl⟩
    obtain ⟨bn, hb⟩ : ∃ b, Wd13.heap.size = b := ⟨_, rfl⟩
    rw [hy, hb]
    replace H := H.alloc hy hb rfl
    clear hy hb
    (refine Kr.outL hK (a' := ?_) ?_ (fun _ => (H.sub [] rfl)) ?_; rotate_left; (focus ((try simp only [Kr.PT]); first | done | rfl))); clear hK K
    refine Kr.relistL (l2 := #[true, true, true, true, true, true, true, true, true, false, true, false, true, false, false, false]) (by kernel_rfl) ?_
    exact nd4_24 y45 bn bp p4 n4 c4 p8 n8 c8 H
  case pf4_14 =>
    intro Wd14 bq p4 n4 c4 p8 n8 c8 H
    refine Kr.readyL (rs := [9, 10, 12]) (by kernel_rfl) (by simp) ?_
    refine Kr.AllL.cons rfl (fun K hK => ?_) ?_
    · go_simp
      go_at_call 38
      refine (of3_v m (Nat.lt_trans HM63.out (by decide)) _).mono ?_
      rintro e y46 ⟨p46, n46, c46, rfl, hr, hg⟩
      replace H := H.grow hg
      replace H := H.num hr.toNw
      clear hr hg
      (refine Kr.outL hK (a' := ?_) ?_ (fun _ => (H.sub [] rfl)) ?_; rotate_left; (focus ((try simp only [Kr.PT]); first | done | rfl))); clear hK K
      refine Kr.relistL (l2 := #[true, true, true, true, true, true, true, true, true, true, false, true, false, false, false, false]) (by kernel_rfl) ?_
      exact nd4_21 y46 bq p4 n4 c4 p8 n8 c8 p46 n46 c46 H
    refine Kr.AllL.cons rfl (fun K hK => ?_) ?_
    · go_simp
      obtain ⟨y47, hy⟩ : ∃ y, Wd14.alloc (.cells #[.slice none 0 0] 24) = y := ⟨_, rfl⟩
      obtain ⟨bp, hb⟩ : ∃ b, Wd14.heap.size = b := ⟨_, rfl⟩
      rw [hy, hb]
      replace H := H.alloc hy hb rfl
      clear hy hb
      (refine Kr.outL hK (a' := ?_) ?_ (fun _ => (H.sub [] rfl)) ?_; rotate_left; (focus ((try simp only [Kr.PT]); first | done | rfl))); clear hK K
      refine Kr.relistL (l2 := #[true, true, true, true, true, true, true, true, true, false, true, true, false, false, false, false]) (by kernel_rfl) ?_
      exact nd4_23 y47 bq bp p4 n4 c4 p8 n8 c8 (H.pickC [1, 0] (by decide) rfl)
    refine Kr.AllL.cons rfl (fun K hK => ?_) Kr.AllL.nil
    go_simp
    obtain ⟨y48, hy⟩ : ∃ y, Wd14.alloc (.cells #[.slice none 0 0] 24) = y := ⟨_, rfl⟩
    obtain ⟨bn, hb⟩ : ∃ b, Wd14.heap.size = b := ⟨_, rfl⟩
    rw [hy, hb]
    replace H := H.alloc hy hb rfl
    clear hy hb
    (refine Kr.outL hK (a' := ?_) ?_ (fun _ => (H.sub [] rfl)) ?_; rotate_left; (focus ((try simp only [Kr.PT]); first | done | rfl))); clear hK K
    refine Kr.relistL (l2 := #[true, true, true, true, true, true, true, true, true, false, false, true, true, false, false, false]) (by kernel_rfl) ?_
    exact nd4_25 y48 bn bq p4 n4 c4 p8 n8 c8 H
  case pf4_15 =>
    intro Wd15 bn p4 n4 c4 p8 n8 c8 H
    refine Kr.readyL (rs := [9, 10, 11]) (by kernel_rfl) (by simp) ?_
    refine Kr.AllL.cons rfl (fun K hK => ?_) ?_
    · go_simp
      go_at_call 38
      refine (of3_v m (Nat.lt_trans HM63.out (by decide)) _).mono ?_
      rintro e y49 ⟨p49, n49, c49, rfl, hr, hg⟩
      replace H := H.grow hg
      replace H := H.num hr.toNw
      clear hr hg
      (refine Kr.outL hK (a' := ?_) ?_ (fun _ => (H.sub [] rfl)) ?_; rotate_left; (focus ((try simp only [Kr.PT]); first | done | rfl))); clear hK K
      refine Kr.relistL (l2 := #[true, true, true, true, true, true, true, true, true, true, false, false, true, false, false, false]) (by kernel_rfl) ?_
      exact nd4_22 y49 bn p4 n4 c4 p8 n8 c8 p49 n49 c49 H
    refine Kr.AllL.cons rfl (fun K hK => ?_) ?_
    · go_simp
      obtain ⟨y50, hy⟩ : ∃ y, Wd15.alloc (.cells #[.slice none 0 0] 24) = y := ⟨_, rfl⟩
      obtain ⟨bp, hb⟩ : ∃ b, Wd15.heap.size = b := ⟨_, rfl⟩
      rw [hy, hb]
      replace H := H.alloc hy hb rfl
      clear hy hb
      (refine Kr.outL hK (a' := ?_) ?_ (fun _ => (H.sub [] rfl)) ?_; rotate_left; (focus ((try simp only [Kr.PT]); first | done | rfl))); clear hK K
      refine Kr.relistL (l2 := #[true, true, true, true, true, true, true, true, true, false, true, false, true, false, false, false]) (by kernel_rfl) ?_
      exact nd4_24 y50 bn bp p4 n4 c4 p8 n8 c8 (H.pickC [1, 0] (by decide) rfl)
    refine Kr.AllL.cons rfl (fun K hK => ?_) Kr.AllL.nil
    go_simp
    obtain ⟨y51, hy⟩ : ∃ y, Wd15.alloc (.cells #[.slice none 0 0] 24) = y := ⟨_, rfl⟩
    obtain ⟨bq, hb⟩ : ∃ b, Wd15.heap.size = b := ⟨_, rfl⟩
    rw [hy, hb]
    replace H := H.alloc hy hb rfl
    clear hy hb
    (refine Kr.outL hK (a' := ?_) ?_ (fun _ => (H.sub [] rfl)) ?_; rotate_left; (focus ((try simp only [Kr.PT]); first | done | rfl))); clear hK K
    refine Kr.relistL (l2 := #[true, true, true, true, true, true, true, true, true, false, false, true, true, false, false, false]) (by kernel_rfl) ?_
    exact nd4_25 y51 bn bq p4 n4 c4 p8 n8 c8 (H.pickC [1, 0] (by decide) rfl)
  case pf4_16 =>
    intro Wd16 bq bp p4 n4 c4 H
    refine Kr.readyL (rs := [7, 12]) (by kernel_rfl) (by simp) ?_
    refine Kr.AllL.cons rfl (fun K hK => ?_) ?_
    · go_simp
      go_at_call 38
      refine (of3_v y (Nat.lt_trans HY63.out (by decide)) _).mono ?_
      rintro e y52 ⟨p52, n52, c52, rfl, hr, hg⟩
      replace H := H.grow hg
      replace H := H.num hr.toNw
      clear hr hg
      (refine Kr.outL hK (a' := ?_) ?_ (fun _ => (H.sub [] rfl)) ?_; rotate_left; (focus ((try simp only [Kr.PT]); first | done | rfl))); clear hK K
      refine Kr.relistL (l2 := #[true, true, true, true, true, true, true, true, true, false, true, true, false, false, false, false]) (by kernel_rfl) ?_
      exact nd4_23 y52 bq bp p4 n4 c4 p52 n52 c52 H
    refine Kr.AllL.cons rfl (fun K hK => ?_) Kr.AllL.nil
    go_simp
    obtain ⟨y53, hy⟩ : ∃ y, Wd16.alloc (.cells #[.slice none 0 0] 24) = y := ⟨_, rfl⟩
    obtain ⟨bn, hb⟩ : ∃ b, Wd16.heap.size = b := ⟨_, rfl⟩
    rw [hy, hb]
    replace H := H.alloc hy hb rfl
    clear hy hb
    (refine Kr.outL hK (a' := ?_) ?_ (fun _ => (H.sub [] rfl)) ?_; rotate_left; (focus ((try simp only [Kr.PT]); first | done | rfl))); clear hK K
    refine Kr.relistL (l2 := #[true, true, true, true, true, true, true, false, true, false, true, true, true, false, false, false]) (by kernel_rfl) ?_
    exact nd4_26 y53 bn bq bp p4 n4 c4 H
  case pf4_17 =>
    intro Wd17 bn bp p4 n4 c4 H
    refine Kr.readyL (rs := [7, 11]) (by kernel_rfl) (by simp) ?_
    refine Kr.AllL.cons rfl (fun K hK => ?_) ?_
    · go_simp
      go_at_call 38
      refine (of3_v y (Nat.lt_trans HY63.out (by decide)) _).mono ?_
      rintro e y54 ⟨p54, n54, c54, rfl, hr, hg⟩
      replace H := H.grow hg
      replace H := H.num hr.toNw
      clear hr hg
      (refine Kr.outL hK (a' := ?_) ?_ (fun _ => (H.sub [] rfl)) ?_; rotate_left; (focus ((try simp only [Kr.PT]); first | done | rfl))); clear hK K
      refine Kr.relistL (l2 := #[true, true, true, true, true, true, true, true, true, false, true, false, true, false, false, false]) (by kernel_rfl) ?_
      exact nd4_24 y54 bn bp p4 n4 c4 p54 n54 c54 H
    refine Kr.AllL.cons rfl (fun K hK => ?_) Kr.AllL.nil
    go_simp
    obtain ⟨y55, hy⟩ : ∃ y, Wd17.alloc (.cells #[.slice none 0 0] 24) = y := ⟨_, rfl⟩
    obtain ⟨bq, hb⟩ : ∃ b, Wd17.heap.size = b := ⟨_, rfl⟩
    rw [hy, hb]
    replace H := H.alloc hy hb rfl
    clear hy hb
    (refine Kr.outL hK (a' := ?_) ?_ (fun _ => (H.sub [] rfl)) ?_; rotate_left; (focus ((try simp only [Kr.PT]); first | done | rfl))); clear hK K
    refine Kr.relistL (l2 := #[true, true, true, true, true, true, true, false, true, false, true, true, true, false, false, false]) (by kernel_rfl) ?_
    exact nd4_26 y55 bn bq bp p4 n4 c4 (H.pickC [1, 0, 2] (by decide) rfl)
  case pf4_18 =>
    intro Wd18 bn bq p4 n4 c4 H
    refine Kr.readyL (rs := [7, 10]) (by kernel_rfl) (by simp) ?_
    refine Kr.AllL.cons rfl (fun K hK => ?_) ?_
    · go_simp
      go_at_call 38
      refine (of3_v y (Nat.lt_trans HY63.out (by decide)) _).mono ?_
      rintro e y56 ⟨p56, n56, c56, rfl, hr, hg⟩
      replace H := H.grow hg
      replace H := H.num hr.toNw
      clear hr hg
      (refine Kr.outL hK (a' := ?_) ?_ (fun _ => (H.sub [] rfl)) ?_; rotate_left; (focus ((try simp only [Kr.PT]); first | done | rfl))); clear hK K
      refine Kr.relistL (l2 := #[true, true, true, true, true, true, true, true, true, false, false, true, true, false, false, false]) (by kernel_rfl) ?_
      exact nd4_25 y56 bn bq p4 n4 c4 p56 n56 c56 H
    refine Kr.AllL.cons rfl (fun K hK => ?_) Kr.AllL.nil
    go_simp
    obtain ⟨y57, hy⟩ : ∃ y, Wd18.alloc (.cells #[.slice none 0 0] 24) = y := ⟨_, rfl⟩
    obtain ⟨bp, hb⟩ : ∃ b, Wd18.heap.size = b := ⟨_, rfl⟩
    rw [hy, hb]
    replace H := H.alloc hy hb rfl
    clear hy hb
    (refine Kr.outL hK (a' := ?_) ?_ (fun _ => (H.sub [] rfl)) ?_; rotate_left; (focus ((try simp only [Kr.PT]); first | done | rfl))); clear hK K
    refine Kr.relistL (l2 := #[true, true, true, true, true, true, true, false, true, false, true, true, true, false, false, false]) (by kernel_rfl) ?_
    exact nd4_26 y57 bn bq bp p4 n4 c4 (H.pickC [1, 2, 0] (by decide) rfl)
  case pf4_19 =>
    intro Wd19 bn bq bp H
    refine Kr.readyL (rs := [3]) (by kernel_rfl) (by simp) ?_
    refine Kr.AllL.cons rfl (fun K hK => ?_) Kr.AllL.nil
    go_simp
    go_at_call 38
    refine (of3_v x (Nat.lt_trans HX63.out (by decide)) _).mono ?_
    rintro e y58 ⟨p58, n58, c58, rfl, hr, hg⟩
    replace H := H.grow hg
    replace H := H.num hr.toNw
    clear hr hg
    (refine Kr.outL hK (a' := ?_) ?_ (fun _ => (H.sub [] rfl)) ?_; rotate_left; (focus ((try simp only [Kr.PT]); first | done | rfl))); clear hK K
    refine Kr.relistL (l2 := #[true, true, true, true, true, true, true, false, true, false, true, true, true, false, false, false]) (by kernel_rfl) ?_
    exact nd4_26 y58 bn bq bp p58 n58 c58 H
  case pf4_20 =>
    intro Wd20 bp p4 n4 c4 p8 n8 c8 p21 n21 c21 H
    refine Kr.readyL (rs := [11, 12]) (by kernel_rfl) (by simp) ?_
    refine Kr.AllL.cons rfl (fun K hK => ?_) ?_
    · go_simp
      obtain ⟨y59, hy⟩ : ∃ y, Wd20.alloc (.cells #[.slice none 0 0] 24) = y := ⟨_, rfl⟩
      obtain ⟨bq, hb⟩ : ∃ b, Wd20.heap.size = b := ⟨_, rfl⟩
      rw [hy, hb]
      replace H := H.alloc hy hb rfl
      clear hy hb
      (refine Kr.outL hK (a' := ?_) ?_ (fun _ => (H.sub [] rfl)) ?_; rotate_left; (focus ((try simp only [Kr.PT]); first | done | rfl))); clear hK K
      refine Kr.relistL (l2 := #[true, true, true, true, true, true, true, true, true, true, true, true, false, false, false, false]) (by kernel_rfl) ?_
      exact nd4_27 y59 bq bp p4 n4 c4 p8 n8 c8 p21 n21 c21 H
    refine Kr.AllL.cons rfl (fun K hK => ?_) Kr.AllL.nil
    go_simp
    obtain ⟨y60, hy⟩ : ∃ y, Wd20.alloc (.cells #[.slice none 0 0] 24) = y := ⟨_, rfl⟩
    obtain ⟨bn, hb⟩ : ∃ b, Wd20.heap.size = b := ⟨_, rfl⟩
    rw [hy, hb]
    replace H := H.alloc hy hb rfl
    clear hy hb
    (refine Kr.outL hK (a' := ?_) ?_ (fun _ => (H.sub [] rfl)) ?_; rotate_left; (focus ((try simp only [Kr.PT]); first | done | rfl))); clear hK K
    refine Kr.relistL (l2 := #[true, true, true, true, true, true, true, true, true, true, true, false, true, false, false, false]) (by kernel_rfl) ?_
    exact nd4_28 y60 bn bp p4 n4 c4 p8 n8 c8 p21 n21 c21 H
  case pf4_21 =>
    intro Wd21 bq p4 n4 c4 p8 n8 c8 p21 n21 c21 H
    refine Kr.readyL (rs := [10, 12]) (by kernel_rfl) (by simp) ?_
    refine Kr.AllL.cons rfl (fun K hK => ?_) ?_
    · go_simp
      obtain ⟨y61, hy⟩ : ∃ y, Wd21.alloc (.cells #[.slice none 0 0] 24) = y := ⟨_, rfl⟩
      obtain ⟨bp, hb⟩ : ∃ b, Wd21.heap.size = b := ⟨_, rfl⟩
      rw [hy, hb]
      replace H := H.alloc hy hb rfl
      clear hy hb
      (refine Kr.outL hK (a' := ?_) ?_ (fun _ => (H.sub [] rfl)) ?_; rotate_left; (focus ((try simp only [Kr.PT]); first | done | rfl))); clear hK K
      refine Kr.relistL (l2 := #[true, true, true, true, true, true, true, true, true, true, true, true, false, false, false, false]) (by kernel_rfl) ?_
      exact nd4_27 y61 bq bp p4 n4 c4 p8 n8 c8 p21 n21 c21 (H.pickC [1, 0] (by decide) rfl)
    refine Kr.AllL.cons rfl (fun K hK => ?_) Kr.AllL.nil
    go_simp
    obtain ⟨y62, hy⟩ : ∃ y, Wd21.alloc (.cells #[.slice none 0 0] 24) = y := ⟨_, rfl⟩
    obtain ⟨bn, hb⟩ : ∃ b, Wd21.heap.size = b := ⟨_, rfl⟩
    rw [hy, hb]
    replace H := H.alloc hy hb rfl
    clear hy hb
    (refine Kr.outL hK (a' := ?_) ?_ (fun _ => (H.sub [] rfl)) ?_; rotate_left; (focus ((try simp only [Kr.PT]); first | done | rfl))); clear hK K
    refine Kr.relistL (l2 := #[true, true, true, true, true, true, true, true, true, true, false, true, true, false, false, false]) (by kernel_rfl) ?_
    exact nd4_29 y62 bn bq p4 n4 c4 p8 n8 c8 p21 n21 c21 H
  case pf4_22 =>
    intro Wd22 bn p4 n4 c4 p8 n8 c8 p21 n21 c21 H
    refine Kr.readyL (rs := [10, 11]) (by kernel_rfl) (by simp) ?_
    refine Kr.AllL.cons rfl (fun K hK => ?_) ?_
    · go_simp
      obtain ⟨y63, hy⟩ : ∃ y, Wd22.alloc (.cells #[.slice none 0 0] 24) = y := ⟨_, rfl⟩
      obtain ⟨bp, hb⟩ : ∃ b, Wd22.heap.size = b := ⟨_, rfl⟩
      rw [hy, hb]
      replace H := H.alloc hy hb rfl
      clear hy hb
      (refine Kr.outL hK (a' := ?_) ?_ (fun _ => (H.sub [] rfl)) ?_; rotate_left; (focus ((try simp only [Kr.PT]); first | done | rfl))); clear hK K
      refine Kr.relistL (l2 := #[true, true, true, true, true, true, true, true, true, true, true, false, true, false, false, false]) (by kernel_rfl) ?_
      exact nd4_28 y63 bn bp p4 n4 c4 p8 n8 c8 p21 n21 c21 (H.pickC [1, 0] (by decide) rfl)
    refine Kr.AllL.cons rfl (fun K hK => ?_) Kr.AllL.nil
    go_simp
    obtain ⟨y64, hy⟩ : ∃ y, Wd22.alloc (.cells #[.slice none 0 0] 24) = y := ⟨_, rfl⟩
    obtain ⟨bq, hb⟩ : ∃ b, Wd22.heap.size = b := ⟨_, rfl⟩
    rw [hy, hb]
    replace H := H.alloc hy hb rfl
    clear hy hb
    (refine Kr.outL hK (a' := ?_) ?_ (fun _ => (H.sub [] rfl)) ?_; rotate_left; (focus ((try simp only [Kr.PT]); first | done | rfl))); clear hK K
    refine Kr.relistL (l2 := #[true, true, true, true, true, true, true, true, true, true, false, true, true, false, false, false]) (by kernel_rfl) ?_
    exact nd4_29 y64 bn bq p4 n4 c4 p8 n8 c8 p21 n21 c21 (H.pickC [1, 0] (by decide) rfl)
  case pf4_23 =>
    intro Wd23 bq bp p4 n4 c4 p8 n8 c8 H
    refine Kr.readyL (rs := [9, 12]) (by kernel_rfl) (by simp) ?_
    refine Kr.AllL.cons rfl (fun K hK => ?_) ?_
    · go_simp
      go_at_call 38
      refine (of3_v m (Nat.lt_trans HM63.out (by decide)) _).mono ?_
      rintro e y65 ⟨p65, n65, c65, rfl, hr, hg⟩
      replace H := H.grow hg
      replace H := H.num hr.toNw
      clear hr hg
      (refine Kr.outL hK (a' := ?_) ?_ (fun _ => (H.sub [] rfl)) ?_; rotate_left; (focus ((try simp only [Kr.PT]); first | done | rfl))); clear hK K
      refine Kr.relistL (l2 := #[true, true, true, true, true, true, true, true, true, true, true, true, false, false, false, false]) (by kernel_rfl) ?_
      exact nd4_27 y65 bq bp p4 n4 c4 p8 n8 c8 p65 n65 c65 H
    refine Kr.AllL.cons rfl (fun K hK => ?_) Kr.AllL.nil
    go_simp
    obtain ⟨y66, hy⟩ : ∃ y, Wd23.alloc (.cells #[.slice none 0 0] 24) = y := ⟨_, rfl⟩
    obtain ⟨bn, hb⟩ : ∃ b, Wd23.heap.size = b := ⟨_, rfl⟩
    rw [hy, hb]
    replace H := H.alloc hy hb rfl
    clear hy hb
    (refine Kr.outL hK (a' := ?_) ?_ (fun _ => (H.sub [] rfl)) ?_; rotate_left; (focus ((try simp only [Kr.PT]); first | done | rfl))); clear hK K
    refine Kr.relistL (l2 := #[true, true, true, true, true, true, true, true, true, false, true, true, true, false, false, false]) (by kernel_rfl) ?_
    exact nd4_30 y66 bn bq bp p4 n4 c4 p8 n8 c8 H
  case pf4_24 =>
    intro Wd24 bn bp p4 n4 c4 p8 n8 c8 H
    refine Kr.readyL (rs := [9, 11]) (by kernel_rfl) (by simp) ?_
    refine Kr.AllL.cons rfl (fun K hK => ?_) ?_
    · go_simp
      go_at_call 38
      refine (of3_v m (Nat.lt_trans HM63.out (by decide)) _).mono ?_
      rintro e y67 ⟨p67, n67, c67, rfl, hr, hg⟩
      replace H := H.grow hg
      replace H := H.num hr.toNw
      clear hr hg
      (refine Kr.outL hK (a' := ?_) ?_ (fun _ => (H.sub [] rfl)) ?_; rotate_left; (focus ((try simp only [Kr.PT]); first | done | rfl))); clear hK K
      refine Kr.relistL (l2 := #[true, true, true, true, true, true, true, true, true, true, true, false, true, false, false, false]) (by kernel_rfl) ?_
      exact nd4_28 y67 bn bp p4 n4 c4 p8 n8 c8 p67 n67 c67 H
    refine Kr.AllL.cons rfl (fun K hK => ?_) Kr.AllL.nil
    go_simp
    obtain ⟨y68, hy⟩ : ∃ y, Wd24.alloc (.cells #[.slice none 0 0] 24) = y := ⟨_, rfl⟩
    obtain ⟨bq, hb⟩ : ∃ b, Wd24.heap.size = b := ⟨_, rfl⟩
    rw [hy, hb]
    replace H := H.alloc hy hb rfl
    clear hy hb
    (refine Kr.outL hK (a' := ?_) ?_ (fun _ => (H.sub [] rfl)) ?_; rotate_left; (focus ((try simp only [Kr.PT]); first | done | rfl))); clear hK K
    refine Kr.relistL (l2 := #[true, true, true, true, true, true, true, true, true, false, true, true, true, false, false, false]) (by kernel_rfl) ?_
    exact nd4_30 y68 bn bq bp p4 n4 c4 p8 n8 c8 (H.pickC [1, 0, 2] (by decide) rfl)
  case pf4_25 =>
    intro Wd25 bn bq p4 n4 c4 p8 n8 c8 H
    refine Kr.readyL (rs := [9, 10]) (by kernel_rfl) (by simp) ?_
    refine Kr.AllL.cons rfl (fun K hK => ?_) ?_
    · go_simp
      go_at_call 38
      refine (of3_v m (Nat.lt_trans HM63.out (by decide)) _).mono ?_
      rintro e y69 ⟨p69, n69, c69, rfl, hr, hg⟩
      replace H := H.grow hg
      replace H := H.num hr.toNw
      clear hr hg
      (refine Kr.outL hK (a' := ?_) ?_ (fun _ => (H.sub [] rfl)) ?_; rotate_left; (focus ((try simp only [Kr.PT]); first | done | rfl))); clear hK K
      refine Kr.relistL (l2 := #[true, true, true, true, true, true, true, true, true, true, false, true, true, false, false, false]) (by kernel_rfl) ?_
      exact nd4_29 y69 bn bq p4 n4 c4 p8 n8 c8 p69 n69 c69 H
    refine Kr.AllL.cons rfl (fun K hK => ?_) Kr.AllL.nil
    go_simp
    obtain ⟨y70, hy⟩ : ∃ y, Wd25.alloc (.cells #[.slice none 0 0] 24) = y := ⟨_, rfl⟩
    obtain ⟨bp, hb⟩ : ∃ b, Wd25.heap.size = b := ⟨_, rfl⟩
    rw [hy, hb]
    replace H := H.alloc hy hb rfl
    clear hy hb
    (refine Kr.outL hK (a' := ?_) ?_ (fun _ => (H.sub [] rfl)) ?_; rotate_left; (focus ((try simp only [Kr.PT]); first | done | rfl))); clear hK K
    refine Kr.relistL (l2 := #[true, true, true, true, true, true, true, true, true, false, true, true, true, false, false, false]) (by kernel_rfl) ?_
    exact nd4_30 y70 bn bq bp p4 n4 c4 p8 n8 c8 (H.pickC [1, 2, 0] (by decide) rfl)
  case pf4_26 =>
    intro Wd26 bn bq bp p4 n4 c4 H
    refine Kr.readyL (rs := [7]) (by kernel_rfl) (by simp) ?_
    refine Kr.AllL.cons rfl (fun K hK => ?_) Kr.AllL.nil
    go_simp
    go_at_call 38
    refine (of3_v y (Nat.lt_trans HY63.out (by decide)) _).mono ?_
    rintro e y71 ⟨p71, n71, c71, rfl, hr, hg⟩
    replace H := H.grow hg
    replace H := H.num hr.toNw
    clear hr hg
    (refine Kr.outL hK (a' := ?_) ?_ (fun _ => (H.sub [] rfl)) ?_; rotate_left; (focus ((try simp only [Kr.PT]); first | done | rfl))); clear hK K
    refine Kr.relistL (l2 := #[true, true, true, true, true, true, true, true, true, false, true, true, true, false, false, false]) (by kernel_rfl) ?_
    exact nd4_30 y71 bn bq bp p4 n4 c4 p71 n71 c71 H
  case pf4_27 =>
    intro Wd27 bq bp p4 n4 c4 p8 n8 c8 p21 n21 c21 H
    refine Kr.readyL (rs := [12]) (by kernel_rfl) (by simp) ?_
    refine Kr.AllL.cons rfl (fun K hK => ?_) Kr.AllL.nil
    go_simp
    obtain ⟨y72, hy⟩ : ∃ y, Wd27.alloc (.cells #[.slice none 0 0] 24) = y := ⟨_, rfl⟩
    obtain ⟨bn, hb⟩ : ∃ b, Wd27.heap.size = b := ⟨_, rfl⟩
    rw [hy, hb]
    replace H := H.alloc hy hb rfl
    clear hy hb
    (refine Kr.outL hK (a' := ?_) ?_ (fun _ => (H.sub [] rfl)) ?_; rotate_left; (focus ((try simp only [Kr.PT]); first | done | rfl))); clear hK K
    refine Kr.relistL (l2 := #[true, true, true, true, true, true, true, true, true, true, true, true, true, false, false, false]) (by kernel_rfl) ?_
    exact nd4_31 y72 bn bq bp p4 n4 c4 p8 n8 c8 p21 n21 c21 H
  case pf4_28 =>
    intro Wd28 bn bp p4 n4 c4 p8 n8 c8 p21 n21 c21 H
    refine Kr.readyL (rs := [11]) (by kernel_rfl) (by simp) ?_
    refine Kr.AllL.cons rfl (fun K hK => ?_) Kr.AllL.nil
    go_simp
    obtain ⟨y73, hy⟩ : ∃ y, Wd28.alloc (.cells #[.slice none 0 0] 24) = y := ⟨_, rfl⟩
    obtain ⟨bq, hb⟩ : ∃ b, Wd28.heap.size = b := ⟨_, rfl⟩
    rw [hy, hb]
    replace H := H.alloc hy hb rfl
    clear hy hb
    (refine Kr.outL hK (a' := ?_) ?_ (fun _ => (H.sub [] rfl)) ?_; rotate_left; (focus ((try simp only [Kr.PT]); first | done | rfl))); clear hK K
    refine Kr.relistL (l2 := #[true, true, true, true, true, true, true, true, true, true, true, true, true, false, false, false]) (by kernel_rfl) ?_
    exact nd4_31 y73 bn bq bp p4 n4 c4 p8 n8 c8 p21 n21 c21 (H.pickC [1, 0, 2] (by decide) rfl)
  case pf4_29 =>
    intro Wd29 bn bq p4 n4 c4 p8 n8 c8 p21 n21 c21 H
    refine Kr.readyL (rs := [10]) (by kernel_rfl) (by simp) ?_
    refine Kr.AllL.cons rfl (fun K hK => ?_) Kr.AllL.nil
    go_simp
    obtain ⟨y74, hy⟩ : ∃ y, Wd29.alloc (.cells #[.slice none 0 0] 24) = y := ⟨_, rfl⟩
    obtain ⟨bp, hb⟩ : ∃ b, Wd29.heap.size = b := ⟨_, rfl⟩
    rw [hy, hb]
    replace H := H.alloc hy hb rfl
    clear hy hb
    (refine Kr.outL hK (a' := ?_) ?_ (fun _ => (H.sub [] rfl)) ?_; rotate_left; (focus ((try simp only [Kr.PT]); first | done | rfl))); clear hK K
    refine Kr.relistL (l2 := #[true, true, true, true, true, true, true, true, true, true, true, true, true, false, false, false]) (by kernel_rfl) ?_
    exact nd4_31 y74 bn bq bp p4 n4 c4 p8 n8 c8 p21 n21 c21 (H.pickC [1, 2, 0] (by decide) rfl)
  case pf4_30 =>
    intro Wd30 bn bq bp p4 n4 c4 p8 n8 c8 H
    refine Kr.readyL (rs := [9]) (by kernel_rfl) (by simp) ?_
    refine Kr.AllL.cons rfl (fun K hK => ?_) Kr.AllL.nil
    go_simp
    go_at_call 38
    refine (of3_v m (Nat.lt_trans HM63.out (by decide)) _).mono ?_
    rintro e y75 ⟨p75, n75, c75, rfl, hr, hg⟩
    replace H := H.grow hg
    replace H := H.num hr.toNw
    clear hr hg
    (refine Kr.outL hK (a' := ?_) ?_ (fun _ => (H.sub [] rfl)) ?_; rotate_left; (focus ((try simp only [Kr.PT]); first | done | rfl))); clear hK K
    refine Kr.relistL (l2 := #[true, true, true, true, true, true, true, true, true, true, true, true, true, false, false, false]) (by kernel_rfl) ?_
    exact nd4_31 y75 bn bq bp p4 n4 c4 p8 n8 c8 p75 n75 c75 H
  case pf4_31 =>
    intro Wd31 bn bq bp p4 n4 c4 p8 n8 c8 p21 n21 c21 H
    refine Kr.readyL (rs := [13]) (by kernel_rfl) (by simp) ?_
    refine Kr.AllL.cons rfl (fun K hK => ?_) Kr.AllL.nil
    have hk := H.c
    simp only [Kr.Cells] at hk
    go_simp
    clear hk
    obtain ⟨y76, hy⟩ : ∃ y, Wd31.setCell ⟨bp, 0, none⟩ (.slice p4 n4 c4) = y := ⟨_, rfl⟩
    rw [hy]
    replace H := H.store 2 hy rfl rfl
    dsimp only [List.set] at H
    clear hy
    (refine Kr.outL hK (a' := ?_) ?_ (fun _ => (H.sub [] rfl)) ?_; rotate_left; (focus ((try simp only [Kr.PT]); first | done | rfl))); clear hK K
    refine Kr.relistL (l2 := #[true, true, true, true, true, true, true, true, true, true, true, true, true, true, false, false]) (by kernel_rfl) ?_
    exact nd4_32 y76 bn bq bp p4 n4 c4 p8 n8 c8 p21 n21 c21 H
  case pf4_32 =>
    intro Wd32 bn bq bp p4 n4 c4 p8 n8 c8 p21 n21 c21 H
    refine Kr.readyL (rs := [14]) (by kernel_rfl) (by simp) ?_
    refine Kr.AllL.cons rfl (fun K hK => ?_) Kr.AllL.nil
    have hk := H.c
    simp only [Kr.Cells] at hk
    go_simp
    clear hk
    obtain ⟨y77, hy⟩ : ∃ y, Wd32.setCell ⟨bq, 0, none⟩ (.slice p8 n8 c8) = y := ⟨_, rfl⟩
    rw [hy]
    replace H := H.store 1 hy rfl rfl
    dsimp only [List.set] at H
    clear hy
    (refine Kr.outL hK (a' := ?_) ?_ (fun _ => (H.sub [] rfl)) ?_; rotate_left; (focus ((try simp only [Kr.PT]); first | done | rfl))); clear hK K
    refine Kr.relistL (l2 := #[true, true, true, true, true, true, true, true, true, true, true, true, true, true, true, false]) (by kernel_rfl) ?_
    exact nd4_33 y77 bn bq bp p4 n4 c4 p8 n8 c8 p21 n21 c21 H
  case pf4_33 =>
    intro Wd33 bn bq bp p4 n4 c4 p8 n8 c8 p21 n21 c21 H
    refine Kr.readyL (rs := [15]) (by kernel_rfl) (by simp) ?_
    refine Kr.AllL.cons rfl (fun K hK => ?_) Kr.AllL.nil
    have hk := H.c
    simp only [Kr.Cells] at hk
    go_simp
    clear hk
    obtain ⟨y78, hy⟩ : ∃ y, Wd33.setCell ⟨bn, 0, none⟩ (.slice p21 n21 c21) = y := ⟨_, rfl⟩
    rw [hy]
    replace H := H.store 0 hy rfl rfl
    dsimp only [List.set] at H
    clear hy
    (refine Kr.outL hK (a' := ?_) ?_ (fun _ => (H.sub [] rfl)) ?_; rotate_left; (focus ((try simp only [Kr.PT]); first | done | rfl))); clear hK K
    refine Kr.relistL (l2 := #[true, true, true, true, true, true, true, true, true, true, true, true, true, true, true, true]) (by kernel_rfl) ?_
    exact nd4_34 y78 bn bq bp p4 n4 c4 p8 n8 c8 p21 n21 c21 H
  case pf4_34 =>
    intro Wd34 bn bq bp p4 n4 c4 p8 n8 c8 p21 n21 c21 H
    refine Kr.doneL (by kernel_rfl) ?_ _
    go_upto_region 5 with fail
    refine Kr.seqStartW ?_
    (refine Kr.seqQ (v := ?_) (a' := ?_) (by rfl) ?_ ?_ ?_; rotate_left 2; (focus (go_simp; first | done | rfl)); (focus ((try simp only [Kr.PT]); first | done | rfl)))
    refine Kr.seqDoneW ?_
    go_upto_region 6 with fail
    refine Kr.seqStartW ?_
    iterate 3 (refine Kr.seqQ (v := ?_) (a' := ?_) (by rfl) ?_ ?_ ?_; rotate_left 2; (focus (go_simp; first | done | rfl)); (focus ((try simp only [Kr.PT]); first | done | rfl)))
    refine Kr.seqR (by rfl) (fun K hK => ?_)
    go_simp
    go_at_call 50
    refine (Ww.Add_ok x y m HX.out HY.out M61.out _).mono ?_
    rintro e wz ⟨rfl, rfl⟩
    (refine Kr.outS hK (a' := ?_) ?_ ?_; rotate_left; (focus ((try simp only [Kr.PT]); first | done | rfl))); clear hK K
    iterate 5 (refine Kr.seqQ (v := ?_) (a' := ?_) (by rfl) ?_ ?_ ?_; rotate_left 2; (focus (go_simp; first | done | rfl)); (focus ((try simp only [Kr.PT]); first | done | rfl)))
    refine Kr.seqDoneW ?_
    obtain ⟨z2, hz2⟩ : ∃ z2, (x + y) % m = z2 := ⟨_, rfl⟩
    have HZ2 := Lib.hid hz2; have HZ2L : Hid (z2 < 9223372036854775808) := Lib.hid (Nat.lt_trans (hz2 ▸ Nat.mod_lt _ M0.out) HM63.out)
    try rw [hz2]
    try rw [show ((x : Int) + (y : Int)) % (m : Int) = (z2 : Int) by rw [← hz2]; simp]
    clear hz2
    go_upto_region 7 with fail
    refine Kr.seqStartW ?_
    have hk := H.c
    simp only [Kr.Cells] at hk
    iterate 3 (refine Kr.seqQ (v := ?_) (a' := ?_) (by rfl) ?_ ?_ ?_; rotate_left 2; (focus (go_simp; first | done | rfl)); (focus ((try simp only [Kr.PT]); first | done | rfl)))
    refine Kr.seqR (by rfl) (fun K hK => ?_)
    go_simp
    go_at_call 20
    have hA := mAdd_v (H.nw 2 rfl) (H.nw 1 rfl) (H.nw 0 rfl) HX.out HY.out VM.out
    rw [HZ2.out] at hA
    refine (hA).mono ?_
    rintro e y79 ⟨p79, n79, c79, rfl, hr, hg⟩
    clear hk
    replace H := H.grow hg
    replace H := H.num hr.toNw
    clear hr hg
    clear hA
    (refine Kr.outS hK (a' := ?_) ?_ ?_; rotate_left; (focus ((try simp only [Kr.PT]); first | done | rfl))); clear hK K
    iterate 3 (refine Kr.seqQ (v := ?_) (a' := ?_) (by rfl) ?_ ?_ ?_; rotate_left 2; (focus (go_simp; first | done | rfl)); (focus ((try simp only [Kr.PT]); first | done | rfl)))
    refine Kr.seqR (by rfl) (fun K hK => ?_)
    go_simp
    obtain ⟨y80, hy⟩ : ∃ y, y79.alloc (.cells #[.slice none 0 0] 24) = y := ⟨_, rfl⟩
    obtain ⟨bs, hb⟩ : ∃ b, y79.heap.size = b := ⟨_, rfl⟩
    rw [hy, hb]
    replace H := H.alloc hy hb rfl
    clear hy hb
    (refine Kr.outS hK (a' := ?_) ?_ ?_; rotate_left; (focus ((try simp only [Kr.PT]); first | done | rfl))); clear hK K
    have hk := H.c
    simp only [Kr.Cells] at hk
    refine Kr.seqR (by rfl) (fun K hK => ?_)
    go_simp
    clear hk
    obtain ⟨y81, hy⟩ : ∃ y, y80.setCell ⟨bs, 0, none⟩ (.slice p79 n79 c79) = y := ⟨_, rfl⟩
    rw [hy]
    replace H := H.store 0 hy rfl rfl
    dsimp only [List.set] at H
    clear hy
    (refine Kr.outS hK (a' := ?_) ?_ ?_; rotate_left; (focus ((try simp only [Kr.PT]); first | done | rfl))); clear hK K
    (refine Kr.seqQ (v := ?_) (a' := ?_) (by rfl) ?_ ?_ ?_; rotate_left 2; (focus (go_simp; first | done | rfl)); (focus ((try simp only [Kr.PT]); first | done | rfl)))
    refine Kr.seqDoneW ?_
    go_upto_region 8 with fail
    refine Kr.seqStartW ?_
    iterate 3 (refine Kr.seqQ (v := ?_) (a' := ?_) (by rfl) ?_ ?_ ?_; rotate_left 2; (focus (go_simp; first | done | rfl)); (focus ((try simp only [Kr.PT]); first | done | rfl)))
    refine Kr.seqR (by rfl) (fun K hK => ?_)
    go_simp
    go_at_call 51
    refine (Ww.Mul_ok x y m HX.out HY.out M61.out _).mono ?_
    rintro e wz ⟨rfl, nz, rfl⟩
    have hg : Gr y81 (y81.drewN nz) := (Gr.refl _).drewN _
    generalize y81.drewN nz = y82 at hg ⊢
    replace H := H.grow hg
    clear hg
    (refine Kr.outS hK (a' := ?_) ?_ ?_; rotate_left; (focus ((try simp only [Kr.PT]); first | done | rfl))); clear hK K
    iterate 5 (refine Kr.seqQ (v := ?_) (a' := ?_) (by rfl) ?_ ?_ ?_; rotate_left 2; (focus (go_simp; first | done | rfl)); (focus ((try simp only [Kr.PT]); first | done | rfl)))
    refine Kr.seqDoneW ?_
    obtain ⟨z3, hz3⟩ : ∃ z3, x * y % m = z3 := ⟨_, rfl⟩
    have HZ3 := Lib.hid hz3; have HZ3L : Hid (z3 < 9223372036854775808) := Lib.hid (Nat.lt_trans (hz3 ▸ Nat.mod_lt _ M0.out) HM63.out)
    try rw [hz3]
    try rw [show (x : Int) * (y : Int) % (m : Int) = (z3 : Int) by rw [← hz3]; simp]
    clear hz3
    go_upto_region 9 with fail
    refine Kr.seqStartW ?_
    have hk := H.c
    simp only [Kr.Cells] at hk
    iterate 3 (refine Kr.seqQ (v := ?_) (a' := ?_) (by rfl) ?_ ?_ ?_; rotate_left 2; (focus (go_simp; first | done | rfl)); (focus ((try simp only [Kr.PT]); first | done | rfl)))
    refine Kr.seqR (by rfl) (fun K hK => ?_)
    go_simp
    go_at_call 26
    have hA := mMul_v (H.nw 3 rfl) (H.nw 2 rfl) (H.nw 1 rfl) HX.out HY.out VM.out
    rw [HZ3.out] at hA
    refine (hA).mono ?_
    rintro e y83 ⟨p83, n83, c83, rfl, hr, hg⟩
    clear hk
    replace H := H.grow hg
    replace H := H.num hr.toNw
    clear hr hg
    clear hA
    (refine Kr.outS hK (a' := ?_) ?_ ?_; rotate_left; (focus ((try simp only [Kr.PT]); first | done | rfl))); clear hK K
    iterate 3 (refine Kr.seqQ (v := ?_) (a' := ?_) (by rfl) ?_ ?_ ?_; rotate_left 2; (focus (go_simp; first | done | rfl)); (focus ((try simp only [Kr.PT]); first | done | rfl)))
    refine Kr.seqR (by rfl) (fun K hK => ?_)
    go_simp
    obtain ⟨y84, hy⟩ : ∃ y, y83.alloc (.cells #[.slice none 0 0] 24) = y := ⟨_, rfl⟩
    obtain ⟨bt, hb⟩ : ∃ b, y83.heap.size = b := ⟨_, rfl⟩
    rw [hy, hb]
    replace H := H.alloc hy hb rfl
    clear hy hb
    (refine Kr.outS hK (a' := ?_) ?_ ?_; rotate_left; (focus ((try simp only [Kr.PT]); first | done | rfl))); clear hK K
    have hk := H.c
    simp only [Kr.Cells] at hk
    refine Kr.seqR (by rfl) (fun K hK => ?_)
    go_simp
    clear hk
    obtain ⟨y85, hy⟩ : ∃ y, y84.setCell ⟨bt, 0, none⟩ (.slice p83 n83 c83) = y := ⟨_, rfl⟩
    rw [hy]
    replace H := H.store 0 hy rfl rfl
    dsimp only [List.set] at H
    clear hy
    (refine Kr.outS hK (a' := ?_) ?_ ?_; rotate_left; (focus ((try simp only [Kr.PT]); first | done | rfl))); clear hK K
    (refine Kr.seqQ (v := ?_) (a' := ?_) (by rfl) ?_ ?_ ?_; rotate_left 2; (focus (go_simp; first | done | rfl)); (focus ((try simp only [Kr.PT]); first | done | rfl)))
    refine Kr.seqDoneW ?_
    go_upto_region 10 with fail
    refine Kr.seqStartW ?_
    iterate 2 (refine Kr.seqQ (v := ?_) (a' := ?_) (by rfl) ?_ ?_ ?_; rotate_left 2; (focus (go_simp; first | done | rfl)); (focus ((try simp only [Kr.PT]); first | done | rfl)))
    refine Kr.seqR (by rfl) (fun K hK => ?_)
    go_simp
    go_at_call 52
    refine (Ww.Inverse_ok x m HX.out M61.out HG1.out _).mono ?_
    rintro e wz ⟨z, hz1, hz2, rfl, nz, rfl⟩
    have HI : Hid (IsInv x m z) := Lib.hid ⟨hz1, hz2⟩
    clear hz1 hz2
    have hg : Gr y85 (y85.drewN nz) := (Gr.refl _).drewN _
    generalize y85.drewN nz = y86 at hg ⊢
    replace H := H.grow hg
    clear hg
    (refine Kr.outS hK (a' := ?_) ?_ ?_; rotate_left; (focus ((try simp only [Kr.PT]); first | done | rfl))); clear hK K
    iterate 5 (refine Kr.seqQ (v := ?_) (a' := ?_) (by rfl) ?_ ?_ ?_; rotate_left 2; (focus (go_simp; first | done | rfl)); (focus ((try simp only [Kr.PT]); first | done | rfl)))
    refine Kr.seqDoneW ?_
    have HZ1L : Hid (z < 9223372036854775808) := Lib.hid (Nat.lt_trans HI.out.1 HM63.out)
    go_upto_region 11 with fail
    refine Kr.seqStartW ?_
    have hk := H.c
    simp only [Kr.Cells] at hk
    iterate 2 (refine Kr.seqQ (v := ?_) (a' := ?_) (by rfl) ?_ ?_ ?_; rotate_left 2; (focus (go_simp; first | done | rfl)); (focus ((try simp only [Kr.PT]); first | done | rfl)))
    refine Kr.seqR (by rfl) (fun K hK => ?_)
    go_simp
    go_at_call 32
    refine (mInverse_ok (H.nw 4 rfl) (H.nw 2 rfl) HX.out VM.out HG1.out (chk_ok (H.nw 4 rfl) (H.nw 2 rfl) (nw_none _) (H.nw 2 rfl) HX.out M0.out VM.out VM.out)).mono ?_
    rintro e y87 ⟨z1, hI, pi, ni, ci, rfl, hr, hg⟩
    obtain rfl := inv_unique HI.out hI
    clear hk
    replace H := H.grow hg
    replace H := H.num hr
    clear hr hg hI
    (refine Kr.outS hK (a' := ?_) ?_ ?_; rotate_left; (focus ((try simp only [Kr.PT]); first | done | rfl))); clear hK K
    iterate 3 (refine Kr.seqQ (v := ?_) (a' := ?_) (by rfl) ?_ ?_ ?_; rotate_left 2; (focus (go_simp; first | done | rfl)); (focus ((try simp only [Kr.PT]); first | done | rfl)))
    refine Kr.seqR (by rfl) (fun K hK => ?_)
    go_simp
    obtain ⟨y88, hy⟩ : ∃ y, y87.alloc (.cells #[.slice none 0 0] 24) = y := ⟨_, rfl⟩
    obtain ⟨bu, hb⟩ : ∃ b, y87.heap.size = b := ⟨_, rfl⟩
    rw [hy, hb]
    replace H := H.alloc hy hb rfl
    clear hy hb
    (refine Kr.outS hK (a' := ?_) ?_ ?_; rotate_left; (focus ((try simp only [Kr.PT]); first | done | rfl))); clear hK K
    have hk := H.c
    simp only [Kr.Cells] at hk
    refine Kr.seqR (by rfl) (fun K hK => ?_)
    go_simp
    clear hk
    obtain ⟨y89, hy⟩ : ∃ y, y88.setCell ⟨bu, 0, none⟩ (.slice pi ni ci) = y := ⟨_, rfl⟩
    rw [hy]
    replace H := H.store 0 hy rfl rfl
    dsimp only [List.set] at H
    clear hy
    (refine Kr.outS hK (a' := ?_) ?_ ?_; rotate_left; (focus ((try simp only [Kr.PT]); first | done | rfl))); clear hK K
    (refine Kr.seqQ (v := ?_) (a' := ?_) (by rfl) ?_ ?_ ?_; rotate_left 2; (focus (go_simp; first | done | rfl)); (focus ((try simp only [Kr.PT]); first | done | rfl)))
    refine Kr.seqDoneW ?_
    go_upto_region 12 with fail
    refine Kr.seqStartW ?_
    iterate 3 (refine Kr.seqQ (v := ?_) (a' := ?_) (by rfl) ?_ ?_ ?_; rotate_left 2; (focus (go_simp; first | done | rfl)); (focus ((try simp only [Kr.PT]); first | done | rfl)))
    have hk := H.c
    simp only [Kr.Cells] at hk
    iterate 2 (refine Kr.seqQ (v := ?_) (a' := ?_) (by rfl) ?_ ?_ ?_; rotate_left 2; (focus (go_simp; first | done | rfl)); (focus ((try simp only [Kr.PT]); first | done | rfl)))
    refine Kr.seqR (by rfl) (fun K hK => ?_)
    go_simp
    go_at_call 49
    refine (weq_ok (H.nw 2 rfl) HZ2L.out).mono ?_
    rintro e y90 ⟨rfl, hg⟩
    clear hk
    replace H := H.grow hg
    clear hg
    (refine Kr.outS hK (a' := ?_) ?_ ?_; rotate_left; (focus ((try simp only [Kr.PT]); first | done | rfl))); clear hK K
    iterate 4 (refine Kr.seqQ (v := ?_) (a' := ?_) (by rfl) ?_ ?_ ?_; rotate_left 2; (focus (go_simp; first | done | rfl)); (focus ((try simp only [Kr.PT]); first | done | rfl)))
    have hk := H.c
    simp only [Kr.Cells] at hk
    iterate 2 (refine Kr.seqQ (v := ?_) (a' := ?_) (by rfl) ?_ ?_ ?_; rotate_left 2; (focus (go_simp; first | done | rfl)); (focus ((try simp only [Kr.PT]); first | done | rfl)))
    refine Kr.seqR (by rfl) (fun K hK => ?_)
    go_simp
    go_at_call 49
    refine (weq_ok (H.nw 1 rfl) HZ3L.out).mono ?_
    rintro e y91 ⟨rfl, hg⟩
    clear hk
    replace H := H.grow hg
    clear hg
    (refine Kr.outS hK (a' := ?_) ?_ ?_; rotate_left; (focus ((try simp only [Kr.PT]); first | done | rfl))); clear hK K
    iterate 5 (refine Kr.seqQ (v := ?_) (a' := ?_) (by rfl) ?_ ?_ ?_; rotate_left 2; (focus (go_simp; first | done | rfl)); (focus ((try simp only [Kr.PT]); first | done | rfl)))
    have hk := H.c
    simp only [Kr.Cells] at hk
    iterate 2 (refine Kr.seqQ (v := ?_) (a' := ?_) (by rfl) ?_ ?_ ?_; rotate_left 2; (focus (go_simp; first | done | rfl)); (focus ((try simp only [Kr.PT]); first | done | rfl)))
    refine Kr.seqR (by rfl) (fun K hK => ?_)
    go_simp
    go_at_call 49
    refine (weq_ok (H.nw 0 rfl) HZ1L.out).mono ?_
    rintro e y92 ⟨rfl, hg⟩
    clear hk
    replace H := H.grow hg
    clear hg
    (refine Kr.outS hK (a' := ?_) ?_ ?_; rotate_left; (focus ((try simp only [Kr.PT]); first | done | rfl))); clear hK K
    iterate 2 (refine Kr.seqQ (v := ?_) (a' := ?_) (by rfl) ?_ ?_ ?_; rotate_left 2; (focus (go_simp; first | done | rfl)); (focus ((try simp only [Kr.PT]); first | done | rfl)))
    refine Kr.seqDoneW ?_
    go_wp2
    go_ret
    exact ⟨rfl, H.g⟩
set_option linter.unusedSimpArgs false in
set_option maxRecDepth 100000 in
set_option maxHeartbeats 16000000 in
theorem word_no {a b m : Nat} {w : World} (h0 : 0 < m) (h1 : m < 2305843009213693952) (hg : Nat.gcd (a % m) m ≠ 1) :
    Calls Try.prog 11 #[.int .u64 (a : Int), .int .u64 (b : Int), .int .u64 (m : Int)] w fun e w' => e = .returned (.bool true) ∧ Gr w w' := by
  have HL1 : Hid (decide (m < 1) = false) := Lib.hid (decide_eq_false (by omega))
  have HL2 : Hid (decide (2305843009213693952 ≤ m) = false) := Lib.hid (decide_eq_false (by omega))
  have M0 : Hid (0 < m) := Lib.hid h0; have M61 : Hid (m < 2305843009213693952) := Lib.hid h1; have VM : Hid (m < pw 32) := Lib.hid (Nat.lt_of_lt_of_le (Nat.lt_trans h1 (show 2305843009213693952 < pw 2 from by decide)) (pw_mono (by decide)))
  obtain ⟨x, hx⟩ : ∃ x, a % m = x := ⟨_, rfl⟩
  obtain ⟨y, hy⟩ : ∃ y, b % m = y := ⟨_, rfl⟩
  have HXE := Lib.hid hx; have HYE := Lib.hid hy; have HX : Hid (x < m) := Lib.hid (hx ▸ Nat.mod_lt _ h0); have HY : Hid (y < m) := Lib.hid (hy ▸ Nat.mod_lt _ h0)
  have HX63 : Hid (x < 9223372036854775808) := Lib.hid (Nat.lt_trans HX.out (Nat.lt_trans h1 (by decide))); have HY63 : Hid (y < 9223372036854775808) := Lib.hid (Nat.lt_trans HY.out (Nat.lt_trans h1 (by decide))); have HM63 : Hid (m < 9223372036854775808) := Lib.hid (Nat.lt_trans h1 (by decide))
  have HG1 : Hid (Nat.gcd x m ≠ 1) := Lib.hid (hx ▸ hg)
  clear hx hy h0 h1 hg
  have H := Sta.start w
  go_enter Try.func11, Try.ntmps11
  go_upto_region 0 with fail
  refine Kr.seqStartW ?_
  (refine Kr.seqQ (v := ?_) (a' := ?_) (by rfl) ?_ ?_ ?_; rotate_left 2; (focus (go_simp; first | done | rfl)); (focus ((try simp only [Kr.PT]); first | done | rfl)))
  refine Kr.seqDoneW ?_
  go_upto_region 1 with fail
  refine Kr.seqStartW ?_
  refine Kr.seqR (by rfl) (fun K hK => ?_)
  go_simp
  go_at_call 18
  refine (awake3 _).mono ?_
  rintro e y1 ⟨rfl, hg⟩
  replace H := H.grow hg
  clear hg
  (refine Kr.outS hK (a' := ?_) ?_ ?_; rotate_left; (focus ((try simp only [Kr.PT]); first | done | rfl))); clear hK K
  iterate 3 (refine Kr.seqQ (v := ?_) (a' := ?_) (by rfl) ?_ ?_ ?_; rotate_left 2; (focus (go_simp; first | done | rfl)); (focus ((try simp only [Kr.PT]); first | done | rfl)))
  (refine Kr.seqQ (v := .bool false) (a' := ?_) (by rfl) ?_ ?_ ?_; rotate_left 1; (focus (exact Kr.valOf rfl (Kr.lssU 1 HL1.out))); (focus ((try simp only [Kr.PT]); first | done | rfl)))
  iterate 3 (refine Kr.seqQ (v := ?_) (a' := ?_) (by rfl) ?_ ?_ ?_; rotate_left 2; (focus (go_simp; first | done | rfl)); (focus ((try simp only [Kr.PT]); first | done | rfl)))
  (refine Kr.seqQ (v := .bool false) (a' := ?_) (by rfl) ?_ ?_ ?_; rotate_left 1; (focus (exact Kr.valOf rfl (Kr.geqU 2305843009213693952 HL2.out))); (focus ((try simp only [Kr.PT]); first | done | rfl)))
  (refine Kr.seqQ (v := ?_) (a' := ?_) (by rfl) ?_ ?_ ?_; rotate_left 2; (focus (go_simp; first | done | rfl)); (focus ((try simp only [Kr.PT]); first | done | rfl)))
  refine Kr.seqDoneW ?_
  go_upto_region 3 with fail
  refine Kr.startL (fun W' => Kr.Cells W' []) [] (by kernel_rfl) ?_
  have gd : Gr y1 y1.drew := (Gr.refl _).drew
  generalize y1.drew = d2 at gd ⊢
  replace H := H.grow gd
  clear gd
  (refine Kr.tPQ 0 (v := ?_) (a' := ?_) rfl (by kernel_rfl) (fun _ _ _ h => h) (by rfl) (fun _ => (H.sub [] rfl)) (fun wx => ?_) ?_ ?_; rotate_left 2; (focus (go_simp; first | done | rfl)); (focus ((try simp only [Kr.PT]); first | done | rfl)))
  (refine Kr.tPQ 1 (v := ?_) (a' := ?_) rfl (by kernel_rfl) (fun _ _ _ h => h) (by rfl) (fun _ => (H.sub [] rfl)) (fun wx => ?_) ?_ ?_; rotate_left 2; (focus (go_simp; first | done | rfl)); (focus ((try simp only [Kr.PT]); first | done | rfl)))
  (refine Kr.tPQ 2 (v := .int .u64 (x : Int)) (a' := ?_) rfl (by kernel_rfl) (fun _ _ _ h => h) (by rfl) (fun _ => (H.sub [] rfl)) (fun wx => ?_) ?_ ?_; rotate_left 1; (focus (exact Kr.valOf rfl (Kr.remU M0.out HXE.out))); (focus ((try simp only [Kr.PT]); first | done | rfl)))
  (refine Kr.tPQ 3 (v := .int .i64 (x : Int)) (a' := ?_) rfl (by kernel_rfl) (fun _ _ _ h => h) (by rfl) (fun _ => (H.sub [] rfl)) (fun wx => ?_) ?_ ?_; rotate_left 1; (focus (exact Kr.valOf rfl (Kr.convUI HX63.out))); (focus ((try simp only [Kr.PT]); first | done | rfl)))
  (refine Kr.tPQ 4 (v := ?_) (a' := ?_) rfl (by kernel_rfl) (fun _ _ _ h => h) (by rfl) (fun _ => (H.sub [] rfl)) (fun wx => ?_) ?_ ?_; rotate_left 2; (focus (go_simp; first | done | rfl)); (focus ((try simp only [Kr.PT]); first | done | rfl)))
  (refine Kr.tPQ 5 (v := ?_) (a' := ?_) rfl (by kernel_rfl) (fun _ _ _ h => h) (by rfl) (fun _ => (H.sub [] rfl)) (fun wx => ?_) ?_ ?_; rotate_left 2; (focus (go_simp; first | done | rfl)); (focus ((try simp only [Kr.PT]); first | done | rfl)))
  (refine Kr.tPQ 6 (v := .int .u64 (y : Int)) (a' := ?_) rfl (by kernel_rfl) (fun _ _ _ h => h) (by rfl) (fun _ => (H.sub [] rfl)) (fun wx => ?_) ?_ ?_; rotate_left 1; (focus (exact Kr.valOf rfl (Kr.remU M0.out HYE.out))); (focus ((try simp only [Kr.PT]); first | done | rfl)))
  (refine Kr.tPQ 7 (v := .int .i64 (y : Int)) (a' := ?_) rfl (by kernel_rfl) (fun _ _ _ h => h) (by rfl) (fun _ => (H.sub [] rfl)) (fun wx => ?_) ?_ ?_; rotate_left 1; (focus (exact Kr.valOf rfl (Kr.convUI HY63.out))); (focus ((try simp only [Kr.PT]); first | done | rfl)))
  (refine Kr.tPQ 8 (v := ?_) (a' := ?_) rfl (by kernel_rfl) (fun _ _ _ h => h) (by rfl) (fun _ => (H.sub [] rfl)) (fun wx => ?_) ?_ ?_; rotate_left 2; (focus (go_simp; first | done | rfl)); (focus ((try simp only [Kr.PT]); first | done | rfl)))
  (refine Kr.tPQ 9 (v := .int .i64 (m : Int)) (a' := ?_) rfl (by kernel_rfl) (fun _ _ _ h => h) (by rfl) (fun _ => (H.sub [] rfl)) (fun wx => ?_) ?_ ?_; rotate_left 1; (focus (exact Kr.valOf rfl (Kr.convUI HM63.out))); (focus ((try simp only [Kr.PT]); first | done | rfl)))
  (refine Kr.tPQ 10 (v := ?_) (a' := ?_) rfl (by kernel_rfl) (fun _ _ _ h => h) (by rfl) (fun _ => (H.sub [] rfl)) (fun wx => ?_) ?_ ?_; rotate_left 2; (focus (go_simp; first | done | rfl)); (focus ((try simp only [Kr.PT]); first | done | rfl)))
  (refine Kr.tPQ 11 (v := ?_) (a' := ?_) rfl (by kernel_rfl) (fun _ _ _ h => h) (by rfl) (fun _ => (H.sub [] rfl)) (fun wx => ?_) ?_ ?_; rotate_left 2; (focus (go_simp; first | done | rfl)); (focus ((try simp only [Kr.PT]); first | done | rfl)))
  (refine Kr.tPQ 12 (v := ?_) (a' := ?_) rfl (by kernel_rfl) (fun _ _ _ h => h) (by rfl) (fun _ => (H.sub [] rfl)) (fun wx => ?_) ?_ ?_; rotate_left 2; (focus (go_simp; first | done | rfl)); (focus ((try simp only [Kr.PT]); first | done | rfl)))
  refine Kr.doneL (by kernel_rfl) ?_ _
  go_upto_region 4 with fail
  refine Kr.startL (fun W' => Kr.Cells W' []) [] (by kernel_rfl) ?_
  have gd : Gr d2 d2.drew := (Gr.refl _).drew
  generalize d2.drew = d3 at gd ⊢
  replace H := H.grow gd
  clear gd
  refine have nd4_34 : ∀ (Wd34 : World) (bn : Nat) (bq : Nat) (bp : Nat) (p4 : Option Addr) (n4 : Nat) (c4 : Nat) (p8 : Option Addr) (n8 : Nat) (c8 : Nat) (p21 : Option Addr) (n21 : Nat) (c21 : Nat), Sta w Wd34 [(bn, 0, .slice p21 n21 c21), (bq, 0, .slice p8 n8 c8), (bp, 0, .slice p4 n4 c4)] [N p21 n21 c21 (m), N p8 n8 c8 (y), N p4 n4 c4 (x)] → (?Q4_34 : World → Nat → Nat → Nat → Option Addr → Nat → Nat → Option Addr → Nat → Nat → Option Addr → Nat → Nat → Prop) Wd34 bn bq bp p4 n4 c4 p8 n8 c8 p21 n21 c21 := ?pf4_34; ?mn4_34
  case' mn4_34 => refine have nd4_33 : ∀ (Wd33 : World) (bn : Nat) (bq : Nat) (bp : Nat) (p4 : Option Addr) (n4 : Nat) (c4 : Nat) (p8 : Option Addr) (n8 : Nat) (c8 : Nat) (p21 : Option Addr) (n21 : Nat) (c21 : Nat), Sta w Wd33 [(bn, 0, .slice none 0 0), (bq, 0, .slice p8 n8 c8), (bp, 0, .slice p4 n4 c4)] [N p21 n21 c21 (m), N p8 n8 c8 (y), N p4 n4 c4 (x)] → (?Q4_33 : World → Nat → Nat → Nat → Option Addr → Nat → Nat → Option Addr → Nat → Nat → Option Addr → Nat → Nat → Prop) Wd33 bn bq bp p4 n4 c4 p8 n8 c8 p21 n21 c21 := ?pf4_33; ?mn4_33
  case' mn4_33 => refine have nd4_32 : ∀ (Wd32 : World) (bn : Nat) (bq : Nat) (bp : Nat) (p4 : Option Addr) (n4 : Nat) (c4 : Nat) (p8 : Option Addr) (n8 : Nat) (c8 : Nat) (p21 : Option Addr) (n21 : Nat) (c21 : Nat), Sta w Wd32 [(bn, 0, .slice none 0 0), (bq, 0, .slice none 0 0), (bp, 0, .slice p4 n4 c4)] [N p21 n21 c21 (m), N p8 n8 c8 (y), N p4 n4 c4 (x)] → (?Q4_32 : World → Nat → Nat → Nat → Option Addr → Nat → Nat → Option Addr → Nat → Nat → Option Addr → Nat → Nat → Prop) Wd32 bn bq bp p4 n4 c4 p8 n8 c8 p21 n21 c21 := ?pf4_32; ?mn4_32
  case' mn4_32 => refine have nd4_31 : ∀ (Wd31 : World) (bn : Nat) (bq : Nat) (bp : Nat) (p4 : Option Addr) (n4 : Nat) (c4 : Nat) (p8 : Option Addr) (n8 : Nat) (c8 : Nat) (p21 : Option Addr) (n21 : Nat) (c21 : Nat), Sta w Wd31 [(bn, 0, .slice none 0 0), (bq, 0, .slice none 0 0), (bp, 0, .slice none 0 0)] [N p21 n21 c21 (m), N p8 n8 c8 (y), N p4 n4 c4 (x)] → (?Q4_31 : World → Nat → Nat → Nat → Option Addr → Nat → Nat → Option Addr → Nat → Nat → Option Addr → Nat → Nat → Prop) Wd31 bn bq bp p4 n4 c4 p8 n8 c8 p21 n21 c21 := ?pf4_31; ?mn4_31
  case' mn4_31 => refine have nd4_30 : ∀ (Wd30 : World) (bn : Nat) (bq : Nat) (bp : Nat) (p4 : Option Addr) (n4 : Nat) (c4 : Nat) (p8 : Option Addr) (n8 : Nat) (c8 : Nat), Sta w Wd30 [(bn, 0, .slice none 0 0), (bq, 0, .slice none 0 0), (bp, 0, .slice none 0 0)] [N p8 n8 c8 (y), N p4 n4 c4 (x)] → (?Q4_30 : World → Nat → Nat → Nat → Option Addr → Nat → Nat → Option Addr → Nat → Nat → Prop) Wd30 bn bq bp p4 n4 c4 p8 n8 c8 := ?pf4_30; ?mn4_30
  case' mn4_30 => refine have nd4_29 : ∀ (Wd29 : World) (bn : Nat) (bq : Nat) (p4 : Option Addr) (n4 : Nat) (c4 : Nat) (p8 : Option Addr) (n8 : Nat) (c8 : Nat) (p21 : Option Addr) (n21 : Nat) (c21 : Nat), Sta w Wd29 [(bn, 0, .slice none 0 0), (bq, 0, .slice none 0 0)] [N p21 n21 c21 (m), N p8 n8 c8 (y), N p4 n4 c4 (x)] → (?Q4_29 : World → Nat → Nat → Option Addr → Nat → Nat → Option Addr → Nat → Nat → Option Addr → Nat → Nat → Prop) Wd29 bn bq p4 n4 c4 p8 n8 c8 p21 n21 c21 := ?pf4_29; ?mn4_29
  case' mn4_29 => refine have nd4_28 : ∀ (Wd28 : World) (bn : Nat) (bp : Nat) (p4 : Option Addr) (n4 : Nat) (c4 : Nat) (p8 : Option Addr) (n8 : Nat) (c8 : Nat) (p21 : Option Addr) (n21 : Nat) (c21 : Nat), Sta w Wd28 [(bn, 0, .slice none 0 0), (bp, 0, .slice none 0 0)] [N p21 n21 c21 (m), N p8 n8 c8 (y), N p4 n4 c4 (x)] → (?Q4_28 : World → Nat → Nat → Option Addr → Nat → Nat → Option Addr → Nat → Nat → Option Addr → Nat → Nat → Prop) Wd28 bn bp p4 n4 c4 p8 n8 c8 p21 n21 c21 := ?pf4_28; ?mn4_28
  case' mn4_28 => refine have nd4_27 : ∀ (Wd27 : World) (bq : Nat) (bp : Nat) (p4 : Option Addr) (n4 : Nat) (c4 : Nat) (p8 : Option Addr) (n8 : Nat) (c8 : Nat) (p21 : Option Addr) (n21 : Nat) (c21 : Nat), Sta w Wd27 [(bq, 0, .slice none 0 0), (bp, 0, .slice none 0 0)] [N p21 n21 c21 (m), N p8 n8 c8 (y), N p4 n4 c4 (x)] → (?Q4_27 : World → Nat → Nat → Option Addr → Nat → Nat → Option Addr → Nat → Nat → Option Addr → Nat → Nat → Prop) Wd27 bq bp p4 n4 c4 p8 n8 c8 p21 n21 c21 := ?pf4_27; ?mn4_27
  case' mn4_27 => refine have nd4_26 : ∀ (Wd26 : World) (bn : Nat) (bq : Nat) (bp : Nat) (p4 : Option Addr) (n4 : Nat) (c4 : Nat), Sta w Wd26 [(bn, 0, .slice none 0 0), (bq, 0, .slice none 0 0), (bp, 0, .slice none 0 0)] [N p4 n4 c4 (x)] → (?Q4_26 : World → Nat → Nat → Nat → Option Addr → Nat → Nat → Prop) Wd26 bn bq bp p4 n4 c4 := ?pf4_26; ?mn4_26
  case' mn4_26 => refine have nd4_25 : ∀ (Wd25 : World) (bn : Nat) (bq : Nat) (p4 : Option Addr) (n4 : Nat) (c4 : Nat) (p8 : Option Addr) (n8 : Nat) (c8 : Nat), Sta w Wd25 [(bn, 0, .slice none 0 0), (bq, 0, .slice none 0 0)] [N p8 n8 c8 (y), N p4 n4 c4 (x)] → (?Q4_25 : World → Nat → Nat → Option Addr → Nat → Nat → Option Addr → Nat → Nat → Prop) Wd25 bn bq p4 n4 c4 p8 n8 c8 := ?pf4_25; ?mn4_25
  case' mn4_25 => refine have nd4_24 : ∀ (Wd24 : World) (bn : Nat) (bp : Nat) (p4 : Option Addr) (n4 : Nat) (c4 : Nat) (p8 : Option Addr) (n8 : Nat) (c8 : Nat), Sta w Wd24 [(bn, 0, .slice none 0 0), (bp, 0, .slice none 0 0)] [N p8 n8 c8 (y), N p4 n4 c4 (x)] → (?Q4_24 : World → Nat → Nat → Option Addr → Nat → Nat → Option Addr → Nat → Nat → Prop) Wd24 bn bp p4 n4 c4 p8 n8 c8 := ?pf4_24; ?mn4_24
  case' mn4_24 => refine have nd4_23 : ∀ (Wd23 : World) (bq : Nat) (bp : Nat) (p4 : Option Addr) (n4 : Nat) (c4 : Nat) (p8 : Option Addr) (n8 : Nat) (c8 : Nat), Sta w Wd23 [(bq, 0, .slice none 0 0), (bp, 0, .slice none 0 0)] [N p8 n8 c8 (y), N p4 n4 c4 (x)] → (?Q4_23 : World → Nat → Nat → Option Addr → Nat → Nat → Option Addr → Nat → Nat → Prop) Wd23 bq bp p4 n4 c4 p8 n8 c8 := ?pf4_23; ?mn4_23
  case' mn4_23 => refine have nd4_22 : ∀ (Wd22 : World) (bn : Nat) (p4 : Option Addr) (n4 : Nat) (c4 : Nat) (p8 : Option Addr) (n8 : Nat) (c8 : Nat) (p21 : Option Addr) (n21 : Nat) (c21 : Nat), Sta w Wd22 [(bn, 0, .slice none 0 0)] [N p21 n21 c21 (m), N p8 n8 c8 (y), N p4 n4 c4 (x)] → (?Q4_22 : World → Nat → Option Addr → Nat → Nat → Option Addr → Nat → Nat → Option Addr → Nat → Nat → Prop) Wd22 bn p4 n4 c4 p8 n8 c8 p21 n21 c21 := ?pf4_22; ?mn4_22
  case' mn4_22 => refine have nd4_21 : ∀ (Wd21 : World) (bq : Nat) (p4 : Option Addr) (n4 : Nat) (c4 : Nat) (p8 : Option Addr) (n8 : Nat) (c8 : Nat) (p21 : Option Addr) (n21 : Nat) (c21 : Nat), Sta w Wd21 [(bq, 0, .slice none 0 0)] [N p21 n21 c21 (m), N p8 n8 c8 (y), N p4 n4 c4 (x)] → (?Q4_21 : World → Nat → Option Addr → Nat → Nat → Option Addr → Nat → Nat → Option Addr → Nat → Nat → Prop) Wd21 bq p4 n4 c4 p8 n8 c8 p21 n21 c21 := ?pf4_21; ?mn4_21
  case' mn4_21 => refine have nd4_20 : ∀ (Wd20 : World) (bp : Nat) (p4 : Option Addr) (n4 : Nat) (c4 : Nat) (p8 : Option Addr) (n8 : Nat) (c8 : Nat) (p21 : Option Addr) (n21 : Nat) (c21 : Nat), Sta w Wd20 [(bp, 0, .slice none 0 0)] [N p21 n21 c21 (m), N p8 n8 c8 (y), N p4 n4 c4 (x)] → (?Q4_20 : World → Nat → Option Addr → Nat → Nat → Option Addr → Nat → Nat → Option Addr → Nat → Nat → Prop) Wd20 bp p4 n4 c4 p8 n8 c8 p21 n21 c21 := ?pf4_20; ?mn4_20
  case' mn4_20 => refine have nd4_19 : ∀ (Wd19 : World) (bn : Nat) (bq : Nat) (bp : Nat), Sta w Wd19 [(bn, 0, .slice none 0 0), (bq, 0, .slice none 0 0), (bp, 0, .slice none 0 0)] [] → (?Q4_19 : World → Nat → Nat → Nat → Prop) Wd19 bn bq bp := ?pf4_19; ?mn4_19
  case' mn4_19 => refine have nd4_18 : ∀ (Wd18 : World) (bn : Nat) (bq : Nat) (p4 : Option Addr) (n4 : Nat) (c4 : Nat), Sta w Wd18 [(bn, 0, .slice none 0 0), (bq, 0, .slice none 0 0)] [N p4 n4 c4 (x)] → (?Q4_18 : World → Nat → Nat → Option Addr → Nat → Nat → Prop) Wd18 bn bq p4 n4 c4 := ?pf4_18; ?mn4_18
  case' mn4_18 => refine have nd4_17 : ∀ (Wd17 : World) (bn : Nat) (bp : Nat) (p4 : Option Addr) (n4 : Nat) (c4 : Nat), Sta w Wd17 [(bn, 0, .slice none 0 0), (bp, 0, .slice none 0 0)] [N p4 n4 c4 (x)] → (?Q4_17 : World → Nat → Nat → Option Addr → Nat → Nat → Prop) Wd17 bn bp p4 n4 c4 := ?pf4_17; ?mn4_17
  case' mn4_17 => refine have nd4_16 : ∀ (Wd16 : World) (bq : Nat) (bp : Nat) (p4 : Option Addr) (n4 : Nat) (c4 : Nat), Sta w Wd16 [(bq, 0, .slice none 0 0), (bp, 0, .slice none 0 0)] [N p4 n4 c4 (x)] → (?Q4_16 : World → Nat → Nat → Option Addr → Nat → Nat → Prop) Wd16 bq bp p4 n4 c4 := ?pf4_16; ?mn4_16
  case' mn4_16 => refine have nd4_15 : ∀ (Wd15 : World) (bn : Nat) (p4 : Option Addr) (n4 : Nat) (c4 : Nat) (p8 : Option Addr) (n8 : Nat) (c8 : Nat), Sta w Wd15 [(bn, 0, .slice none 0 0)] [N p8 n8 c8 (y), N p4 n4 c4 (x)] → (?Q4_15 : World → Nat → Option Addr → Nat → Nat → Option Addr → Nat → Nat → Prop) Wd15 bn p4 n4 c4 p8 n8 c8 := ?pf4_15; ?mn4_15
  case' mn4_15 => refine have nd4_14 : ∀ (Wd14 : World) (bq : Nat) (p4 : Option Addr) (n4 : Nat) (c4 : Nat) (p8 : Option Addr) (n8 : Nat) (c8 : Nat), Sta w Wd14 [(bq, 0, .slice none 0 0)] [N p8 n8 c8 (y), N p4 n4 c4 (x)] → (?Q4_14 : World → Nat → Option Addr → Nat → Nat → Option Addr → Nat → Nat → Prop) Wd14 bq p4 n4 c4 p8 n8 c8 := ?pf4_14; ?mn4_14
  case' mn4_14 => refine have nd4_13 : ∀ (Wd13 : World) (bp : Nat) (p4 : Option Addr) (n4 : Nat) (c4 : Nat) (p8 : Option Addr) (n8 : Nat) (c8 : Nat), Sta w Wd13 [(bp, 0, .slice none 0 0)] [N p8 n8 c8 (y), N p4 n4 c4 (x)] → (?Q4_13 : World → Nat → Option Addr → Nat → Nat → Option Addr → Nat → Nat → Prop) Wd13 bp p4 n4 c4 p8 n8 c8 := ?pf4_13; ?mn4_13
  case' mn4_13 => refine have nd4_12 : ∀ (Wd12 : World) (p4 : Option Addr) (n4 : Nat) (c4 : Nat) (p8 : Option Addr) (n8 : Nat) (c8 : Nat) (p21 : Option Addr) (n21 : Nat) (c21 : Nat), Sta w Wd12 [] [N p21 n21 c21 (m), N p8 n8 c8 (y), N p4 n4 c4 (x)] → (?Q4_12 : World → Option Addr → Nat → Nat → Option Addr → Nat → Nat → Option Addr → Nat → Nat → Prop) Wd12 p4 n4 c4 p8 n8 c8 p21 n21 c21 := ?pf4_12; ?mn4_12
  case' mn4_12 => refine have nd4_11 : ∀ (Wd11 : World) (bn : Nat) (bq : Nat), Sta w Wd11 [(bn, 0, .slice none 0 0), (bq, 0, .slice none 0 0)] [] → (?Q4_11 : World → Nat → Nat → Prop) Wd11 bn bq := ?pf4_11; ?mn4_11
  case' mn4_11 => refine have nd4_10 : ∀ (Wd10 : World) (bn : Nat) (bp : Nat), Sta w Wd10 [(bn, 0, .slice none 0 0), (bp, 0, .slice none 0 0)] [] → (?Q4_10 : World → Nat → Nat → Prop) Wd10 bn bp := ?pf4_10; ?mn4_10
  case' mn4_10 => refine have nd4_9 : ∀ (Wd9 : World) (bq : Nat) (bp : Nat), Sta w Wd9 [(bq, 0, .slice none 0 0), (bp, 0, .slice none 0 0)] [] → (?Q4_9 : World → Nat → Nat → Prop) Wd9 bq bp := ?pf4_9; ?mn4_9
  case' mn4_9 => refine have nd4_8 : ∀ (Wd8 : World) (bn : Nat) (p4 : Option Addr) (n4 : Nat) (c4 : Nat), Sta w Wd8 [(bn, 0, .slice none 0 0)] [N p4 n4 c4 (x)] → (?Q4_8 : World → Nat → Option Addr → Nat → Nat → Prop) Wd8 bn p4 n4 c4 := ?pf4_8; ?mn4_8
  case' mn4_8 => refine have nd4_7 : ∀ (Wd7 : World) (bq : Nat) (p4 : Option Addr) (n4 : Nat) (c4 : Nat), Sta w Wd7 [(bq, 0, .slice none 0 0)] [N p4 n4 c4 (x)] → (?Q4_7 : World → Nat → Option Addr → Nat → Nat → Prop) Wd7 bq p4 n4 c4 := ?pf4_7; ?mn4_7
  case' mn4_7 => refine have nd4_6 : ∀ (Wd6 : World) (bp : Nat) (p4 : Option Addr) (n4 : Nat) (c4 : Nat), Sta w Wd6 [(bp, 0, .slice none 0 0)] [N p4 n4 c4 (x)] → (?Q4_6 : World → Nat → Option Addr → Nat → Nat → Prop) Wd6 bp p4 n4 c4 := ?pf4_6; ?mn4_6
  case' mn4_6 => refine have nd4_5 : ∀ (Wd5 : World) (p4 : Option Addr) (n4 : Nat) (c4 : Nat) (p8 : Option Addr) (n8 : Nat) (c8 : Nat), Sta w Wd5 [] [N p8 n8 c8 (y), N p4 n4 c4 (x)] → (?Q4_5 : World → Option Addr → Nat → Nat → Option Addr → Nat → Nat → Prop) Wd5 p4 n4 c4 p8 n8 c8 := ?pf4_5; ?mn4_5
  case' mn4_5 => refine have nd4_4 : ∀ (Wd4 : World) (bn : Nat), Sta w Wd4 [(bn, 0, .slice none 0 0)] [] → (?Q4_4 : World → Nat → Prop) Wd4 bn := ?pf4_4; ?mn4_4
  case' mn4_4 => refine have nd4_3 : ∀ (Wd3 : World) (bq : Nat), Sta w Wd3 [(bq, 0, .slice none 0 0)] [] → (?Q4_3 : World → Nat → Prop) Wd3 bq := ?pf4_3; ?mn4_3
  case' mn4_3 => refine have nd4_2 : ∀ (Wd2 : World) (bp : Nat), Sta w Wd2 [(bp, 0, .slice none 0 0)] [] → (?Q4_2 : World → Nat → Prop) Wd2 bp := ?pf4_2; ?mn4_2
  case' mn4_2 => refine have nd4_1 : ∀ (Wd1 : World) (p4 : Option Addr) (n4 : Nat) (c4 : Nat), Sta w Wd1 [] [N p4 n4 c4 (x)] → (?Q4_1 : World → Option Addr → Nat → Nat → Prop) Wd1 p4 n4 c4 := ?pf4_1; ?mn4_1
  case mn4_1 =>
    (refine Kr.tPQ 0 (v := ?_) (a' := ?_) rfl (by kernel_rfl) (fun _ _ _ h => h) (by rfl) (fun _ => (H.sub [] rfl)) (fun wx => ?_) ?_ ?_; rotate_left 2; (focus (go_simp; first | done | rfl)); (focus ((try simp only [Kr.PT]); first | done | rfl)))
    (refine Kr.tPQ 1 (v := ?_) (a' := ?_) rfl (by kernel_rfl) (fun _ _ _ h => h) (by rfl) (fun _ => (H.sub [] rfl)) (fun wx => ?_) ?_ ?_; rotate_left 2; (focus (go_simp; first | done | rfl)); (focus ((try simp only [Kr.PT]); first | done | rfl)))
    (refine Kr.tPQ 2 (v := .int .u64 (x : Int)) (a' := ?_) rfl (by kernel_rfl) (fun _ _ _ h => h) (by rfl) (fun _ => (H.sub [] rfl)) (fun wx => ?_) ?_ ?_; rotate_left 1; (focus (exact Kr.valOf rfl (Kr.remU M0.out HXE.out))); (focus ((try simp only [Kr.PT]); first | done | rfl)))
    (refine Kr.tPQ 4 (v := ?_) (a' := ?_) rfl (by kernel_rfl) (fun _ _ _ h => h) (by rfl) (fun _ => (H.sub [] rfl)) (fun wx => ?_) ?_ ?_; rotate_left 2; (focus (go_simp; first | done | rfl)); (focus ((try simp only [Kr.PT]); first | done | rfl)))
    (refine Kr.tPQ 5 (v := ?_) (a' := ?_) rfl (by kernel_rfl) (fun _ _ _ h => h) (by rfl) (fun _ => (H.sub [] rfl)) (fun wx => ?_) ?_ ?_; rotate_left 2; (focus (go_simp; first | done | rfl)); (focus ((try simp only [Kr.PT]); first | done | rfl)))
    (refine Kr.tPQ 6 (v := .int .u64 (y : Int)) (a' := ?_) rfl (by kernel_rfl) (fun _ _ _ h => h) (by rfl) (fun _ => (H.sub [] rfl)) (fun wx => ?_) ?_ ?_; rotate_left 1; (focus (exact Kr.valOf rfl (Kr.remU M0.out HYE.out))); (focus ((try simp only [Kr.PT]); first | done | rfl)))
    (refine Kr.tPQ 8 (v := ?_) (a' := ?_) rfl (by kernel_rfl) (fun _ _ _ h => h) (by rfl) (fun _ => (H.sub [] rfl)) (fun wx => ?_) ?_ ?_; rotate_left 2; (focus (go_simp; first | done | rfl)); (focus ((try simp only [Kr.PT]); first | done | rfl)))
    refine Kr.readyL (rs := [3, 10, 11, 12]) (by kernel_rfl) (by simp) ?_
    refine Kr.AllL.cons rfl (fun K hK => ?_) ?_
    · go_simp
      go_at_call 38
      refine (of3_v x (Nat.lt_trans HX63.out (by decide)) _).mono ?_
      rintro e y4 ⟨p4, n4, c4, rfl, hr, hg⟩
      replace H := H.grow hg
      replace H := H.num hr.toNw
      clear hr hg
      (refine Kr.outL hK (a' := ?_) ?_ (fun _ => (H.sub [] rfl)) ?_; rotate_left; (focus ((try simp only [Kr.PT]); first | done | rfl))); clear hK K
      refine Kr.relistL (l2 := #[true, true, true, true, true, true, true, false, true, false, false, false, false, false, false, false]) (by kernel_rfl) ?_
      exact nd4_1 y4 p4 n4 c4 H
    refine Kr.AllL.cons rfl (fun K hK => ?_) ?_
    · go_simp
      obtain ⟨y5, hy⟩ : ∃ y, d3.alloc (.cells #[.slice none 0 0] 24) = y := ⟨_, rfl⟩
      obtain ⟨bp, hb⟩ : ∃ b, d3.heap.size = b := ⟨_, rfl⟩
      rw [hy, hb]
      replace H := H.alloc hy hb rfl
      clear hy hb
      (refine Kr.outL hK (a' := ?_) ?_ (fun _ => (H.sub [] rfl)) ?_; rotate_left; (focus ((try simp only [Kr.PT]); first | done | rfl))); clear hK K
      refine Kr.relistL (l2 := #[true, true, true, false, true, true, true, false, true, false, true, false, false, false, false, false]) (by kernel_rfl) ?_
      exact nd4_2 y5 bp H
    refine Kr.AllL.cons rfl (fun K hK => ?_) ?_
    · go_simp
      obtain ⟨y6, hy⟩ : ∃ y, d3.alloc (.cells #[.slice none 0 0] 24) = y := ⟨_, rfl⟩
      obtain ⟨bq, hb⟩ : ∃ b, d3.heap.size = b := ⟨_, rfl⟩
      rw [hy, hb]
      replace H := H.alloc hy hb rfl
      clear hy hb
      (refine Kr.outL hK (a' := ?_) ?_ (fun _ => (H.sub [] rfl)) ?_; rotate_left; (focus ((try simp only [Kr.PT]); first | done | rfl))); clear hK K
      refine Kr.relistL (l2 := #[true, true, true, false, true, true, true, false, true, false, false, true, false, false, false, false]) (by kernel_rfl) ?_
      exact nd4_3 y6 bq H
    refine Kr.AllL.cons rfl (fun K hK => ?_) Kr.AllL.nil
    go_simp
    obtain ⟨y7, hy⟩ : ∃ y, d3.alloc (.cells #[.slice none 0 0] 24) = y := ⟨_, rfl⟩
    obtain ⟨bn, hb⟩ : ∃ b, d3.heap.size = b := ⟨_, rfl⟩
    rw [hy, hb]
    replace H := H.alloc hy hb rfl
    clear hy hb
    (refine Kr.outL hK (a' := ?_) ?_ (fun _ => (H.sub [] rfl)) ?_; rotate_left; (focus ((try simp only [Kr.PT]); first | done | rfl))); clear hK K
    refine Kr.relistL (l2 := #[true, true, true, false, true, true, true, false, true, false, false, false, true, false, false, false]) (by kernel_rfl) ?_
    exact nd4_4 y7 bn H
  case pf4_1 =>
    intro Wd1 p4 n4 c4 H
    refine Kr.readyL (rs := [7, 10, 11, 12]) (by kernel_rfl) (by simp) ?_
    refine Kr.AllL.cons rfl (fun K hK => ?_) ?_
    · go_simp
      go_at_call 38
      refine (of3_v y (Nat.lt_trans HY63.out (by decide)) _).mono ?_
      rintro e y8 ⟨p8, n8, c8, rfl, hr, hg⟩
      replace H := H.grow hg
      replace H := H.num hr.toNw
      clear hr hg
      (refine Kr.outL hK (a' := ?_) ?_ (fun _ => (H.sub [] rfl)) ?_; rotate_left; (focus ((try simp only [Kr.PT]); first | done | rfl))); clear hK K
      refine Kr.relistL (l2 := #[true, true, true, true, true, true, true, true, true, false, false, false, false, false, false, false]) (by kernel_rfl) ?_
      exact nd4_5 y8 p4 n4 c4 p8 n8 c8 H
    refine Kr.AllL.cons rfl (fun K hK => ?_) ?_
    · go_simp
      obtain ⟨y9, hy⟩ : ∃ y, Wd1.alloc (.cells #[.slice none 0 0] 24) = y := ⟨_, rfl⟩
      obtain ⟨bp, hb⟩ : ∃ b, Wd1.heap.size = b := ⟨_, rfl⟩
      rw [hy, hb]
      replace H := H.alloc hy hb rfl
      clear hy hb
      (refine Kr.outL hK (a' := ?_) ?_ (fun _ => (H.sub [] rfl)) ?_; rotate_left; (focus ((try simp only [Kr.PT]); first | done | rfl))); clear hK K
      refine Kr.relistL (l2 := #[true, true, true, true, true, true, true, false, true, false, true, false, false, false, false, false]) (by kernel_rfl) ?_
      exact nd4_6 y9 bp p4 n4 c4 H
    refine Kr.AllL.cons rfl (fun K hK => ?_) ?_
    · go_simp
      obtain ⟨y10, hy⟩ : ∃ y, Wd1.alloc (.cells #[.slice none 0 0] 24) = y := ⟨_, rfl⟩
      obtain ⟨bq, hb⟩ : ∃ b, Wd1.heap.size = b := ⟨_, rfl⟩
      rw [hy, hb]
      replace H := H.alloc hy hb rfl
      clear hy hb
      (refine Kr.outL hK (a' := ?_) ?_ (fun _ => (H.sub [] rfl)) ?_; rotate_left; (focus ((try simp only [Kr.PT]); first | done | rfl))); clear hK K
      refine Kr.relistL (l2 := #[true, true, true, true, true, true, true, false, true, false, false, true, false, false, false, false]) (by kernel_rfl) ?_
      exact nd4_7 y10 bq p4 n4 c4 H
    refine Kr.AllL.cons rfl (fun K hK => ?_) Kr.AllL.nil
    go_simp
    obtain ⟨y11, hy⟩ : ∃ y, Wd1.alloc (.cells #[.slice none 0 0] 24) = y := ⟨_, rfl⟩
    obtain ⟨bn, hb⟩ : ∃ b, Wd1.heap.size = b := ⟨_, rfl⟩
    rw [hy, hb]
    replace H := H.alloc hy hb rfl
    clear hy hb
    (refine Kr.outL hK (a' := ?_) ?_ (fun _ => (H.sub [] rfl)) ?_; rotate_left; (focus ((try simp only [Kr.PT]); first | done | rfl))); clear hK K
    refine Kr.relistL (l2 := #[true, true, true, true, true, true, true, false, true, false, false, false, true, false, false, false]) (by kernel_rfl) ?_
    exact nd4_8 y11 bn p4 n4 c4 H
  case pf4_2 =>
    intro Wd2 bp H
    refine Kr.readyL (rs := [3, 11, 12]) (by kernel_rfl) (by simp) ?_
    refine Kr.AllL.cons rfl (fun K hK => ?_) ?_
    · go_simp
      go_at_call 38
      refine (of3_v x (Nat.lt_trans HX63.out (by decide)) _).mono ?_
      rintro e y12 ⟨p12, n12, c12, rfl, hr, hg⟩
      replace H := H.grow hg
      replace H := H.num hr.toNw
      clear hr hg
      (refine Kr.outL hK (a' := ?_) ?_ (fun _ => (H.sub [] rfl)) ?_; rotate_left; (focus ((try simp only [Kr.PT]); first | done | rfl))); clear hK K
      refine Kr.relistL (l2 := #[true, true, true, true, true, true, true, false, true, false, true, false, false, false, false, false]) (by kernel_rfl) ?_
      exact nd4_6 y12 bp p12 n12 c12 H
    refine Kr.AllL.cons rfl (fun K hK => ?_) ?_
    · go_simp
      obtain ⟨y13, hy⟩ : ∃ y, Wd2.alloc (.cells #[.slice none 0 0] 24) = y := ⟨_, rfl⟩
      obtain ⟨bq, hb⟩ : ∃ b, Wd2.heap.size = b := ⟨_, rfl⟩
      rw [hy, hb]
      replace H := H.alloc hy hb rfl
      clear hy hb
      (refine Kr.outL hK (a' := ?_) ?_ (fun _ => (H.sub [] rfl)) ?_; rotate_left; (focus ((try simp only [Kr.PT]); first | done | rfl))); clear hK K
      refine Kr.relistL (l2 := #[true, true, true, false, true, true, true, false, true, false, true, true, false, false, false, false]) (by kernel_rfl) ?_
      exact nd4_9 y13 bq bp H
    refine Kr.AllL.cons rfl (fun K hK => ?_) Kr.AllL.nil
    go_simp
    obtain ⟨y14, hy⟩ : ∃ y, Wd2.alloc (.cells #[.slice none 0 0] 24) = y := ⟨_, rfl⟩
    obtain ⟨bn, hb⟩ : ∃ b, Wd2.heap.size = b := ⟨_, rfl⟩
    rw [hy, hb]
    replace H := H.alloc hy hb rfl
    clear hy hb
    (refine Kr.outL hK (a' := ?_) ?_ (fun _ => (H.sub [] rfl)) ?_; rotate_left; (focus ((try simp only [Kr.PT]); first | done | rfl))); clear hK K
    refine Kr.relistL (l2 := #[true, true, true, false, true, true, true, false, true, false, true, false, true, false, false, false]) (by kernel_rfl) ?_
    exact nd4_10 y14 bn bp H
  case pf4_3 =>
    intro Wd3 bq H
    refine Kr.readyL (rs := [3, 10, 12]) (by kernel_rfl) (by simp) ?_
    refine Kr.AllL.cons rfl (fun K hK => ?_) ?_
    · go_simp
      go_at_call 38
      refine (of3_v x (Nat.lt_trans HX63.out (by decide)) _).mono ?_
      rintro e y15 ⟨p15, n15, c15, rfl, hr, hg⟩
      replace H := H.grow hg
      replace H := H.num hr.toNw
      clear hr hg
      (refine Kr.outL hK (a' := ?_) ?_ (fun _ => (H.sub [] rfl)) ?_; rotate_left; (focus ((try simp only [Kr.PT]); first | done | rfl))); clear hK K
      refine Kr.relistL (l2 := #[true, true, true, true, true, true, true, false, true, false, false, true, false, false, false, false]) (by kernel_rfl) ?_
      exact nd4_7 y15 bq p15 n15 c15 H
    refine Kr.AllL.cons rfl (fun K hK => ?_) ?_
    · go_simp
      obtain ⟨y16, hy⟩ : ∃ y, Wd3.alloc (.cells #[.slice none 0 0] 24) = y := ⟨_, rfl⟩
      obtain ⟨bp, hb⟩ : ∃ b, Wd3.heap.size = b := ⟨_, rfl⟩
      rw [hy, hb]
      replace H := H.alloc hy hb rfl
      clear hy hb
      (refine Kr.outL hK (a' := ?_) ?_ (fun _ => (H.sub [] rfl)) ?_; rotate_left; (focus ((try simp only [Kr.PT]); first | done | rfl))); clear hK K
      refine Kr.relistL (l2 := #[true, true, true, false, true, true, true, false, true, false, true, true, false, false, false, false]) (by kernel_rfl) ?_
      exact nd4_9 y16 bq bp (H.pickC [1, 0] (by decide) rfl)
    refine Kr.AllL.cons rfl (fun K hK => ?_) Kr.AllL.nil
    go_simp
    obtain ⟨y17, hy⟩ : ∃ y, Wd3.alloc (.cells #[.slice none 0 0] 24) = y := ⟨_, rfl⟩
    obtain ⟨bn, hb⟩ : ∃ b, Wd3.heap.size = b := ⟨_, rfl⟩
    rw [hy, hb]
    replace H := H.alloc hy hb rfl
    clear hy hb
    (refine Kr.outL hK (a' := ?_) ?_ (fun _ => (H.sub [] rfl)) ?_; rotate_left; (focus ((try simp only [Kr.PT]); first | done | rfl))); clear hK K
    refine Kr.relistL (l2 := #[true, true, true, false, true, true, true, false, true, false, false, true, true, false, false, false]) (by kernel_rfl) ?_
    exact nd4_11 y17 bn bq H
  case pf4_4 =>
    intro Wd4 bn H
    refine Kr.readyL (rs := [3, 10, 11]) (by kernel_rfl) (by simp) ?_
    refine Kr.AllL.cons rfl (fun K hK => ?_) ?_
    · go_simp
      go_at_call 38
      refine (of3_v x (Nat.lt_trans HX63.out (by decide)) _).mono ?_
      rintro e y18 ⟨p18, n18, c18, rfl, hr, hg⟩
      replace H := H.grow hg
      replace H := H.num hr.toNw
      clear hr hg
      (refine Kr.outL hK (a' := ?_) ?_ (fun _ => (H.sub [] rfl)) ?_; rotate_left; (focus ((try simp only [Kr.PT]); first | done | rfl))); clear hK K
      refine Kr.relistL (l2 := #[true, true, true, true, true, true, true, false, true, false, false, false, true, false, false, false]) (by kernel_rfl) ?_
      exact nd4_8 y18 bn p18 n18 c18 H
    refine Kr.AllL.cons rfl (fun K hK => ?_) ?_
    · go_simp
      obtain ⟨y19, hy⟩ : ∃ y, Wd4.alloc (.cells #[.slice none 0 0] 24) = y := ⟨_, rfl⟩
      obtain ⟨bp, hb⟩ : ∃ b, Wd4.heap.size = b := ⟨_, rfl⟩
      rw [hy, hb]
      replace H := H.alloc hy hb rfl
      clear hy hb
      (refine Kr.outL hK (a' := ?_) ?_ (fun _ => (H.sub [] rfl)) ?_; rotate_left; (focus ((try simp only [Kr.PT]); first | done | rfl))); clear hK K
      refine Kr.relistL (l2 := #[true, true, true, false, true, true, true, false, true, false, true, false, true, false, false, false]) (by kernel_rfl) ?_
      exact nd4_10 y19 bn bp (H.pickC [1, 0] (by decide) rfl)
    refine Kr.AllL.cons rfl (fun K hK => ?_) Kr.AllL.nil
    go_simp
    obtain ⟨y20, hy⟩ : ∃ y, Wd4.alloc (.cells #[.slice none 0 0] 24) = y := ⟨_, rfl⟩
    obtain ⟨bq, hb⟩ : ∃ b, Wd4.heap.size = b := ⟨_, rfl⟩
    rw [hy, hb]
    replace H := H.alloc hy hb rfl
    clear hy hb
    (refine Kr.outL hK (a' := ?_) ?_ (fun _ => (H.sub [] rfl)) ?_; rotate_left; (focus ((try simp only [Kr.PT]); first | done | rfl))); clear hK K
    refine Kr.relistL (l2 := #[true, true, true, false, true, true, true, false, true, false, false, true, true, false, false, false]) (by kernel_rfl) ?_
    exact nd4_11 y20 bn bq (H.pickC [1, 0] (by decide) rfl)
  case pf4_5 =>
    intro Wd5 p4 n4 c4 p8 n8 c8 H
    refine Kr.readyL (rs := [9, 10, 11, 12]) (by kernel_rfl) (by simp) ?_
    refine Kr.AllL.cons rfl (fun K hK => ?_) ?_
    · go_simp
      go_at_call 38
      refine (of3_v m (Nat.lt_trans HM63.out (by decide)) _).mono ?_
      rintro e y21 ⟨p21, n21, c21, rfl, hr, hg⟩
      replace H := H.grow hg
      replace H := H.num hr.toNw
      clear hr hg
      (refine Kr.outL hK (a' := ?_) ?_ (fun _ => (H.sub [] rfl)) ?_; rotate_left; (focus ((try simp only [Kr.PT]); first | done | rfl))); clear hK K
      refine Kr.relistL (l2 := #[true, true, true, true, true, true, true, true, true, true, false, false, false, false, false, false]) (by kernel_rfl) ?_
      exact nd4_12 y21 p4 n4 c4 p8 n8 c8 p21 n21 c21 H
    refine Kr.AllL.cons rfl (fun K hK => ?_) ?_
    · go_simp
      obtain ⟨y22, hy⟩ : ∃ y, Wd5.alloc (.cells #[.slice none 0 0] 24) = y := ⟨_, rfl⟩
      obtain ⟨bp, hb⟩ : ∃ b, Wd5.heap.size = b := ⟨_, rfl⟩
      rw [hy, hb]
      replace H := H.alloc hy hb rfl
      clear hy hb
      (refine Kr.outL hK (a' := ?_) ?_ (fun _ => (H.sub [] rfl)) ?_; rotate_left; (focus ((try simp only [Kr.PT]); first | done | rfl))); clear hK K
      refine Kr.relistL (l2 := #[true, true, true, true, true, true, true, true, true, false, true, false, false, false, false, false]) (by kernel_rfl) ?_
      exact nd4_13 y22 bp p4 n4 c4 p8 n8 c8 H
    refine Kr.AllL.cons rfl (fun K hK => ?_) ?_
    · go_simp
      obtain ⟨y23, hy⟩ : ∃ y, Wd5.alloc (.cells #[.slice none 0 0] 24) = y := ⟨_, rfl⟩
      obtain ⟨bq, hb⟩ : ∃ b, Wd5.heap.size = b := ⟨_, rfl⟩
      rw [hy, hb]
      replace H := H.alloc hy hb rfl
      clear hy hb
      (refine Kr.outL hK (a' := ?_) ?_ (fun _ => (H.sub [] rfl)) ?_; rotate_left; (focus ((try simp only [Kr.PT]); first | done | rfl))); clear hK K
      refine Kr.relistL (l2 := #[true, true, true, true, true, true, true, true, true, false, false, true, false, false, false, false]) (by kernel_rfl) ?_
      exact nd4_14 y23 bq p4 n4 c4 p8 n8 c8 H
    refine Kr.AllL.cons rfl (fun K hK => ?_) Kr.AllL.nil
    go_simp
    obtain ⟨y24, hy⟩ : ∃ y, Wd5.alloc (.cells #[.slice none 0 0] 24) = y := ⟨_, rfl⟩
    obtain ⟨bn, hb⟩ : ∃ b, Wd5.heap.size = b := ⟨_, rfl⟩
    rw [hy, hb]
    replace H := H.alloc hy hb rfl
    clear hy hb
    (refine Kr.outL hK (a' := ?_) ?_ (fun _ => (H.sub [] rfl)) ?_; rotate_left; (focus ((try simp only [Kr.PT]); first | done | rfl))); clear hK K
    refine Kr.relistL (l2 := #[true, true, true, true, true, true, true, true, true, false, false, false, true, false, false, false]) (by kernel_rfl) ?_
    exact nd4_15 y24 bn p4 n4 c4 p8 n8 c8 H
  case pf4_6 =>
    intro Wd6 bp p4 n4 c4 H
    refine Kr.readyL (rs := [7, 11, 12]) (by kernel_rfl) (by simp) ?_
    refine Kr.AllL.cons rfl (fun K hK => ?_) ?_
    · go_simp
      go_at_call 38
      refine (of3_v y (Nat.lt_trans HY63.out (by decide)) _).mono ?_
      rintro e y25 ⟨p25, n25, c25, rfl, hr, hg⟩
      replace H := H.grow hg
      replace H := H.num hr.toNw
      clear hr hg
      (refine Kr.outL hK (a' := ?_) ?_ (fun _ => (H.sub [] rfl)) ?_; rotate_left; (focus ((try simp only [Kr.PT]); first | done | rfl))); clear hK K
      refine Kr.relistL (l2 := #[true, true, true, true, true, true, true, true, true, false, true, false, false, false, false, false]) (by kernel_rfl) ?_
      exact nd4_13 y25 bp p4 n4 c4 p25 n25 c25 H
    refine Kr.AllL.cons rfl (fun K hK => ?_) ?_
    · go_simp
      obtain ⟨y26, hy⟩ : ∃ y, Wd6.alloc (.cells #[.slice none 0 0] 24) = y := ⟨_, rfl⟩
      obtain ⟨bq, hb⟩ : ∃ b, Wd6.heap.size = b := ⟨_, rfl⟩
      rw [hy, hb]
      replace H := H.alloc hy hb rfl
      clear hy hb
      (refine Kr.outL hK (a' := ?_) ?_ (fun _ => (H.sub [] rfl)) ?_; rotate_left; (focus ((try simp only [Kr.PT]); first | done | rfl))); clear hK K
      refine Kr.relistL (l2 := #[true, true, true, true, true, true, true, false, true, false, true, true, false, false, false, false]) (by kernel_rfl) ?_
      exact nd4_16 y26 bq bp p4 n4 c4 H
    refine Kr.AllL.cons rfl (fun K hK => ?_) Kr.AllL.nil
    go_simp
    obtain ⟨y27, hy⟩ : ∃ y, Wd6.alloc (.cells #[.slice none 0 0] 24) = y := ⟨_, rfl⟩
    obtain ⟨bn, hb⟩ : ∃ b, Wd6.heap.size = b := ⟨_, rfl⟩
    rw [hy, hb]
    replace H := H.alloc hy hb rfl
    clear hy hb
    (refine Kr.outL hK (a' := ?_) ?_ (fun _ => (H.sub [] rfl)) ?_; rotate_left; (focus ((try simp only [Kr.PT]); first | done | rfl))); clear hK K
    refine Kr.relistL (l2 := #[true, true, true, true, true, true, true, false, true, false, true, false, true, false, false, false]) (by kernel_rfl) ?_
    exact nd4_17 y27 bn bp p4 n4 c4 H
  case pf4_7 =>
    intro Wd7 bq p4 n4 c4 H
    refine Kr.readyL (rs := [7, 10, 12]) (by kernel_rfl) (by simp) ?_
    refine Kr.AllL.cons rfl (fun K hK => ?_) ?_
    · go_simp
      go_at_call 38
      refine (of3_v y (Nat.lt_trans HY63.out (by decide)) _).mono ?_
      rintro e y28 ⟨p28, n28, c28, rfl, hr, hg⟩
      replace H := H.grow hg
      replace H := H.num hr.toNw
      clear hr hg
      (refine Kr.outL hK (a' := ?_) ?_ (fun _ => (H.sub [] rfl)) ?_; rotate_left; (focus ((try simp only [Kr.PT]); first | done | rfl))); clear hK K
      refine Kr.relistL (l2 := #[true, true, true, true, true, true, true, true, true, false, false, true, false, false, false, false]) (by kernel_rfl) ?_
      exact nd4_14 y28 bq p4 n4 c4 p28 n28 c28 H
    refine Kr.AllL.cons rfl (fun K hK => ?_) ?_
    · go_simp
      obtain ⟨y29, hy⟩ : ∃ y, Wd7.alloc (.cells #[.slice none 0 0] 24) = y := ⟨_, rfl⟩
      obtain ⟨bp, hb⟩ : ∃ b, Wd7.heap.size = b := ⟨_, rfl⟩
      rw [hy, hb]
      replace H := H.alloc hy hb rfl
      clear hy hb
      (refine Kr.outL hK (a' := ?_) ?_ (fun _ => (H.sub [] rfl)) ?_; rotate_left; (focus ((try simp only [Kr.PT]); first | done | rfl))); clear hK K
      refine Kr.relistL (l2 := #[true, true, true, true, true, true, true, false, true, false, true, true, false, false, false, false]) (by kernel_rfl) ?_
      exact nd4_16 y29 bq bp p4 n4 c4 (H.pickC [1, 0] (by decide) rfl)
    refine Kr.AllL.cons rfl (fun K hK => ?_) Kr.AllL.nil
    go_simp
    obtain ⟨y30, hy⟩ : ∃ y, Wd7.alloc (.cells #[.slice none 0 0] 24) = y := ⟨_, rfl⟩
    obtain ⟨bn, hb⟩ : ∃ b, Wd7.heap.size = b := ⟨_, rfl⟩
    rw [hy, hb]
    replace H := H.alloc hy hb rfl
    clear hy hb
    (refine Kr.outL hK (a' := ?_) ?_ (fun _ => (H.sub [] rfl)) ?_; rotate_left; (focus ((try simp only [Kr.PT]); first | done | rfl))); clear hK K
    refine Kr.relistL (l2 := #[true, true, true, true, true, true, true, false, true, false, false, true, true, false, false, false]) (by kernel_rfl) ?_
    exact nd4_18 y30 bn bq p4 n4 c4 H
  case pf4_8 =>
    intro Wd8 bn p4 n4 c4 H
    refine Kr.readyL (rs := [7, 10, 11]) (by kernel_rfl) (by simp) ?_
    refine Kr.AllL.cons rfl (fun K hK => ?_) ?_
    · go_simp
      go_at_call 38
      refine (of3_v y (Nat.lt_trans HY63.out (by decide)) _).mono ?_
      rintro e y31 ⟨p31, n31, c31, rfl, hr, hg⟩
      replace H := H.grow hg
      replace H := H.num hr.toNw
      clear hr hg
      (refine Kr.outL hK (a' := ?_) ?_ (fun _ => (H.sub [] rfl)) ?_; rotate_left; (focus ((try simp only [Kr.PT]); first | done | rfl))); clear hK K
      refine Kr.relistL (l2 := #[true, true, true, true, true, true, true, true, true, false, false, false, true, false, false, false]) (by kernel_rfl) ?_
      exact nd4_15 y31 bn p4 n4 c4 p31 n31 c31 H
    refine Kr.AllL.cons rfl (fun K hK => ?_) ?_
    · go_simp
      obtain ⟨y32, hy⟩ : ∃ y, Wd8.alloc (.cells #[.slice none 0 0] 24) = y := ⟨_, rfl⟩
      obtain ⟨bp, hb⟩ : ∃ b, Wd8.heap.size = b := ⟨_, rfl⟩
      rw [hy, hb]
      replace H := H.alloc hy hb rfl
      clear hy hb
      (refine Kr.outL hK (a' := ?_) ?_ (fun _ => (H.sub [] rfl)) ?_; rotate_left; (focus ((try simp only [Kr.PT]); first | done | rfl))); clear hK K
      refine Kr.relistL (l2 := #[true, true, true, true, true, true, true, false, true, false, true, false, true, false, false, false]) (by kernel_rfl) ?_
      exact nd4_17 y32 bn bp p4 n4 c4 (H.pickC [1, 0] (by decide) rfl)
    refine Kr.AllL.cons rfl (fun K hK => ?_) Kr.AllL.nil
    go_simp
    obtain ⟨y33, hy⟩ : ∃ y, Wd8.alloc (.cells #[.slice none 0 0] 24) = y := ⟨_, rfl⟩
    obtain ⟨bq, hb⟩ : ∃ b, Wd8.heap.size = b := ⟨_, rfl⟩
    rw [hy, hb]
    replace H := H.alloc hy hb rfl
    clear hy hb
    (refine Kr.outL hK (a' := ?_) ?_ (fun _ => (H.sub [] rfl)) ?_; rotate_left; (focus ((try simp only [Kr.PT]); first | done | rfl))); clear hK K
    refine Kr.relistL (l2 := #[true, true, true, true, true, true, true, false, true, false, false, true, true, false, false, false]) (by kernel_rfl) ?_
    exact nd4_18 y33 bn bq p4 n4 c4 (H.pickC [1, 0] (by decide) rfl)
  case pf4_9 =>
    intro Wd9 bq bp H
    refine Kr.readyL (rs := [3, 12]) (by kernel_rfl) (by simp) ?_
    refine Kr.AllL.cons rfl (fun K hK => ?_) ?_
    · go_simp
      go_at_call 38
      refine (of3_v x (Nat.lt_trans HX63.out (by decide)) _).mono ?_
      rintro e y34 ⟨p34, n34, c34, rfl, hr, hg⟩
      replace H := H.grow hg
      replace H := H.num hr.toNw
      clear hr hg
      (refine Kr.outL hK (a' := ?_) ?_ (fun _ => (H.sub [] rfl)) ?_; rotate_left; (focus ((try simp only [Kr.PT]); first | done | rfl))); clear hK K
      refine Kr.relistL (l2 := #[true, true, true, true, true, true, true, false, true, false, true, true, false, false, false, false]) (by kernel_rfl) ?_
      exact nd4_16 y34 bq bp p34 n34 c34 H
    refine Kr.AllL.cons rfl (fun K hK => ?_) Kr.AllL.nil
    go_simp
    obtain ⟨y35, hy⟩ : ∃ y, Wd9.alloc (.cells #[.slice none 0 0] 24) = y := ⟨_, rfl⟩
    obtain ⟨bn, hb⟩ : ∃ b, Wd9.heap.size = b := ⟨_, rfl⟩
    rw [hy, hb]
    replace H := H.alloc hy hb rfl
    clear hy hb
    (refine Kr.outL hK (a' := ?_) ?_ (fun _ => (H.sub [] rfl)) ?_; rotate_left; (focus ((try simp only [Kr.PT]); first | done | rfl))); clear hK K
    refine Kr.relistL (l2 := #[true, true, true, false, true, true, true, false, true, false, true, true, true, false, false, false]) (by kernel_rfl) ?_
    exact nd4_19 y35 bn bq bp H
  case pf4_10 =>
    intro Wd10 bn bp H
    refine Kr.readyL (rs := [3, 11]) (by kernel_rfl) (by simp) ?_
    refine Kr.AllL.cons rfl (fun K hK => ?_) ?_
    · go_simp
      go_at_call 38
      refine (of3_v x (Nat.lt_trans HX63.out (by decide)) _).mono ?_
      rintro e y36 ⟨p36, n36, c36, rfl, hr, hg⟩
      replace H := H.grow hg
      replace H := H.num hr.toNw
      clear hr hg
      (refine Kr.outL hK (a' := ?_) ?_ (fun _ => (H.sub [] rfl)) ?_; rotate_left; (focus ((try simp only [Kr.PT]); first | done | rfl))); clear hK K
      refine Kr.relistL (l2 := #[true, true, true, true, true, true, true, false, true, false, true, false, true, false, false, false]) (by kernel_rfl) ?_
      exact nd4_17 y36 bn bp p36 n36 c36 H
    refine Kr.AllL.cons rfl (fun K hK => ?_) Kr.AllL.nil
    go_simp
    obtain ⟨y37, hy⟩ : ∃ y, Wd10.alloc (.cells #[.slice none 0 0] 24) = y := ⟨_, rfl⟩
    obtain ⟨bq, hb⟩ : ∃ b, Wd10.heap.size = b := ⟨_, rfl⟩
    rw [hy, hb]
    replace H := H.alloc hy hb rfl
    clear hy hb
    (refine Kr.outL hK (a' := ?_) ?_ (fun _ => (H.sub [] rfl)) ?_; rotate_left; (focus ((try simp only [Kr.PT]); first | done | rfl))); clear hK K
    refine Kr.relistL (l2 := #[true, true, true, false, true, true, true, false, true, false, true, true, true, false, false, false]) (by kernel_rfl) ?_
    exact nd4_19 y37 bn bq bp (H.pickC [1, 0, 2] (by decide) rfl)
  case pf4_11 =>
    intro Wd11 bn bq H
    refine Kr.readyL (rs := [3, 10]) (by kernel_rfl) (by simp) ?_
    refine Kr.AllL.cons rfl (fun K hK => ?_) ?_
    · go_simp
      go_at_call 38
      refine (of3_v x (Nat.lt_trans HX63.out (by decide)) _).mono ?_
      rintro e y38 ⟨p38, n38, c38, rfl, hr, hg⟩
      replace H := H.grow hg
      replace H := H.num hr.toNw
      clear hr hg
      (refine Kr.outL hK (a' := ?_) ?_ (fun _ => (H.sub [] rfl)) ?_; rotate_left; (focus ((try simp only [Kr.PT]); first | done | rfl))); clear hK K
      refine Kr.relistL (l2 := #[true, true, true, true, true, true, true, false, true, false, false, true, true, false, false, false]) (by kernel_rfl) ?_
      exact nd4_18 y38 bn bq p38 n38 c38 H
    refine Kr.AllL.cons rfl (fun K hK => ?_) Kr.AllL.nil
    go_simp
    obtain ⟨y39, hy⟩ : ∃ y, Wd11.alloc (.cells #[.slice none 0 0] 24) = y := ⟨_, rfl⟩
    obtain ⟨bp, hb⟩ : ∃ b, Wd11.heap.size = b := ⟨_, rfl⟩
    rw [hy, hb]
    replace H := H.alloc hy hb rfl
    clear hy hb
    (refine Kr.outL hK (a' := ?_) ?_ (fun _ => (H.sub [] rfl)) ?_; rotate_left; (focus ((try simp only [Kr.PT]); first | done | rfl))); clear hK K
    refine Kr.relistL (l2 := #[true, true, true, false, true, true, true, false, true, false, true, true, true, false, false, false]) (by kernel_rfl) ?_
    exact nd4_19 y39 bn bq bp (H.pickC [1, 2, 0] (by decide) rfl)
  case pf4_12 =>
    intro Wd12 p4 n4 c4 p8 n8 c8 p21 n21 c21 H
    refine Kr.readyL (rs := [10, 11, 12]) (by kernel_rfl) (by simp) ?_
    refine Kr.AllL.cons rfl (fun K hK => ?_) ?_
    · go_simp
      obtain ⟨y40, hy⟩ : ∃ y, Wd12.alloc (.cells #[.slice none 0 0] 24) = y := ⟨_, rfl⟩
      obtain ⟨bp, hb⟩ : ∃ b, Wd12.heap.size = b := ⟨_, rfl⟩
      rw [hy, hb]
      replace H := H.alloc hy hb rfl
      clear hy hb
      (refine Kr.outL hK (a' := ?_) ?_ (fun _ => (H.sub [] rfl)) ?_; rotate_left; (focus ((try simp only [Kr.PT]); first | done | rfl))); clear hK K
      refine Kr.relistL (l2 := #[true, true, true, true, true, true, true, true, true, true, true, false, false, false, false, false]) (by kernel_rfl) ?_
      exact nd4_20 y40 bp p4 n4 c4 p8 n8 c8 p21 n21 c21 H
    refine Kr.AllL.cons rfl (fun K hK => ?_) ?_
    · go_simp
      obtain ⟨y41, hy⟩ : ∃ y, Wd12.alloc (.cells #[.slice none 0 0] 24) = y := ⟨_, rfl⟩
      obtain ⟨bq, hb⟩ : ∃ b, Wd12.heap.size = b := ⟨_, rfl⟩
      rw [hy, hb]
      replace H := H.alloc hy hb rfl
      clear hy hb
      (refine Kr.outL hK (a' := ?_) ?_ (fun _ => (H.sub [] rfl)) ?_; rotate_left; (focus ((try simp only [Kr.PT]); first | done | rfl))); clear hK K
      refine Kr.relistL (l2 := #[true, true, true, true, true, true, true, true, true, true, false, true, false, false, false, false]) (by kernel_rfl) ?_
      exact nd4_21 y41 bq p4 n4 c4 p8 n8 c8 p21 n21 c21 H
    refine Kr.AllL.cons rfl (fun K hK => ?_) Kr.AllL.nil
    go_simp
    obtain ⟨y42, hy⟩ : ∃ y, Wd12.alloc (.cells #[.slice none 0 0] 24) = y := ⟨_, rfl⟩
    obtain ⟨bn, hb⟩ : ∃ b, Wd12.heap.size = b := ⟨_, rfl⟩
    rw [hy, hb]
    replace H := H.alloc hy hb rfl
    clear hy hb
    (refine Kr.outL hK (a' := ?_) ?_ (fun _ => (H.sub [] rfl)) ?_; rotate_left; (focus ((try simp only [Kr.PT]); first | done | rfl))); clear hK K
    refine Kr.relistL (l2 := #[true, true, true, true, true, true, true, true, true, true, false, false, true, false, false, false]) (by kernel_rfl) ?_
    exact nd4_22 y42 bn p4 n4 c4 p8 n8 c8 p21 n21 c21 H
  case pf4_13 =>
    intro Wd13 bp p4 n4 c4 p8 n8 c8 H
    refine Kr.readyL (rs := [9, 11, 12]) (by kernel_rfl) (by simp) ?_
    refine Kr.AllL.cons rfl (fun K hK => ?_) ?_
    · go_simp
      go_at_call 38
      refine (of3_v m (Nat.lt_trans HM63.out (by decide)) _).mono ?_
      rintro e y43 ⟨p43, n43, c43, rfl, hr, hg⟩
      replace H := H.grow hg
      replace H := H.num hr.toNw
      clear hr hg
      (refine Kr.outL hK (a' := ?_) ?_ (fun _ => (H.sub [] rfl)) ?_; rotate_left; (focus ((try simp only [Kr.PT]); first | done | rfl))); clear hK K
      refine Kr.relistL (l2 := #[true, true, true, true, true, true, true, true, true, true, true, false, false, false, false, false]) (by kernel_rfl) ?_
      exact nd4_20 y43 bp p4 n4 c4 p8 n8 c8 p43 n43 c43 H
    refine Kr.AllL.cons rfl (fun K hK => ?_) ?_
    · go_simp
      obtain ⟨y44, hy⟩ : ∃ y, Wd13.alloc (.cells #[.slice none 0 0] 24) = y := ⟨_, rfl⟩
      obtain ⟨bq, hb⟩ : ∃ b, Wd13.heap.size = b := ⟨_, rfl⟩
      rw [hy, hb]
      replace H := H.alloc hy hb rfl
      clear hy hb
      (refine Kr.outL hK (a' := ?_) ?_ (fun _ => (H.sub [] rfl)) ?_; rotate_left; (focus ((try simp only [Kr.PT]); first | done | rfl))); clear hK K
      refine Kr.relistL (l2 := #[true, true, true, true, true, true, true, true, true, false, true, true, false, false, false, false]) (by kernel_rfl) ?_
      exact nd4_23 y44 bq bp p4 n4 c4 p8 n8 c8 H
    refine Kr.AllL.cons rfl (fun K hK => ?_) Kr.AllL.nil
    go_simp
    obtain ⟨y45, hy⟩ : ∃ y, Wd13.alloc (.cells #[.slice none 0 0] 24) = y := ⟨_, rfl⟩
    obtain ⟨bn, hb⟩ : ∃ b, Wd13.heap.size = b := ⟨_, rfl⟩
    rw [hy, hb]
    replace H := H.alloc hy hb rfl
    clear hy hb
    (refine Kr.outL hK (a' := ?_) ?_ (fun _ => (H.sub [] rfl)) ?_; rotate_left; (focus ((try simp only [Kr.PT]); first | done | rfl))); clear hK K
    refine Kr.relistL (l2 := #[true, true, true, true, true, true, true, true, true, false, true, false, true, false, false, false]) (by kernel_rfl) ?_
    exact nd4_24 y45 bn bp p4 n4 c4 p8 n8 c8 H
  case pf4_14 =>
    intro Wd14 bq p4 n4 c4 p8 n8 c8 H
    refine Kr.readyL (rs := [9, 10, 12]) (by kernel_rfl) (by simp) ?_
    refine Kr.AllL.cons rfl (fun K hK => ?_) ?_
    · go_simp
      go_at_call 38
      refine (of3_v m (Nat.lt_trans HM63.out (by decide)) _).mono ?_
      rintro e y46 ⟨p46, n46, c46, rfl, hr, hg⟩
      replace H := H.grow hg
      replace H := H.num hr.toNw
      clear hr hg
      (refine Kr.outL hK (a' := ?_) ?_ (fun _ => (H.sub [] rfl)) ?_; rotate_left; (focus ((try simp only [Kr.PT]); first | done | rfl))); clear hK K
      refine Kr.relistL (l2 := #[true, true, true, true, true, true, true, true, true, true, false, true, false, false, false, false]) (by kernel_rfl) ?_
      exact nd4_21 y46 bq p4 n4 c4 p8 n8 c8 p46 n46 c46 H
    refine Kr.AllL.cons rfl (fun K hK => ?_) ?_
    · go_simp
      obtain ⟨y47, hy⟩ : ∃ y, Wd14.alloc (.cells #[.slice none 0 0] 24) = y := ⟨_, rfl⟩
      obtain ⟨bp, hb⟩ : ∃ b, Wd14.heap.size = b := ⟨_, rfl⟩
      rw [hy, hb]
      replace H := H.alloc hy hb rfl
      clear hy hb
      (refine Kr.outL hK (a' := ?_) ?_ (fun _ => (H.sub [] rfl)) ?_; rotate_left; (focus ((try simp only [Kr.PT]); first | done | rfl))); clear hK K
      refine Kr.relistL (l2 := #[true, true, true, true, true, true, true, true, true, false, true, true, false, false, false, false]) (by kernel_rfl) ?_
      exact nd4_23 y47 bq bp p4 n4 c4 p8 n8 c8 (H.pickC [1, 0] (by decide) rfl)
    refine Kr.AllL.cons rfl (fun K hK => ?_) Kr.AllL.nil
    go_simp
    obtain ⟨y48, hy⟩ : ∃ y, Wd14.alloc (.cells #[.slice none 0 0] 24) = y := ⟨_, rfl⟩
    obtain ⟨bn, hb⟩ : ∃ b, Wd14.heap.size = b := ⟨_, rfl⟩
    rw [hy, hb]
    replace H := H.alloc hy hb rfl
    clear hy hb
    (refine Kr.outL hK (a' := ?_) ?_ (fun _ => (H.sub [] rfl)) ?_; rotate_left; (focus ((try simp only [Kr.PT]); first | done | rfl))); clear hK K
    refine Kr.relistL (l2 := #[true, true, true, true, true, true, true, true, true, false, false, true, true, false, false, false]) (by kernel_rfl) ?_
    exact nd4_25 y48 bn bq p4 n4 c4 p8 n8 c8 H
  case pf4_15 =>
    intro Wd15 bn p4 n4 c4 p8 n8 c8 H
    refine Kr.readyL (rs := [9, 10, 11]) (by kernel_rfl) (by simp) ?_
    refine Kr.AllL.cons rfl (fun K hK => ?_) ?_
    · go_simp
      go_at_call 38
      refine (of3_v m (Nat.lt_trans HM63.out (by decide)) _).mono ?_
      rintro e y49 ⟨p49, n49, c49, rfl, hr, hg⟩
      replace H := H.grow hg
      replace H := H.num hr.toNw
      clear hr hg
      (refine Kr.outL hK (a' := ?_) ?_ (fun _ => (H.sub [] rfl)) ?_; rotate_left; (focus ((try simp only [Kr.PT]); first | done | rfl))); clear hK K
      refine Kr.relistL (l2 := #[true, true, true, true, true, true, true, true, true, true, false, false, true, false, false, false]) (by kernel_rfl) ?_
      exact nd4_22 y49 bn p4 n4 c4 p8 n8 c8 p49 n49 c49 H
    refine Kr.AllL.cons rfl (fun K hK => ?_) ?_
    · go_simp
      obtain ⟨y50, hy⟩ : ∃ y, Wd15.alloc (.cells #[.slice none 0 0] 24) = y := ⟨_, rfl⟩
      obtain ⟨bp, hb⟩ : ∃ b, Wd15.heap.size = b := ⟨_, rfl⟩
      rw [hy, hb]
      replace H := H.alloc hy hb rfl
      clear hy hb
      (refine Kr.outL hK (a' := ?_) ?_ (fun _ => (H.sub [] rfl)) ?_; rotate_left; (focus ((try simp only [Kr.PT]); first | done | rfl))); clear hK K
      refine Kr.relistL (l2 := #[true, true, true, true, true, true, true, true, true, false, true, false, true, false, false, false]) (by kernel_rfl) ?_
      exact nd4_24 y50 bn bp p4 n4 c4 p8 n8 c8 (H.pickC [1, 0] (by decide) rfl)
    refine Kr.AllL.cons rfl (fun K hK => ?_) Kr.AllL.nil
    go_simp
    obtain ⟨y51, hy⟩ : ∃ y, Wd15.alloc (.cells #[.slice none 0 0] 24) = y := ⟨_, rfl⟩
    obtain ⟨bq, hb⟩ : ∃ b, Wd15.heap.size = b := ⟨_, rfl⟩
    rw [hy, hb]
    replace H := H.alloc hy hb rfl
    clear hy hb
    (refine Kr.outL hK (a' := ?_) ?_ (fun _ => (H.sub [] rfl)) ?_; rotate_left; (focus ((try simp only [Kr.PT]); first | done | rfl))); clear hK K
    refine Kr.relistL (l2 := #[true, true, true, true, true, true, true, true, true, false, false, true, true, false, false, false]) (by kernel_rfl) ?_
    exact nd4_25 y51 bn bq p4 n4 c4 p8 n8 c8 (H.pickC [1, 0] (by decide) rfl)
  case pf4_16 =>
    intro Wd16 bq bp p4 n4 c4 H
    refine Kr.readyL (rs := [7, 12]) (by kernel_rfl) (by simp) ?_
    refine Kr.AllL.cons rfl (fun K hK => ?_) ?_
    · go_simp
      go_at_call 38
      refine (of3_v y (Nat.lt_trans HY63.out (by decide)) _).mono ?_
      rintro e y52 ⟨p52, n52, c52, rfl, hr, hg⟩
      replace H := H.grow hg
      replace H := H.num hr.toNw
      clear hr hg
      (refine Kr.outL hK (a' := ?_) ?_ (fun _ => (H.sub [] rfl)) ?_; rotate_left; (focus ((try simp only [Kr.PT]); first | done | rfl))); clear hK K
      refine Kr.relistL (l2 := #[true, true, true, true, true, true, true, true, true, false, true, true, false, false, false, false]) (by kernel_rfl) ?_
      exact nd4_23 y52 bq bp p4 n4 c4 p52 n52 c52 H
    refine Kr.AllL.cons rfl (fun K hK => ?_) Kr.AllL.nil
    go_simp
    obtain ⟨y53, hy⟩ : ∃ y, Wd16.alloc (.cells #[.slice none 0 0] 24) = y := ⟨_, rfl⟩
    obtain ⟨bn, hb⟩ : ∃ b, Wd16.heap.size = b := ⟨_, rfl⟩
    rw [hy, hb]
    replace H := H.alloc hy hb rfl
    clear hy hb
    (refine Kr.outL hK (a' := ?_) ?_ (fun _ => (H.sub [] rfl)) ?_; rotate_left; (focus ((try simp only [Kr.PT]); first | done | rfl))); clear hK K
    refine Kr.relistL (l2 := #[true, true, true, true, true, true, true, false, true, false, true, true, true, false, false, false]) (by kernel_rfl) ?_
    exact nd4_26 y53 bn bq bp p4 n4 c4 H
  case pf4_17 =>
    intro Wd17 bn bp p4 n4 c4 H
    refine Kr.readyL (rs := [7, 11]) (by kernel_rfl) (by simp) ?_
    refine Kr.AllL.cons rfl (fun K hK => ?_) ?_
    · go_simp
      go_at_call 38
      refine (of3_v y (Nat.lt_trans HY63.out (by decide)) _).mono ?_
      rintro e y54 ⟨p54, n54, c54, rfl, hr, hg⟩
      replace H := H.grow hg
      replace H := H.num hr.toNw
      clear hr hg
      (refine Kr.outL hK (a' := ?_) ?_ (fun _ => (H.sub [] rfl)) ?_; rotate_left; (focus ((try simp only [Kr.PT]); first | done | rfl))); clear hK K
      refine Kr.relistL (l2 := #[true, true, true, true, true, true, true, true, true, false, true, false, true, false, false, false]) (by kernel_rfl) ?_
      exact nd4_24 y54 bn bp p4 n4 c4 p54 n54 c54 H
    refine Kr.AllL.cons rfl (fun K hK => ?_) Kr.AllL.nil
    go_simp
    obtain ⟨y55, hy⟩ : ∃ y, Wd17.alloc (.cells #[.slice none 0 0] 24) = y := ⟨_, rfl⟩
    obtain ⟨bq, hb⟩ : ∃ b, Wd17.heap.size = b := ⟨_, rfl⟩
    rw [hy, hb]
    replace H := H.alloc hy hb rfl
    clear hy hb
    (refine Kr.outL hK (a' := ?_) ?_ (fun _ => (H.sub [] rfl)) ?_; rotate_left; (focus ((try simp only [Kr.PT]); first | done | rfl))); clear hK K
    refine Kr.relistL (l2 := #[true, true, true, true, true, true, true, false, true, false, true, true, true, false, false, false]) (by kernel_rfl) ?_
    exact nd4_26 y55 bn bq bp p4 n4 c4 (H.pickC [1, 0, 2] (by decide) rfl)
  case pf4_18 =>
    intro Wd18 bn bq p4 n4 c4 H
    refine Kr.readyL (rs := [7, 10]) (by kernel_rfl) (by simp) ?_
    refine Kr.AllL.cons rfl (fun K hK => ?_) ?_
    · go_simp
      go_at_call 38
      refine (of3_v y (Nat.lt_trans HY63.out (by decide)) _).mono ?_
      rintro e y56 ⟨p56, n56, c56, rfl, hr, hg⟩
      replace H := H.grow hg
      replace H := H.num hr.toNw
      clear hr hg
      (refine Kr.outL hK (a' := ?_) ?_ (fun _ => (H.sub [] rfl)) ?_; rotate_left; (focus ((try simp only [Kr.PT]); first | done | rfl))); clear hK K
      refine Kr.relistL (l2 := #[true, true, true, true, true, true, true, true, true, false, false, true, true, false, false, false]) (by kernel_rfl) ?_
      exact nd4_25 y56 bn bq p4 n4 c4 p56 n56 c56 H
    refine Kr.AllL.cons rfl (fun K hK => ?_) Kr.AllL.nil
    go_simp
    obtain ⟨y57, hy⟩ : ∃ y, Wd18.alloc (.cells #[.slice none 0 0] 24) = y := ⟨_, rfl⟩
    obtain ⟨bp, hb⟩ : ∃ b, Wd18.heap.size = b := ⟨_, rfl⟩
    rw [hy, hb]
    replace H := H.alloc hy hb rfl
    clear hy hb
    (refine Kr.outL hK (a' := ?_) ?_ (fun _ => (H.sub [] rfl)) ?_; rotate_left; (focus ((try simp only [Kr.PT]); first | done | rfl))); clear hK K
    refine Kr.relistL (l2 := #[true, true, true, true, true, true, true, false, true, false, true, true, true, false, false, false]) (by kernel_rfl) ?_
    exact nd4_26 y57 bn bq bp p4 n4 c4 (H.pickC [1, 2, 0] (by decide) rfl)
  case pf4_19 =>
    intro Wd19 bn bq bp H
    refine Kr.readyL (rs := [3]) (by kernel_rfl) (by simp) ?_
    refine Kr.AllL.cons rfl (fun K hK => ?_) Kr.AllL.nil
    go_simp
    go_at_call 38
    refine (of3_v x (Nat.lt_trans HX63.out (by decide)) _).mono ?_
    rintro e y58 ⟨p58, n58, c58, rfl, hr, hg⟩
    replace H := H.grow hg
    replace H := H.num hr.toNw
    clear hr hg
    (refine Kr.outL hK (a' := ?_) ?_ (fun _ => (H.sub [] rfl)) ?_; rotate_left; (focus ((try simp only [Kr.PT]); first | done | rfl))); clear hK K
    refine Kr.relistL (l2 := #[true, true, true, true, true, true, true, false, true, false, true, true, true, false, false, false]) (by kernel_rfl) ?_
    exact nd4_26 y58 bn bq bp p58 n58 c58 H
  case pf4_20 =>
    intro Wd20 bp p4 n4 c4 p8 n8 c8 p21 n21 c21 H
    refine Kr.readyL (rs := [11, 12]) (by kernel_rfl) (by simp) ?_
    refine Kr.AllL.cons rfl (fun K hK => ?_) ?_
    · go_simp
      obtain ⟨y59, hy⟩ : ∃ y, Wd20.alloc (.cells #[.slice none 0 0] 24) = y := ⟨_, rfl⟩
      obtain ⟨bq, hb⟩ : ∃ b, Wd20.heap.size = b := ⟨_, rfl⟩
      rw [hy, hb]
      replace H := H.alloc hy hb rfl
      clear hy hb
      (refine Kr.outL hK (a' := ?_) ?_ (fun _ => (H.sub [] rfl)) ?_; rotate_left; (focus ((try simp only [Kr.PT]); first | done | rfl))); clear hK K
      refine Kr.relistL (l2 := #[true, true, true, true, true, true, true, true, true, true, true, true, false, false, false, false]) (by kernel_rfl) ?_
      exact nd4_27 y59 bq bp p4 n4 c4 p8 n8 c8 p21 n21 c21 H
    refine Kr.AllL.cons rfl (fun K hK => ?_) Kr.AllL.nil
    go_simp
    obtain ⟨y60, hy⟩ : ∃ y, Wd20.alloc (.cells #[.slice none 0 0] 24) = y := ⟨_, rfl⟩
    obtain ⟨bn, hb⟩ : ∃ b, Wd20.heap.size = b := ⟨_, rfl⟩
    rw [hy, hb]
    replace H := H.alloc hy hb rfl
    clear hy hb
    (refine Kr.outL hK (a' := ?_) ?_ (fun _ => (H.sub [] rfl)) ?_; rotate_left; (focus ((try simp only [Kr.PT]); first | done | rfl))); clear hK K
    refine Kr.relistL (l2 := #[true, true, true, true, true, true, true, true, true, true, true, false, true, false, false, false]) (by kernel_rfl) ?_
    exact nd4_28 y60 bn bp p4 n4 c4 p8 n8 c8 p21 n21 c21 H
  case pf4_21 =>
    intro Wd21 bq p4 n4 c4 p8 n8 c8 p21 n21 c21 H
    refine Kr.readyL (rs := [10, 12]) (by kernel_rfl) (by simp) ?_
    refine Kr.AllL.cons rfl (fun K hK => ?_) ?_
    · go_simp
      obtain ⟨y61, hy⟩ : ∃ y, Wd21.alloc (.cells #[.slice none 0 0] 24) = y := ⟨_, rfl⟩
      obtain ⟨bp, hb⟩ : ∃ b, Wd21.heap.size = b := ⟨_, rfl⟩
      rw [hy, hb]
      replace H := H.alloc hy hb rfl
      clear hy hb
      (refine Kr.outL hK (a' := ?_) ?_ (fun _ => (H.sub [] rfl)) ?_; rotate_left; (focus ((try simp only [Kr.PT]); first | done | rfl))); clear hK K
      refine Kr.relistL (l2 := #[true, true, true, true, true, true, true, true, true, true, true, true, false, false, false, false]) (by kernel_rfl) ?_
      exact nd4_27 y61 bq bp p4 n4 c4 p8 n8 c8 p21 n21 c21 (H.pickC [1, 0] (by decide) rfl)
    refine Kr.AllL.cons rfl (fun K hK => ?_) Kr.AllL.nil
    go_simp
    obtain ⟨y62, hy⟩ : ∃ y, Wd21.alloc (.cells #[.slice none 0 0] 24) = y := ⟨_, rfl⟩
    obtain ⟨bn, hb⟩ : ∃ b, Wd21.heap.size = b := ⟨_, rfl⟩
    rw [hy, hb]
    replace H := H.alloc hy hb rfl
    clear hy hb
    (refine Kr.outL hK (a' := ?_) ?_ (fun _ => (H.sub [] rfl)) ?_; rotate_left; (focus ((try simp only [Kr.PT]); first | done | rfl))); clear hK K
    refine Kr.relistL (l2 := #[true, true, true, true, true, true, true, true, true, true, false, true, true, false, false, false]) (by kernel_rfl) ?_
    exact nd4_29 y62 bn bq p4 n4 c4 p8 n8 c8 p21 n21 c21 H
  case pf4_22 =>
    intro Wd22 bn p4 n4 c4 p8 n8 c8 p21 n21 c21 H
    refine Kr.readyL (rs := [10, 11]) (by kernel_rfl) (by simp) ?_
    refine Kr.AllL.cons rfl (fun K hK => ?_) ?_
    · go_simp
      obtain ⟨y63, hy⟩ : ∃ y, Wd22.alloc (.cells #[.slice none 0 0] 24) = y := ⟨_, rfl⟩
      obtain ⟨bp, hb⟩ : ∃ b, Wd22.heap.size = b := ⟨_, rfl⟩
      rw [hy, hb]
      replace H := H.alloc hy hb rfl
      clear hy hb
      (refine Kr.outL hK (a' := ?_) ?_ (fun _ => (H.sub [] rfl)) ?_; rotate_left; (focus ((try simp only [Kr.PT]); first | done | rfl))); clear hK K
      refine Kr.relistL (l2 := #[true, true, true, true, true, true, true, true, true, true, true, false, true, false, false, false]) (by kernel_rfl) ?_
      exact nd4_28 y63 bn bp p4 n4 c4 p8 n8 c8 p21 n21 c21 (H.pickC [1, 0] (by decide) rfl)
    refine Kr.AllL.cons rfl (fun K hK => ?_) Kr.AllL.nil
    go_simp
    obtain ⟨y64, hy⟩ : ∃ y, Wd22.alloc (.cells #[.slice none 0 0] 24) = y := ⟨_, rfl⟩
    obtain ⟨bq, hb⟩ : ∃ b, Wd22.heap.size = b := ⟨_, rfl⟩
    rw [hy, hb]
    replace H := H.alloc hy hb rfl
    clear hy hb
    (refine Kr.outL hK (a' := ?_) ?_ (fun _ => (H.sub [] rfl)) ?_; rotate_left; (focus ((try simp only [Kr.PT]); first | done | rfl))); clear hK K
    refine Kr.relistL (l2 := #[true, true, true, true, true, true, true, true, true, true, false, true, true, false, false, false]) (by kernel_rfl) ?_
    exact nd4_29 y64 bn bq p4 n4 c4 p8 n8 c8 p21 n21 c21 (H.pickC [1, 0] (by decide) rfl)
  case pf4_23 =>
    intro Wd23 bq bp p4 n4 c4 p8 n8 c8 H
    refine Kr.readyL (rs := [9, 12]) (by kernel_rfl) (by simp) ?_
    refine Kr.AllL.cons rfl (fun K hK => ?_) ?_
    · go_simp
      go_at_call 38
      refine (of3_v m (Nat.lt_trans HM63.out (by decide)) _).mono ?_
      rintro e y65 ⟨p65, n65, c65, rfl, hr, hg⟩
      replace H := H.grow hg
      replace H := H.num hr.toNw
      clear hr hg
      (refine Kr.outL hK (a' := ?_) ?_ (fun _ => (H.sub [] rfl)) ?_; rotate_left; (focus ((try simp only [Kr.PT]); first | done | rfl))); clear hK K
      refine Kr.relistL (l2 := #[true, true, true, true, true, true, true, true, true, true, true, true, false, false, false, false]) (by kernel_rfl) ?_
      exact nd4_27 y65 bq bp p4 n4 c4 p8 n8 c8 p65 n65 c65 H
    refine Kr.AllL.cons rfl (fun K hK => ?_) Kr.AllL.nil
    go_simp
    obtain ⟨y66, hy⟩ : ∃ y, Wd23.alloc (.cells #[.slice none 0 0] 24) = y := ⟨_, rfl⟩
    obtain ⟨bn, hb⟩ : ∃ b, Wd23.heap.size = b := ⟨_, rfl⟩
    rw [hy, hb]
    replace H := H.alloc hy hb rfl
    clear hy hb
    (refine Kr.outL hK (a' := ?_) ?_ (fun _ => (H.sub [] rfl)) ?_; rotate_left; (focus ((try simp only [Kr.PT]); first | done | rfl))); clear hK K
    refine Kr.relistL (l2 := #[true, true, true, true, true, true, true, true, true, false, true, true, true, false, false, false]) (by kernel_rfl) ?_
    exact nd4_30 y66 bn bq bp p4 n4 c4 p8 n8 c8 H
  case pf4_24 =>
    intro Wd24 bn bp p4 n4 c4 p8 n8 c8 H
    refine Kr.readyL (rs := [9, 11]) (by kernel_rfl) (by simp) ?_
    refine Kr.AllL.cons rfl (fun K hK => ?_) ?_
    · go_simp
      go_at_call 38
      refine (of3_v m (Nat.lt_trans HM63.out (by decide)) _).mono ?_
      rintro e y67 ⟨p67, n67, c67, rfl, hr, hg⟩
      replace H := H.grow hg
      replace H := H.num hr.toNw
      clear hr hg
      (refine Kr.outL hK (a' := ?_) ?_ (fun _ => (H.sub [] rfl)) ?_; rotate_left; (focus ((try simp only [Kr.PT]); first | done | rfl))); clear hK K
      refine Kr.relistL (l2 := #[true, true, true, true, true, true, true, true, true, true, true, false, true, false, false, false]) (by kernel_rfl) ?_
      exact nd4_28 y67 bn bp p4 n4 c4 p8 n8 c8 p67 n67 c67 H
    refine Kr.AllL.cons rfl (fun K hK => ?_) Kr.AllL.nil
    go_simp
    obtain ⟨y68, hy⟩ : ∃ y, Wd24.alloc (.cells #[.slice none 0 0] 24) = y := ⟨_, rfl⟩
    obtain ⟨bq, hb⟩ : ∃ b, Wd24.heap.size = b := ⟨_, rfl⟩
    rw [hy, hb]
    replace H := H.alloc hy hb rfl
    clear hy hb
    (refine Kr.outL hK (a' := ?_) ?_ (fun _ => (H.sub [] rfl)) ?_; rotate_left; (focus ((try simp only [Kr.PT]); first | done | rfl))); clear hK K
    refine Kr.relistL (l2 := #[true, true, true, true, true, true, true, true, true, false, true, true, true, false, false, false]) (by kernel_rfl) ?_
    exact nd4_30 y68 bn bq bp p4 n4 c4 p8 n8 c8 (H.pickC [1, 0, 2] (by decide) rfl)
  case pf4_25 =>
    intro Wd25 bn bq p4 n4 c4 p8 n8 c8 H
    refine Kr.readyL (rs := [9, 10]) (by kernel_rfl) (by simp) ?_
    refine Kr.AllL.cons rfl (fun K hK => ?_) ?_
    · go_simp
      go_at_call 38
      refine (of3_v m (Nat.lt_trans HM63.out (by decide)) _).mono ?_
      rintro e y69 ⟨p69, n69, c69, rfl, hr, hg⟩
      replace H := H.grow hg
      replace H := H.num hr.toNw
      clear hr hg
      (refine Kr.outL hK (a' := ?_) ?_ (fun _ => (H.sub [] rfl)) ?_; rotate_left; (focus ((try simp only [Kr.PT]); first | done | rfl))); clear hK K
      refine Kr.relistL (l2 := #[true, true, true, true, true, true, true, true, true, true, false, true, true, false, false, false]) (by kernel_rfl) ?_
      exact nd4_29 y69 bn bq p4 n4 c4 p8 n8 c8 p69 n69 c69 H
    refine Kr.AllL.cons rfl (fun K hK => ?_) Kr.AllL.nil
    go_simp
    obtain ⟨y70, hy⟩ : ∃ y, Wd25.alloc (.cells #[.slice none 0 0] 24) = y := ⟨_, rfl⟩
    obtain ⟨bp, hb⟩ : ∃ b, Wd25.heap.size = b := ⟨_, rfl⟩
    rw [hy, hb]
    replace H := H.alloc hy hb rfl
    clear hy hb
    (refine Kr.outL hK (a' := ?_) ?_ (fun _ => (H.sub [] rfl)) ?_; rotate_left; (focus ((try simp only [Kr.PT]); first | done | rfl))); clear hK K
    refine Kr.relistL (l2 := #[true, true, true, true, true, true, true, true, true, false, true, true, true, false, false, false]) (by kernel_rfl) ?_
    exact nd4_30 y70 bn bq bp p4 n4 c4 p8 n8 c8 (H.pickC [1, 2, 0] (by decide) rfl)
  case pf4_26 =>
    intro Wd26 bn bq bp p4 n4 c4 H
    refine Kr.readyL (rs := [7]) (by kernel_rfl) (by simp) ?_
    refine Kr.AllL.cons rfl (fun K hK => ?_) Kr.AllL.nil
    go_simp
    go_at_call 38
    refine (of3_v y (Nat.lt_trans HY63.out (by decide)) _).mono ?_
    rintro e y71 ⟨p71, n71, c71, rfl, hr, hg⟩
    replace H := H.grow hg
    replace H := H.num hr.toNw
    clear hr hg
    (refine Kr.outL hK (a' := ?_) ?_ (fun _ => (H.sub [] rfl)) ?_; rotate_left; (focus ((try simp only [Kr.PT]); first | done | rfl))); clear hK K
    refine Kr.relistL (l2 := #[true, true, true, true, true, true, true, true, true, false, true, true, true, false, false, false]) (by kernel_rfl) ?_
    exact nd4_30 y71 bn bq bp p4 n4 c4 p71 n71 c71 H
  case pf4_27 =>
    intro Wd27 bq bp p4 n4 c4 p8 n8 c8 p21 n21 c21 H
    refine Kr.readyL (rs := [12]) (by kernel_rfl) (by simp) ?_
    refine Kr.AllL.cons rfl (fun K hK => ?_) Kr.AllL.nil
    go_simp
    obtain ⟨y72, hy⟩ : ∃ y, Wd27.alloc (.cells #[.slice none 0 0] 24) = y := ⟨_, rfl⟩
    obtain ⟨bn, hb⟩ : ∃ b, Wd27.heap.size = b := ⟨_, rfl⟩
    rw [hy, hb]
    replace H := H.alloc hy hb rfl
    clear hy hb
    (refine Kr.outL hK (a' := ?_) ?_ (fun _ => (H.sub [] rfl)) ?_; rotate_left; (focus ((try simp only [Kr.PT]); first | done | rfl))); clear hK K
    refine Kr.relistL (l2 := #[true, true, true, true, true, true, true, true, true, true, true, true, true, false, false, false]) (by kernel_rfl) ?_
    exact nd4_31 y72 bn bq bp p4 n4 c4 p8 n8 c8 p21 n21 c21 H
  case pf4_28 =>
    intro Wd28 bn bp p4 n4 c4 p8 n8 c8 p21 n21 c21 H
    refine Kr.readyL (rs := [11]) (by kernel_rfl) (by simp) ?_
    refine Kr.AllL.cons rfl (fun K hK => ?_) Kr.AllL.nil
    go_simp
    obtain ⟨y73, hy⟩ : ∃ y, Wd28.alloc (.cells #[.slice none 0 0] 24) = y := ⟨_, rfl⟩
    obtain ⟨bq, hb⟩ : ∃ b, Wd28.heap.size = b := ⟨_, rfl⟩
    rw [hy, hb]
    replace H := H.alloc hy hb rfl
    clear hy hb
    (refine Kr.outL hK (a' := ?_) ?_ (fun _ => (H.sub [] rfl)) ?_; rotate_left; (focus ((try simp only [Kr.PT]); first | done | rfl))); clear hK K
    refine Kr.relistL (l2 := #[true, true, true, true, true, true, true, true, true, true, true, true, true, false, false, false]) (by kernel_rfl) ?_
    exact nd4_31 y73 bn bq bp p4 n4 c4 p8 n8 c8 p21 n21 c21 (H.pickC [1, 0, 2] (by decide) rfl)
  case pf4_29 =>
    intro Wd29 bn bq p4 n4 c4 p8 n8 c8 p21 n21 c21 H
    refine Kr.readyL (rs := [10]) (by kernel_rfl) (by simp) ?_
    refine Kr.AllL.cons rfl (fun K hK => ?_) Kr.AllL.nil
    go_simp
    obtain ⟨y74, hy⟩ : ∃ y, Wd29.alloc (.cells #[.slice none 0 0] 24) = y := ⟨_, rfl⟩
    obtain ⟨bp, hb⟩ : ∃ b, Wd29.heap.size = b := ⟨_, rfl⟩
    rw [hy, hb]
    replace H := H.alloc hy hb rfl
    clear hy hb
    (refine Kr.outL hK (a' := ?_) ?_ (fun _ => (H.sub [] rfl)) ?_; rotate_left; (focus ((try simp only [Kr.PT]); first | done | rfl))); clear hK K
    refine Kr.relistL (l2 := #[true, true, true, true, true, true, true, true, true, true, true, true, true, false, false, false]) (by kernel_rfl) ?_
    exact nd4_31 y74 bn bq bp p4 n4 c4 p8 n8 c8 p21 n21 c21 (H.pickC [1, 2, 0] (by decide) rfl)
  case pf4_30 =>
    intro Wd30 bn bq bp p4 n4 c4 p8 n8 c8 H
    refine Kr.readyL (rs := [9]) (by kernel_rfl) (by simp) ?_
    refine Kr.AllL.cons rfl (fun K hK => ?_) Kr.AllL.nil
    go_simp
    go_at_call 38
    refine (of3_v m (Nat.lt_trans HM63.out (by decide)) _).mono ?_
    rintro e y75 ⟨p75, n75, c75, rfl, hr, hg⟩
    replace H := H.grow hg
    replace H := H.num hr.toNw
    clear hr hg
    (refine Kr.outL hK (a' := ?_) ?_ (fun _ => (H.sub [] rfl)) ?_; rotate_left; (focus ((try simp only [Kr.PT]); first | done | rfl))); clear hK K
    refine Kr.relistL (l2 := #[true, true, true, true, true, true, true, true, true, true, true, true, true, false, false, false]) (by kernel_rfl) ?_
    exact nd4_31 y75 bn bq bp p4 n4 c4 p8 n8 c8 p75 n75 c75 H
  case pf4_31 =>
    intro Wd31 bn bq bp p4 n4 c4 p8 n8 c8 p21 n21 c21 H
    refine Kr.readyL (rs := [13]) (by kernel_rfl) (by simp) ?_
    refine Kr.AllL.cons rfl (fun K hK => ?_) Kr.AllL.nil
    have hk := H.c
    simp only [Kr.Cells] at hk
    go_simp
    clear hk
    obtain ⟨y76, hy⟩ : ∃ y, Wd31.setCell ⟨bp, 0, none⟩ (.slice p4 n4 c4) = y := ⟨_, rfl⟩
    rw [hy]
    replace H := H.store 2 hy rfl rfl
    dsimp only [List.set] at H
    clear hy
    (refine Kr.outL hK (a' := ?_) ?_ (fun _ => (H.sub [] rfl)) ?_; rotate_left; (focus ((try simp only [Kr.PT]); first | done | rfl))); clear hK K
    refine Kr.relistL (l2 := #[true, true, true, true, true, true, true, true, true, true, true, true, true, true, false, false]) (by kernel_rfl) ?_
    exact nd4_32 y76 bn bq bp p4 n4 c4 p8 n8 c8 p21 n21 c21 H
  case pf4_32 =>
    intro Wd32 bn bq bp p4 n4 c4 p8 n8 c8 p21 n21 c21 H
    refine Kr.readyL (rs := [14]) (by kernel_rfl) (by simp) ?_
    refine Kr.AllL.cons rfl (fun K hK => ?_) Kr.AllL.nil
    have hk := H.c
    simp only [Kr.Cells] at hk
    go_simp
    clear hk
    obtain ⟨y77, hy⟩ : ∃ y, Wd32.setCell ⟨bq, 0, none⟩ (.slice p8 n8 c8) = y := ⟨_, rfl⟩
    rw [hy]
    replace H := H.store 1 hy rfl rfl
    dsimp only [List.set] at H
    clear hy
    (refine Kr.outL hK (a' := ?_) ?_ (fun _ => (H.sub [] rfl)) ?_; rotate_left; (focus ((try simp only [Kr.PT]); first | done | rfl))); clear hK K
    refine Kr.relistL (l2 := #[true, true, true, true, true, true, true, true, true, true, true, true, true, true, true, false]) (by kernel_rfl) ?_
    exact nd4_33 y77 bn bq bp p4 n4 c4 p8 n8 c8 p21 n21 c21 H
  case pf4_33 =>
    intro Wd33 bn bq bp p4 n4 c4 p8 n8 c8 p21 n21 c21 H
    refine Kr.readyL (rs := [15]) (by kernel_rfl) (by simp) ?_
    refine Kr.AllL.cons rfl (fun K hK => ?_) Kr.AllL.nil
    have hk := H.c
    simp only [Kr.Cells] at hk
    go_simp
    clear hk
    obtain ⟨y78, hy⟩ : ∃ y, Wd33.setCell ⟨bn, 0, none⟩ (.slice p21 n21 c21) = y := ⟨_, rfl⟩
    rw [hy]
    replace H := H.store 0 hy rfl rfl
    dsimp only [List.set] at H
    clear hy
    (refine Kr.outL hK (a' := ?_) ?_ (fun _ => (H.sub [] rfl)) ?_; rotate_left; (focus ((try simp only [Kr.PT]); first | done | rfl))); clear hK K
    refine Kr.relistL (l2 := #[true, true, true, true, true, true, true, true, true, true, true, true, true, true, true, true]) (by kernel_rfl) ?_
    exact nd4_34 y78 bn bq bp p4 n4 c4 p8 n8 c8 p21 n21 c21 H
  case pf4_34 =>
    intro Wd34 bn bq bp p4 n4 c4 p8 n8 c8 p21 n21 c21 H
    refine Kr.doneL (by kernel_rfl) ?_ _
    go_upto_region 5 with fail
    refine Kr.seqStartW ?_
    (refine Kr.seqQ (v := ?_) (a' := ?_) (by rfl) ?_ ?_ ?_; rotate_left 2; (focus (go_simp; first | done | rfl)); (focus ((try simp only [Kr.PT]); first | done | rfl)))
    refine Kr.seqDoneW ?_
    go_upto_region 6 with fail
    refine Kr.seqStartW ?_
    iterate 3 (refine Kr.seqQ (v := ?_) (a' := ?_) (by rfl) ?_ ?_ ?_; rotate_left 2; (focus (go_simp; first | done | rfl)); (focus ((try simp only [Kr.PT]); first | done | rfl)))
    refine Kr.seqR (by rfl) (fun K hK => ?_)
    go_simp
    go_at_call 50
    refine (Ww.Add_ok x y m HX.out HY.out M61.out _).mono ?_
    rintro e wz ⟨rfl, rfl⟩
    (refine Kr.outS hK (a' := ?_) ?_ ?_; rotate_left; (focus ((try simp only [Kr.PT]); first | done | rfl))); clear hK K
    iterate 5 (refine Kr.seqQ (v := ?_) (a' := ?_) (by rfl) ?_ ?_ ?_; rotate_left 2; (focus (go_simp; first | done | rfl)); (focus ((try simp only [Kr.PT]); first | done | rfl)))
    refine Kr.seqDoneW ?_
    obtain ⟨z2, hz2⟩ : ∃ z2, (x + y) % m = z2 := ⟨_, rfl⟩
    have HZ2 := Lib.hid hz2; have HZ2L : Hid (z2 < 9223372036854775808) := Lib.hid (Nat.lt_trans (hz2 ▸ Nat.mod_lt _ M0.out) HM63.out)
    try rw [hz2]
    try rw [show ((x : Int) + (y : Int)) % (m : Int) = (z2 : Int) by rw [← hz2]; simp]
    clear hz2
    go_upto_region 7 with fail
    refine Kr.seqStartW ?_
    have hk := H.c
    simp only [Kr.Cells] at hk
    iterate 3 (refine Kr.seqQ (v := ?_) (a' := ?_) (by rfl) ?_ ?_ ?_; rotate_left 2; (focus (go_simp; first | done | rfl)); (focus ((try simp only [Kr.PT]); first | done | rfl)))
    refine Kr.seqR (by rfl) (fun K hK => ?_)
    go_simp
    go_at_call 20
    have hA := mAdd_v (H.nw 2 rfl) (H.nw 1 rfl) (H.nw 0 rfl) HX.out HY.out VM.out
    rw [HZ2.out] at hA
    refine (hA).mono ?_
    rintro e y79 ⟨p79, n79, c79, rfl, hr, hg⟩
    clear hk
    replace H := H.grow hg
    replace H := H.num hr.toNw
    clear hr hg
    clear hA
    (refine Kr.outS hK (a' := ?_) ?_ ?_; rotate_left; (focus ((try simp only [Kr.PT]); first | done | rfl))); clear hK K
    iterate 3 (refine Kr.seqQ (v := ?_) (a' := ?_) (by rfl) ?_ ?_ ?_; rotate_left 2; (focus (go_simp; first | done | rfl)); (focus ((try simp only [Kr.PT]); first | done | rfl)))
    refine Kr.seqR (by rfl) (fun K hK => ?_)
    go_simp
    obtain ⟨y80, hy⟩ : ∃ y, y79.alloc (.cells #[.slice none 0 0] 24) = y := ⟨_, rfl⟩
    obtain ⟨bs, hb⟩ : ∃ b, y79.heap.size = b := ⟨_, rfl⟩
    rw [hy, hb]
    replace H := H.alloc hy hb rfl
    clear hy hb
    (refine Kr.outS hK (a' := ?_) ?_ ?_; rotate_left; (focus ((try simp only [Kr.PT]); first | done | rfl))); clear hK K
    have hk := H.c
    simp only [Kr.Cells] at hk
    refine Kr.seqR (by rfl) (fun K hK => ?_)
    go_simp
    clear hk
    obtain ⟨y81, hy⟩ : ∃ y, y80.setCell ⟨bs, 0, none⟩ (.slice p79 n79 c79) = y := ⟨_, rfl⟩
    rw [hy]
    replace H := H.store 0 hy rfl rfl
    dsimp only [List.set] at H
    clear hy
    (refine Kr.outS hK (a' := ?_) ?_ ?_; rotate_left; (focus ((try simp only [Kr.PT]); first | done | rfl))); clear hK K
    (refine Kr.seqQ (v := ?_) (a' := ?_) (by rfl) ?_ ?_ ?_; rotate_left 2; (focus (go_simp; first | done | rfl)); (focus ((try simp only [Kr.PT]); first | done | rfl)))
    refine Kr.seqDoneW ?_
    go_upto_region 8 with fail
    refine Kr.seqStartW ?_
    iterate 3 (refine Kr.seqQ (v := ?_) (a' := ?_) (by rfl) ?_ ?_ ?_; rotate_left 2; (focus (go_simp; first | done | rfl)); (focus ((try simp only [Kr.PT]); first | done | rfl)))
    refine Kr.seqR (by rfl) (fun K hK => ?_)
    go_simp
    go_at_call 51
    refine (Ww.Mul_ok x y m HX.out HY.out M61.out _).mono ?_
    rintro e wz ⟨rfl, nz, rfl⟩
    have hg : Gr y81 (y81.drewN nz) := (Gr.refl _).drewN _
    generalize y81.drewN nz = y82 at hg ⊢
    replace H := H.grow hg
    clear hg
    (refine Kr.outS hK (a' := ?_) ?_ ?_; rotate_left; (focus ((try simp only [Kr.PT]); first | done | rfl))); clear hK K
    iterate 5 (refine Kr.seqQ (v := ?_) (a' := ?_) (by rfl) ?_ ?_ ?_; rotate_left 2; (focus (go_simp; first | done | rfl)); (focus ((try simp only [Kr.PT]); first | done | rfl)))
    refine Kr.seqDoneW ?_
    obtain ⟨z3, hz3⟩ : ∃ z3, x * y % m = z3 := ⟨_, rfl⟩
    have HZ3 := Lib.hid hz3; have HZ3L : Hid (z3 < 9223372036854775808) := Lib.hid (Nat.lt_trans (hz3 ▸ Nat.mod_lt _ M0.out) HM63.out)
    try rw [hz3]
    try rw [show (x : Int) * (y : Int) % (m : Int) = (z3 : Int) by rw [← hz3]; simp]
    clear hz3
    go_upto_region 9 with fail
    refine Kr.seqStartW ?_
    have hk := H.c
    simp only [Kr.Cells] at hk
    iterate 3 (refine Kr.seqQ (v := ?_) (a' := ?_) (by rfl) ?_ ?_ ?_; rotate_left 2; (focus (go_simp; first | done | rfl)); (focus ((try simp only [Kr.PT]); first | done | rfl)))
    refine Kr.seqR (by rfl) (fun K hK => ?_)
    go_simp
    go_at_call 26
    have hA := mMul_v (H.nw 3 rfl) (H.nw 2 rfl) (H.nw 1 rfl) HX.out HY.out VM.out
    rw [HZ3.out] at hA
    refine (hA).mono ?_
    rintro e y83 ⟨p83, n83, c83, rfl, hr, hg⟩
    clear hk
    replace H := H.grow hg
    replace H := H.num hr.toNw
    clear hr hg
    clear hA
    (refine Kr.outS hK (a' := ?_) ?_ ?_; rotate_left; (focus ((try simp only [Kr.PT]); first | done | rfl))); clear hK K
    iterate 3 (refine Kr.seqQ (v := ?_) (a' := ?_) (by rfl) ?_ ?_ ?_; rotate_left 2; (focus (go_simp; first | done | rfl)); (focus ((try simp only [Kr.PT]); first | done | rfl)))
    refine Kr.seqR (by rfl) (fun K hK => ?_)
    go_simp
    obtain ⟨y84, hy⟩ : ∃ y, y83.alloc (.cells #[.slice none 0 0] 24) = y := ⟨_, rfl⟩
    obtain ⟨bt, hb⟩ : ∃ b, y83.heap.size = b := ⟨_, rfl⟩
    rw [hy, hb]
    replace H := H.alloc hy hb rfl
    clear hy hb
    (refine Kr.outS hK (a' := ?_) ?_ ?_; rotate_left; (focus ((try simp only [Kr.PT]); first | done | rfl))); clear hK K
    have hk := H.c
    simp only [Kr.Cells] at hk
    refine Kr.seqR (by rfl) (fun K hK => ?_)
    go_simp
    clear hk
    obtain ⟨y85, hy⟩ : ∃ y, y84.setCell ⟨bt, 0, none⟩ (.slice p83 n83 c83) = y := ⟨_, rfl⟩
    rw [hy]
    replace H := H.store 0 hy rfl rfl
    dsimp only [List.set] at H
    clear hy
    (refine Kr.outS hK (a' := ?_) ?_ ?_; rotate_left; (focus ((try simp only [Kr.PT]); first | done | rfl))); clear hK K
    (refine Kr.seqQ (v := ?_) (a' := ?_) (by rfl) ?_ ?_ ?_; rotate_left 2; (focus (go_simp; first | done | rfl)); (focus ((try simp only [Kr.PT]); first | done | rfl)))
    refine Kr.seqDoneW ?_
    go_upto_region 10 with fail
    refine Kr.seqStartW ?_
    iterate 2 (refine Kr.seqQ (v := ?_) (a' := ?_) (by rfl) ?_ ?_ ?_; rotate_left 2; (focus (go_simp; first | done | rfl)); (focus ((try simp only [Kr.PT]); first | done | rfl)))
    refine Kr.seqR (by rfl) (fun K hK => ?_)
    go_simp
    go_at_call 52
    refine (Ww.Inverse_none x m HX.out M61.out HG1.out _).mono ?_
    rintro e wz ⟨rfl, nz, rfl⟩
    have hg : Gr y85 (y85.drewN nz) := (Gr.refl _).drewN _
    generalize y85.drewN nz = y86 at hg ⊢
    replace H := H.grow hg
    clear hg
    (refine Kr.outS hK (a' := ?_) ?_ ?_; rotate_left; (focus ((try simp only [Kr.PT]); first | done | rfl))); clear hK K
    iterate 5 (refine Kr.seqQ (v := ?_) (a' := ?_) (by rfl) ?_ ?_ ?_; rotate_left 2; (focus (go_simp; first | done | rfl)); (focus ((try simp only [Kr.PT]); first | done | rfl)))
    refine Kr.seqDoneW ?_
    go_upto_region 11 with fail
    refine Kr.seqStartW ?_
    have hk := H.c
    simp only [Kr.Cells] at hk
    iterate 2 (refine Kr.seqQ (v := ?_) (a' := ?_) (by rfl) ?_ ?_ ?_; rotate_left 2; (focus (go_simp; first | done | rfl)); (focus ((try simp only [Kr.PT]); first | done | rfl)))
    refine Kr.seqR (by rfl) (fun K hK => ?_)
    go_simp
    go_at_call 32
    refine (mInverse_no (H.nw 4 rfl) (H.nw 2 rfl) HX.out VM.out HG1.out (chk_ok (H.nw 4 rfl) (H.nw 2 rfl) (nw_none _) (H.nw 2 rfl) HX.out M0.out VM.out VM.out)).mono ?_
    rintro e y87 ⟨p87, n87, c87, rfl, hr, hg⟩
    obtain rfl : n87 = 0 := by rw [← hr.len, digs_zero]; rfl
    clear hk
    replace H := H.grow hg
    clear hr hg
    (refine Kr.outS hK (a' := ?_) ?_ ?_; rotate_left; (focus ((try simp only [Kr.PT]); first | done | rfl))); clear hK K
    iterate 3 (refine Kr.seqQ (v := ?_) (a' := ?_) (by rfl) ?_ ?_ ?_; rotate_left 2; (focus (go_simp; first | done | rfl)); (focus ((try simp only [Kr.PT]); first | done | rfl)))
    refine Kr.seqR (by rfl) (fun K hK => ?_)
    go_simp
    obtain ⟨y88, hy⟩ : ∃ y, y87.alloc (.cells #[.slice none 0 0] 24) = y := ⟨_, rfl⟩
    obtain ⟨bu, hb⟩ : ∃ b, y87.heap.size = b := ⟨_, rfl⟩
    rw [hy, hb]
    replace H := H.alloc hy hb rfl
    clear hy hb
    (refine Kr.outS hK (a' := ?_) ?_ ?_; rotate_left; (focus ((try simp only [Kr.PT]); first | done | rfl))); clear hK K
    have hk := H.c
    simp only [Kr.Cells] at hk
    refine Kr.seqR (by rfl) (fun K hK => ?_)
    go_simp
    clear hk
    obtain ⟨y89, hy⟩ : ∃ y, y88.setCell ⟨bu, 0, none⟩ (.slice p87 0 c87) = y := ⟨_, rfl⟩
    rw [hy]
    replace H := H.store 0 hy rfl rfl
    dsimp only [List.set] at H
    clear hy
    (refine Kr.outS hK (a' := ?_) ?_ ?_; rotate_left; (focus ((try simp only [Kr.PT]); first | done | rfl))); clear hK K
    (refine Kr.seqQ (v := ?_) (a' := ?_) (by rfl) ?_ ?_ ?_; rotate_left 2; (focus (go_simp; first | done | rfl)); (focus ((try simp only [Kr.PT]); first | done | rfl)))
    refine Kr.seqDoneW ?_
    go_upto_region 12 with fail
    refine Kr.seqStartW ?_
    iterate 3 (refine Kr.seqQ (v := ?_) (a' := ?_) (by rfl) ?_ ?_ ?_; rotate_left 2; (focus (go_simp; first | done | rfl)); (focus ((try simp only [Kr.PT]); first | done | rfl)))
    have hk := H.c
    simp only [Kr.Cells] at hk
    iterate 2 (refine Kr.seqQ (v := ?_) (a' := ?_) (by rfl) ?_ ?_ ?_; rotate_left 2; (focus (go_simp; first | done | rfl)); (focus ((try simp only [Kr.PT]); first | done | rfl)))
    refine Kr.seqR (by rfl) (fun K hK => ?_)
    go_simp
    go_at_call 49
    refine (weq_ok (H.nw 1 rfl) HZ2L.out).mono ?_
    rintro e y90 ⟨rfl, hg⟩
    clear hk
    replace H := H.grow hg
    clear hg
    (refine Kr.outS hK (a' := ?_) ?_ ?_; rotate_left; (focus ((try simp only [Kr.PT]); first | done | rfl))); clear hK K
    iterate 4 (refine Kr.seqQ (v := ?_) (a' := ?_) (by rfl) ?_ ?_ ?_; rotate_left 2; (focus (go_simp; first | done | rfl)); (focus ((try simp only [Kr.PT]); first | done | rfl)))
    have hk := H.c
    simp only [Kr.Cells] at hk
    iterate 2 (refine Kr.seqQ (v := ?_) (a' := ?_) (by rfl) ?_ ?_ ?_; rotate_left 2; (focus (go_simp; first | done | rfl)); (focus ((try simp only [Kr.PT]); first | done | rfl)))
    refine Kr.seqR (by rfl) (fun K hK => ?_)
    go_simp
    go_at_call 49
    refine (weq_ok (H.nw 0 rfl) HZ3L.out).mono ?_
    rintro e y91 ⟨rfl, hg⟩
    clear hk
    replace H := H.grow hg
    clear hg
    (refine Kr.outS hK (a' := ?_) ?_ ?_; rotate_left; (focus ((try simp only [Kr.PT]); first | done | rfl))); clear hK K
    iterate 5 (refine Kr.seqQ (v := ?_) (a' := ?_) (by rfl) ?_ ?_ ?_; rotate_left 2; (focus (go_simp; first | done | rfl)); (focus ((try simp only [Kr.PT]); first | done | rfl)))
    have hk := H.c
    simp only [Kr.Cells] at hk
    iterate 2 (refine Kr.seqQ (v := ?_) (a' := ?_) (by rfl) ?_ ?_ ?_; rotate_left 2; (focus (go_simp; first | done | rfl)); (focus ((try simp only [Kr.PT]); first | done | rfl)))
    refine Kr.seqR (by rfl) (fun K hK => ?_)
    go_simp
    go_at_call 49
    refine (weq_err).mono ?_
    rintro e y92 ⟨rfl, hg⟩
    clear hk
    replace H := H.grow hg
    clear hg
    (refine Kr.outS hK (a' := ?_) ?_ ?_; rotate_left; (focus ((try simp only [Kr.PT]); first | done | rfl))); clear hK K
    iterate 2 (refine Kr.seqQ (v := ?_) (a' := ?_) (by rfl) ?_ ?_ ?_; rotate_left 2; (focus (go_simp; first | done | rfl)); (focus ((try simp only [Kr.PT]); first | done | rfl)))
    refine Kr.seqDoneW ?_
    go_wp2
    go_ret
    exact ⟨rfl, H.g⟩
theorem u64_nat {n : Int} (h : (Lit.int .u64 n).wf = true) : ∃ k : Nat, n = (k : Int) := by
  simp [Lit.wf, IntKind.min, IntKind.max, IntKind.signed, IntKind.bits] at h
  exact ⟨n.toNat, by omega⟩
theorem NatmodWord (a b m : Int) (h1 : (Lit.int .u64 a).wf = true) (h2 : (Lit.int .u64 b).wf = true) (h3 : (Lit.int .u64 m).wf = true) (w : World) :
    Calls Try.prog 11 #[.int .u64 a, .int .u64 b, .int .u64 m] w fun e w' => e = .returned (.bool true) ∧ Gr w w' := by
  obtain ⟨a, rfl⟩ := u64_nat h1
  obtain ⟨b, rfl⟩ := u64_nat h2
  obtain ⟨m, rfl⟩ := u64_nat h3
  by_cases h0 : m < 1
  · exact word_zero h0
  by_cases h1 : 2305843009213693952 ≤ m
  · exact word_big h1
  by_cases hg : Nat.gcd (a % m) m = 1
  · exact word_inv (Nat.lt_of_not_le (fun h => h0 (Nat.lt_succ_of_le h))) (Nat.lt_of_not_le h1) hg
  · exact word_no (Nat.lt_of_not_le (fun h => h0 (Nat.lt_succ_of_le h))) (Nat.lt_of_not_le h1) hg
end Go.Proofs.Ytlciocebbckdcaa.Ml
