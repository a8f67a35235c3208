/- A part of the proofs, joined of smaller texts: Bv, Eg, Bw. -/
import Derived.Test.YtcngcdfngifjnaaDoorPf3
import Derived.Test.YtcngcdfngifjnaaDoorRows
import Derived.Test.YtcngcdfngifjnaaDoorPf1
import Derived.ProofKit
import Derived.LaidMore
import Derived.OpenShut
import Derived.Stop.Joined
import Derived.Lib.LaidTab
import Derived.ChangeSlices
import Derived.Deep.Cut

/- The listed table that AppendInt reads, off the row's condition; a start that meets it. -/
namespace Go.Proofs.YtcngcdfngifjnaaDoor.Dl
open Go.ChangeShapes Go.WideShapes Go.ChangeAt Go.WideMaps Go.WideElems Go.RowKit Go.Proofs.YtcngcdfngifjnaaDoor.Dg

abbrev laid : List (String × DataW Unit) := [("math/bits.deBruijn32tab", Rows.laid_math_bits_deBruijn32tab), ("math/bits.deBruijn64tab", Rows.laid_math_bits_deBruijn64tab), ("internal/strconv.uint64pow10", Rows.laid_internal_strconv_uint64pow10)]
theorem own : ownKnob Tryd.prog.godebug = none := by kernel_rfl
theorem gP : Tryd.prog.globalNamed "internal/strconv.uint64pow10" = some 0 := by kernel_rfl
theorem tP : (Tryd.prog.globals[0]?).map (·.type) = some 83 := by kernel_rfl
theorem cP : Tryd.prog.cellsOf 83 = 20 := by kernel_rfl
theorem cU64 : Tryd.prog.cellsOf 58 = 1 := by kernel_rfl
theorem cU8 : Tryd.prog.cellsOf 5 = 1 := by kernel_rfl

set_option maxRecDepth 100000 in
theorem door_met (os : Os) (args : Array Value) : laidMetH Tryd.prog laid ((World.doorLaid Tryd.prog 400 os).forCall (fun _ _ => 0) ⟨#[], args, []⟩).memory :=
  laidMetH_of_parts3 (fuel := 8) (laidMet_of_run' 8 (by kernel_rfl) (by kernel_rfl)) (by kernel_rfl) (by kernel_rfl)

theorem pow_list : (Rows.laid_internal_strconv_uint64pow10 : DataW Unit) = Lib.tabData .u64 Lib.pow10Tab := by rfl

theorem wf_u8 {n : Int} (h : (Lit.int .u8 n).wf = true) : 0 ≤ n ∧ n < 256 := by
  simp [Lit.wf, IntKind.min, IntKind.max, IntKind.signed, IntKind.bits] at h
  omega
theorem w8_of {n : Int} (h : 0 ≤ n ∧ n < 256) : Value.int .u8 n = w8 (BitVec.ofNat 8 n.toNat) := by
  unfold w8
  rw [BitVec.toNat_ofNat, Nat.mod_eq_of_lt (by omega)]
  congr 1
  omega
theorem tables_of_laid {W : World} (h : laidMetH Tryd.prog laid W) : Tab W := by
  rw [MakeChecks.laidMetH_plain _ _ _ (by kernel_rfl)] at h
  obtain ⟨ps, ⟨g0, t0, cs0, f0, p0, q0, hg0, ht0, hv0, hd0, ⟨g1, t1, cs1, f1, p1, q1, hg1, ht1, hv1, hd1, ⟨g2, t2, cs2, f2, p2, q2, hg2, ht2, hv2, hd2, _, _⟩, _⟩, _⟩, _, _⟩ := h
  obtain rfl := Option.some.inj (gP.symm.trans hg2)
  obtain rfl := Option.some.inj (tP.symm.trans ht2)
  rw [pow_list] at hd2
  show Lib.TabIs _ _ _ _ _
  unfold Lib.TabIs
  rw [hv2, ← Lib.cells_of_tab Tryd.underlying83 Tryd.underlying58 cU64 cP hd2]
end Go.Proofs.YtcngcdfngifjnaaDoor.Dl


/- Arguments that are rows of bytes. -/
namespace Go.Proofs.YtcngcdfngifjnaaDoor.Dl
open Go Go.RowKit Go.Proofs.YtcngcdfngifjnaaDoor.Ne Go.Proofs.YtcngcdfngifjnaaDoor.Dg
/-- A slice of bytes among the arguments. -/
def Bin8 (W : World) (p : Option Addr) (n c : Nat) : Prop := ∃ l : List (BitVec 8), l.length = n ∧ n ≤ c ∧ (p = none → c = 0) ∧ SrcB p l W ∧ n ≤ 9223372036854775807
open Go.ChangeShapes Go.WideShapes Go.ChangeAt Go.WideElems in
set_option maxRecDepth 100000 in
theorem open_bytes {H : Type} {enc : TypeId × Value → H} {W : World} {r : Reach} {b0 : Nat} {v : Value} {d : DataW H} {p : List MemPlace}
    (hv : Value.okWide Tryd.prog W r b0 22 v) (h : DataW.Trod enc Tryd.prog W 0 (fun _ => true) true 22 v d p) :
    ∃ (q : Option Addr) (n c : Nat), v = .slice q n c ∧ Bin8 W q n c := by
  obtain ⟨a0, len0, cap0, rfl⟩ := okWide_slice Tryd.underlying22 hv
  obtain ⟨fuel, hf⟩ := h
  rcases open_ints Tryd.underlying22 Tryd.underlying5 cU8 hf with ⟨hc, _⟩ | ⟨a, len, cap, zs, hc, _, hl, hm, hz, _, hcell, hw⟩
  · simp [Value.cells] at hc
    obtain ⟨rfl, rfl, rfl⟩ := hc
    exact ⟨none, 0, 0, rfl, [], rfl, Nat.le_refl _, fun _ => rfl, .inl rfl, by decide⟩
  · simp [Value.cells] at hc
    obtain ⟨rfl, rfl, rfl⟩ := hc
    have hz' : zs.length = cap0 := by simpa using hz
    have hm' : cap0 ≤ 9223372036854775807 := Nat.le_trans hm (by decide)
    refine ⟨some a, len0, cap0, rfl, (zs.take len0).map (fun z => BitVec.ofNat 8 z.toNat), by simp; omega, hl, (fun e => by cases e), ?_, by omega⟩
    rcases Nat.eq_zero_or_pos len0 with h0 | h0
    · subst h0
      exact .inl (by simp)
    · have hs : a.spot = none := Nl.addr_at (v := .int .u8 (zs.getD 0 0)) (by simpa [Addr.add] using hcell 0 (by omega))
      obtain ⟨b, off, sp⟩ := a
      subst hs
      refine .inr ⟨b, off, rfl, fun i x hx => ?_⟩
      rw [List.getElem?_map, Option.map_eq_some_iff] at hx
      obtain ⟨z, hx, rfl⟩ := hx
      have hi : i < len0 := by have := (List.getElem?_eq_some_iff.1 hx).1; simp at this; omega
      rw [List.getElem?_take, if_pos hi] at hx
      have e := hcell i (by omega)
      rw [Ne.addr_add] at e
      rw [e, List.getD_eq_getElem?_getD, hx]
      exact congrArg some (w8_of (wf_u8 (hw z (List.mem_of_getElem? hx))))
end Go.Proofs.YtcngcdfngifjnaaDoor.Dl


/- The reference's Same and value. -/
namespace Go.Proofs.YtcngcdfngifjnaaDoor.Dg
open Go Go.RowKit Go.Proofs.YtcngcdfngifjnaaDoor.Ne Go.Proofs.YtcngcdfngifjnaaDoor.Kr

theorem nbN_snoc : ∀ (l : List (BitVec 8)) (x : BitVec 8) (a : Nat), nbN (l ++ [x]) a = nbN l a * 256 + x.toNat
  | [], x, a => rfl
  | y :: l, x, a => by
    show nbN (l ++ [x]) (a * 256 + y.toNat) = _
    rw [nbN_snoc l x]; rfl
theorem nbN_take {l : List (BitVec 8)} {j : Nat} {x : BitVec 8} (h : l[j]? = some x) : nbN (l.take (j + 1)) 0 = nbN (l.take j) 0 * 256 + x.toNat := by
  rw [List.take_add_one, h]; exact nbN_snoc _ _ _
theorem nbN_lt : ∀ (l : List (BitVec 8)) (a : Nat), nbN l a < (a + 1) * 256 ^ l.length
  | [], a => by simp [nbN]
  | x :: l, a => by
    have h := nbN_lt l (a * 256 + x.toNat)
    have hx := x.isLt
    show nbN l (a * 256 + x.toNat) < _
    have h2 : (a * 256 + x.toNat + 1) * 256 ^ l.length ≤ ((a + 1) * 256) * 256 ^ l.length := Nat.mul_le_mul_right _ (by omega)
    rw [List.length_cons, Nat.pow_succ, Nat.mul_comm (256 ^ l.length) 256, ← Nat.mul_assoc]
    omega
theorem mulU {w : World} {x z : Nat} (h : 256 * x = z) (hz : z < 18446744073709551616) : (binOp .mul 58 (.int .u64 256) (.int .u64 (x : Int))).run Tryd.prog w = .ok (.int .u64 (z : Int)) w := by
  have e : IntKind.u64.wrap ((256 : Int) * (x : Int)) = (z : Int) := by rw [show (256 : Int) * (x : Int) = (z : Int) by omega]; exact IntWalk.u64_in _ (by omega)
  clear h hz
  go_simp
theorem addU {w : World} {x y z : Nat} (h : x + y = z) (hz : z < 18446744073709551616) : (binOp .add 58 (.int .u64 (x : Int)) (.int .u64 (y : Int))).run Tryd.prog w = .ok (.int .u64 (z : Int)) w := by
  have e : IntKind.u64.wrap ((x : Int) + (y : Int)) = (z : Int) := by rw [show (x : Int) + (y : Int) = (z : Int) by omega]; exact IntWalk.u64_in _ (by omega)
  clear h hz
  go_simp
theorem cvB64 {w : World} {x : BitVec 8} : (convert 5 58 (.int .u8 (x.toNat : Int))).run Tryd.prog w = .ok (.int .u64 (x.toNat : Int)) w := by
  have e : IntKind.u64.wrap (x.toNat : Int) = (x.toNat : Int) := by
    have := x.isLt
    exact IntWalk.u64_in _ (by omega)
  go_simp
theorem cvU {w : World} {X : BitVec 64} {N : Nat} (h : X.toNat = N) : (convert 58 3 (.int .u64 (N : Int))).run Tryd.prog w = .ok (.int .i64 X.toInt) w := by
  have e : IntKind.i64.wrap (N : Int) = X.toInt := by
    have := X.isLt
    rw [IntKind.wrap_i64, BitVec.toInt_eq_toNat_cond]
    split <;> omega
  clear h
  go_simp

set_option linter.unusedSimpArgs false in
set_option maxRecDepth 100000 in
set_option maxHeartbeats 16000000 in
theorem same_step {k0 : Nat} (ih : ∀ {k2 : Nat} {F F2 : Nat → Prop} {v v2 : Value} {t : It} {w : World}, ItV w k0 F v t → ItV w k2 F2 v2 t → Calls Tryd.prog 19 #[v, v2] w fun e w' => e = .returned (.bool true) ∧ Gr w w')
    {k2 : Nat} {F F2 : Nat → Prop} {v v2 : Value} {t : It} {w : World} (hI : ItV w (k0 + 1) F v t) (hI2 : ItV w k2 F2 v2 t) : Calls Tryd.prog 19 #[v, v2] w fun e w' => e = .returned (.bool true) ∧ Gr w w' := by
  obtain ⟨pb, cb, pl, cl, hv, hk1, hn1, hpb, hcb, hbl, hll, hB, hL⟩ := hI; subst hv
  obtain ⟨tk, htk⟩ : ∃ z, t.k = z := ⟨_, rfl⟩; obtain ⟨tn, htn⟩ : ∃ z, t.n = z := ⟨_, rfl⟩; obtain ⟨bl, hbl2⟩ : ∃ z, t.b.length = z := ⟨_, rfl⟩; obtain ⟨ll, hll2⟩ : ∃ z, t.l.length = z := ⟨_, rfl⟩
  rw [htk] at hk1; rw [htn] at hn1; rw [hbl2] at hcb hbl; rw [hll2] at hll; have HTK := Lib.hid htk; have HTN := Lib.hid htn; have HBL := Lib.hid hbl2; have HLL := Lib.hid hll2; have HBB := Lib.hid hB; have HLS := Lib.hid hL; have HPB := Lib.hid hpb; have HI1 := Lib.hid hk1; have HI2 := Lib.hid hn1; rw [htk, htn, hbl2, hll2]; clear htk htn hbl2 hll2 hB hL hpb hk1 hn1
  obtain ⟨k3, rfl⟩ : ∃ k3, k2 = k3 + 1 := by cases k2 with
    | zero => exact hI2.elim
    | succ k => exact ⟨k, rfl⟩
  obtain ⟨pb2, cb2, pl2, cl2, hv, _, _, _, _, _, _, hB2, hL2⟩ := hI2; subst hv; have HB2 := Lib.hid hB2; have HL2 := Lib.hid hL2; rw [HTK.out, HTN.out, HBL.out, HLL.out]; clear hB2 hL2
  obtain ⟨SB, hSB⟩ : ∃ z, strB t.b = z := ⟨_, rfl⟩; have HSB := Lib.hid hSB; clear hSB
  have H := Ow.start w
  go_enter Tryd.func19, Tryd.ntmps19
  go_upto_region 0 with fail
  refine Kr.seqStartW ?_
  refine Kr.seqR (by rfl) (fun K hK => ?_)
  refine wp_runV rfl boxI ?_
  obtain ⟨y1, hy⟩ : ∃ y, w.alloc (.cells ([.int .i64 tk, .int .i64 tn, .slice pb bl cb, .slice pl ll cl]).toArray 25) = y := ⟨_, rfl⟩
  obtain ⟨ba, hb⟩ : ∃ b, w.heap.size = b := ⟨_, rfl⟩
  rw [hy, hb]
  have hg : Gr w y1 := hy ▸ (Gr.refl _).alloc _
  replace H := H.alloc hy hb
  clear hy hb hg
  (refine Kr.outS hK (a' := ?_) ?_ ?_; rotate_left; (focus ((try simp only [Kr.PT]); first | done | rfl))); clear hK K
  refine Kr.seqR (by rfl) (fun K hK => ?_)
  refine wp_runV rfl boxI ?_
  obtain ⟨y2, hy⟩ : ∃ y, y1.alloc (.cells ([.int .i64 tk, .int .i64 tn, .slice pb2 bl cb2, .slice pl2 ll cl2]).toArray 25) = y := ⟨_, rfl⟩
  obtain ⟨bc, hb⟩ : ∃ b, y1.heap.size = b := ⟨_, rfl⟩
  rw [hy, hb]
  have hg : Gr y1 y2 := hy ▸ (Gr.refl _).alloc _
  replace H := H.alloc hy hb
  clear hy hb hg
  (refine Kr.outS hK (a' := ?_) ?_ ?_; rotate_left; (focus ((try simp only [Kr.PT]); first | done | rfl))); clear hK K
  (refine Kr.seqQ (v := ?_) (a' := ?_) (by rfl) ?_ ?_ ?_; rotate_left 2; (focus (go_simp; first | done | rfl)); (focus ((try simp only [Kr.PT]); first | done | rfl)))
  refine Kr.seqDoneW ?_
  go_upto_region 1 with fail
  refine Kr.seqStartW ?_
  (refine Kr.seqQ (v := .pointer (some ⟨ba, 0, none⟩)) (a' := ?_) (by rfl) ?_ ?_ ?_; rotate_left 1; (focus (go_simp; first | done | rfl)); (focus ((try simp only [Kr.PT]); first | done | rfl)))
  (refine Kr.seqQ (v := .int .i64 tk) (a' := ?_) (by rfl) ?_ ?_ ?_; rotate_left 1; (focus (exact Kr.valOf rfl (ldInt (rowCell (j := 0) (H.at 1 rfl) rfl)))); (focus ((try simp only [Kr.PT]); first | done | rfl)))
  (refine Kr.seqQ (v := .pointer (some ⟨bc, 0, none⟩)) (a' := ?_) (by rfl) ?_ ?_ ?_; rotate_left 1; (focus (go_simp; first | done | rfl)); (focus ((try simp only [Kr.PT]); first | done | rfl)))
  (refine Kr.seqQ (v := .int .i64 tk) (a' := ?_) (by rfl) ?_ ?_ ?_; rotate_left 1; (focus (exact Kr.valOf rfl (ldInt (rowCell (j := 0) (H.at 0 rfl) rfl)))); (focus ((try simp only [Kr.PT]); first | done | rfl)))
  (refine Kr.seqQ (v := .bool false) (a' := ?_) (by rfl) ?_ ?_ ?_; rotate_left 1; (focus (exact Kr.valOf rfl (neqI (by rw [decide_eq_true rfl]; rfl)))); (focus ((try simp only [Kr.PT]); first | done | rfl)))
  (refine Kr.seqQ (v := ?_) (a' := ?_) (by rfl) ?_ ?_ ?_; rotate_left 2; (focus (go_simp; first | done | rfl)); (focus ((try simp only [Kr.PT]); first | done | rfl)))
  (refine Kr.seqQ (v := .pointer (some ⟨ba, 1, none⟩)) (a' := ?_) (by rfl) ?_ ?_ ?_; rotate_left 1; (focus (go_simp; first | done | rfl)); (focus ((try simp only [Kr.PT]); first | done | rfl)))
  (refine Kr.seqQ (v := .int .i64 tn) (a' := ?_) (by rfl) ?_ ?_ ?_; rotate_left 1; (focus (exact Kr.valOf rfl (ldInt (rowCell (j := 1) (H.at 1 rfl) rfl)))); (focus ((try simp only [Kr.PT]); first | done | rfl)))
  (refine Kr.seqQ (v := .pointer (some ⟨bc, 1, none⟩)) (a' := ?_) (by rfl) ?_ ?_ ?_; rotate_left 1; (focus (go_simp; first | done | rfl)); (focus ((try simp only [Kr.PT]); first | done | rfl)))
  (refine Kr.seqQ (v := .int .i64 tn) (a' := ?_) (by rfl) ?_ ?_ ?_; rotate_left 1; (focus (exact Kr.valOf rfl (ldInt (rowCell (j := 1) (H.at 0 rfl) rfl)))); (focus ((try simp only [Kr.PT]); first | done | rfl)))
  (refine Kr.seqQ (v := .bool false) (a' := ?_) (by rfl) ?_ ?_ ?_; rotate_left 1; (focus (exact Kr.valOf rfl (neqI (by rw [decide_eq_true rfl]; rfl)))); (focus ((try simp only [Kr.PT]); first | done | rfl)))
  (refine Kr.seqQ (v := ?_) (a' := ?_) (by rfl) ?_ ?_ ?_; rotate_left 2; (focus (go_simp; first | done | rfl)); (focus ((try simp only [Kr.PT]); first | done | rfl)))
  (refine Kr.seqQ (v := ?_) (a' := ?_) (by rfl) ?_ ?_ ?_; rotate_left 2; (focus (go_simp; first | done | rfl)); (focus ((try simp only [Kr.PT]); first | done | rfl)))
  (refine Kr.seqQ (v := .pointer (some ⟨ba, 2, none⟩)) (a' := ?_) (by rfl) ?_ ?_ ?_; rotate_left 1; (focus (go_simp; first | done | rfl)); (focus ((try simp only [Kr.PT]); first | done | rfl)))
  (refine Kr.seqQ (v := .slice pb bl cb) (a' := ?_) (by rfl) ?_ ?_ ?_; rotate_left 1; (focus (exact Kr.valOf rfl (ldSl (rowCell (j := 2) (H.at 1 rfl) rfl)))); (focus ((try simp only [Kr.PT]); first | done | rfl)))
  (refine Kr.seqQ (v := .string SB) (a' := ?_) (by rfl) ?_ ?_ ?_; rotate_left 1; (focus (exact Kr.valOf rfl ((by rw [← HSB.out]; exact run_str ((src_item HBB.out).grow H.g) HBL.out)))); (focus ((try simp only [Kr.PT]); first | done | rfl)))
  (refine Kr.seqQ (v := .pointer (some ⟨bc, 2, none⟩)) (a' := ?_) (by rfl) ?_ ?_ ?_; rotate_left 1; (focus (go_simp; first | done | rfl)); (focus ((try simp only [Kr.PT]); first | done | rfl)))
  (refine Kr.seqQ (v := .slice pb2 bl cb2) (a' := ?_) (by rfl) ?_ ?_ ?_; rotate_left 1; (focus (exact Kr.valOf rfl (ldSl (rowCell (j := 2) (H.at 0 rfl) rfl)))); (focus ((try simp only [Kr.PT]); first | done | rfl)))
  (refine Kr.seqQ (v := .string SB) (a' := ?_) (by rfl) ?_ ?_ ?_; rotate_left 1; (focus (exact Kr.valOf rfl ((by rw [← HSB.out]; exact run_str ((src_item HB2.out).grow H.g) HBL.out)))); (focus ((try simp only [Kr.PT]); first | done | rfl)))
  (refine Kr.seqQ (v := .bool false) (a' := ?_) (by rfl) ?_ ?_ ?_; rotate_left 1; (focus (exact Kr.valOf rfl (neqS (by rw [decide_eq_true rfl]; rfl)))); (focus ((try simp only [Kr.PT]); first | done | rfl)))
  (refine Kr.seqQ (v := ?_) (a' := ?_) (by rfl) ?_ ?_ ?_; rotate_left 2; (focus (go_simp; first | done | rfl)); (focus ((try simp only [Kr.PT]); first | done | rfl)))
  (refine Kr.seqQ (v := ?_) (a' := ?_) (by rfl) ?_ ?_ ?_; rotate_left 2; (focus (go_simp; first | done | rfl)); (focus ((try simp only [Kr.PT]); first | done | rfl)))
  (refine Kr.seqQ (v := .pointer (some ⟨ba, 3, none⟩)) (a' := ?_) (by rfl) ?_ ?_ ?_; rotate_left 1; (focus (go_simp; first | done | rfl)); (focus ((try simp only [Kr.PT]); first | done | rfl)))
  (refine Kr.seqQ (v := .slice pl ll cl) (a' := ?_) (by rfl) ?_ ?_ ?_; rotate_left 1; (focus (exact Kr.valOf rfl (ldLs (rowCell (j := 3) (H.at 1 rfl) rfl)))); (focus ((try simp only [Kr.PT]); first | done | rfl)))
  (refine Kr.seqQ (v := .int .i64 (ll : Int)) (a' := ?_) (by rfl) ?_ ?_ ?_; rotate_left 1; (focus (exact Kr.valOf rfl ((by go_simp)))); (focus ((try simp only [Kr.PT]); first | done | rfl)))
  (refine Kr.seqQ (v := .pointer (some ⟨bc, 3, none⟩)) (a' := ?_) (by rfl) ?_ ?_ ?_; rotate_left 1; (focus (go_simp; first | done | rfl)); (focus ((try simp only [Kr.PT]); first | done | rfl)))
  (refine Kr.seqQ (v := .slice pl2 ll cl2) (a' := ?_) (by rfl) ?_ ?_ ?_; rotate_left 1; (focus (exact Kr.valOf rfl (ldLs (rowCell (j := 3) (H.at 0 rfl) rfl)))); (focus ((try simp only [Kr.PT]); first | done | rfl)))
  (refine Kr.seqQ (v := .int .i64 (ll : Int)) (a' := ?_) (by rfl) ?_ ?_ ?_; rotate_left 1; (focus (exact Kr.valOf rfl ((by go_simp)))); (focus ((try simp only [Kr.PT]); first | done | rfl)))
  (refine Kr.seqQ (v := .bool false) (a' := ?_) (by rfl) ?_ ?_ ?_; rotate_left 1; (focus (exact Kr.valOf rfl (neqI (by rw [decide_eq_true rfl]; rfl)))); (focus ((try simp only [Kr.PT]); first | done | rfl)))
  (refine Kr.seqQ (v := ?_) (a' := ?_) (by rfl) ?_ ?_ ?_; rotate_left 2; (focus (go_simp; first | done | rfl)); (focus ((try simp only [Kr.PT]); first | done | rfl)))
  refine Kr.seqDoneW ?_
  go_upto_region 3 with fail
  refine Kr.seqStartW ?_
  (refine Kr.seqQ (v := ?_) (a' := ?_) (by rfl) ?_ ?_ ?_; rotate_left 2; (focus (go_simp; first | done | rfl)); (focus ((try simp only [Kr.PT]); first | done | rfl)))
  refine Kr.seqDoneW ?_
  have H2 := Lib.hid H; clear H
  go_wp2_with fail
  go_loopw [5] (fun iv wr => ∃ (j : Nat), j ≤ ll ∧ iv = .int .i64 (j : Int) ∧ Hid (Ow w wr [(bc, 25, [.int .i64 tk, .int .i64 tn, .slice pb2 bl cb2, .slice pl2 ll cl2]), (ba, 25, [.int .i64 tk, .int .i64 tn, .slice pb bl cb, .slice pl ll cl])])) (fun iv _ => (ll - (intOf iv).toNat))
  case atStart => exact ⟨0, by omega, rfl, H2⟩
  case round =>
    clear H2; obtain ⟨j, hj, rfl, HH⟩ := hrel; have H := HH.out; clear HH
    by_cases hje : j = ll
    · have C4 : decide ((j : Int) < (ll : Int)) = false := decide_eq_false (by omega)
      clear hje
      go_upto_region 4 with fail
      refine Kr.seqStartW ?_
      (refine Kr.seqQ (v := ?_) (a' := ?_) (by rfl) ?_ ?_ ?_; rotate_left 2; (focus (go_simp; first | done | rfl)); (focus ((try simp only [Kr.PT]); first | done | rfl)))
      (refine Kr.seqQ (v := .pointer (some ⟨ba, 3, none⟩)) (a' := ?_) (by rfl) ?_ ?_ ?_; rotate_left 1; (focus (go_simp; first | done | rfl)); (focus ((try simp only [Kr.PT]); first | done | rfl)))
      (refine Kr.seqQ (v := .slice pl ll cl) (a' := ?_) (by rfl) ?_ ?_ ?_; rotate_left 1; (focus (exact Kr.valOf rfl (ldLs (rowCell (j := 3) (H.at 1 rfl) rfl)))); (focus ((try simp only [Kr.PT]); first | done | rfl)))
      (refine Kr.seqQ (v := .int .i64 (ll : Int)) (a' := ?_) (by rfl) ?_ ?_ ?_; rotate_left 1; (focus (exact Kr.valOf rfl ((by go_simp)))); (focus ((try simp only [Kr.PT]); first | done | rfl)))
      (refine Kr.seqQ (v := .bool false) (a' := ?_) (by rfl) ?_ ?_ ?_; rotate_left 1; (focus (exact Kr.valOf rfl (lssT C4))); (focus ((try simp only [Kr.PT]); first | done | rfl)))
      refine Kr.seqDoneW ?_
      go_upto_region 8 with fail
      refine Kr.seqStartW ?_
      (refine Kr.seqQ (v := ?_) (a' := ?_) (by rfl) ?_ ?_ ?_; rotate_left 2; (focus (go_simp; first | done | rfl)); (focus ((try simp only [Kr.PT]); first | done | rfl)))
      refine Kr.seqDoneW ?_
      have hk := trivial
      go_wp2
      refine bodyPost_ret (v := .bool true) (by simp [results, Tryd.results19, go_sem, hk]) rfl ⟨rfl, H.g⟩
    · have hjl : j < ll := by omega
      have C4 : decide ((j : Int) < (ll : Int)) = true := decide_eq_true (by omega)
      clear hje
      obtain ⟨x, hx⟩ : ∃ x, t.l[j]? = some x := ⟨_, List.getElem?_eq_getElem (by rw [HLL.out]; exact hjl)⟩
      obtain ⟨b, off, v0, v1, v2, v3, hpl, hFb, c0, c1, c2, c3, hch⟩ := HLS.out j x hx
      subst hpl
      have HC0 := Lib.hid c0; have HC1 := Lib.hid c1; have HC2 := Lib.hid c2; have HC3 := Lib.hid c3; have HCH := Lib.hid hch; have HX := Lib.hid hx; clear c0 c1 c2 c3 hch hx hFb
      have HON : Hid (∀ v ∈ ([v0, v1, v2, v3] : List Value), v.oneCell' = true) := Lib.hid (ItV.one HCH.out)
      obtain ⟨b2, off2, u0, u1, u2, u3, hpl2, _, d0, d1, d2, d3, hch2⟩ := HL2.out j x HX.out; subst hpl2; have HD0 := Lib.hid (And.intro d0 (And.intro d1 (And.intro d2 d3))); have HE0 := Lib.hid (And.intro HC0.out (And.intro HC1.out (And.intro HC2.out HC3.out))); have HCH2 := Lib.hid hch2; clear d0 d1 d2 d3 hch2
      go_upto_region 4 with fail
      refine Kr.seqStartW ?_
      (refine Kr.seqQ (v := ?_) (a' := ?_) (by rfl) ?_ ?_ ?_; rotate_left 2; (focus (go_simp; first | done | rfl)); (focus ((try simp only [Kr.PT]); first | done | rfl)))
      (refine Kr.seqQ (v := .pointer (some ⟨ba, 3, none⟩)) (a' := ?_) (by rfl) ?_ ?_ ?_; rotate_left 1; (focus (go_simp; first | done | rfl)); (focus ((try simp only [Kr.PT]); first | done | rfl)))
      (refine Kr.seqQ (v := .slice (some ⟨b, off, none⟩) ll cl) (a' := ?_) (by rfl) ?_ ?_ ?_; rotate_left 1; (focus (exact Kr.valOf rfl (ldLs (rowCell (j := 3) (H.at 1 rfl) rfl)))); (focus ((try simp only [Kr.PT]); first | done | rfl)))
      (refine Kr.seqQ (v := .int .i64 (ll : Int)) (a' := ?_) (by rfl) ?_ ?_ ?_; rotate_left 1; (focus (exact Kr.valOf rfl ((by go_simp)))); (focus ((try simp only [Kr.PT]); first | done | rfl)))
      (refine Kr.seqQ (v := .bool true) (a' := ?_) (by rfl) ?_ ?_ ?_; rotate_left 1; (focus (exact Kr.valOf rfl (lssT C4))); (focus ((try simp only [Kr.PT]); first | done | rfl)))
      refine Kr.seqDoneW ?_
      go_upto_region 6 with fail
      refine Kr.startL (fun W' => (W'.heap[ba]? = some (.cells ([.int .i64 tk, .int .i64 tn, .slice pb bl cb, .slice (some ⟨b, off, none⟩) ll cl]).toArray 25 (0, 0))) ∧ (W'.heap[bc]? = some (.cells ([.int .i64 tk, .int .i64 tn, .slice pb2 bl cb2, .slice (some ⟨b2, off2, none⟩) ll cl2]).toArray 25 (0, 0))) ∧ ((W'.cell? ⟨b, off + j * 4, none⟩ = some v0 ∧ W'.cell? ⟨b, off + j * 4 + 1, none⟩ = some v1 ∧ W'.cell? ⟨b, off + j * 4 + 2, none⟩ = some v2 ∧ W'.cell? ⟨b, off + j * 4 + 3, none⟩ = some v3)) ∧ ((W'.cell? ⟨b2, off2 + j * 4, none⟩ = some u0 ∧ W'.cell? ⟨b2, off2 + j * 4 + 1, none⟩ = some u1 ∧ W'.cell? ⟨b2, off2 + j * 4 + 2, none⟩ = some u2 ∧ W'.cell? ⟨b2, off2 + j * 4 + 3, none⟩ = some u3)) ∧ True) [] (by kernel_rfl) ?_
      have gd : Gr wr wr.drew := (Gr.refl _).drew
      generalize wr.drew = d3 at gd ⊢
      replace H := H.grow gd
      clear gd
      (refine Kr.tPQ 0 (v := ?_) (a' := ?_) rfl (by kernel_rfl) (fun _ _ _ h => h) (by rfl) (fun _ => ⟨(H.at 1 rfl), (H.at 0 rfl), ⟨H.g.cell HE0.out.1, H.g.cell HE0.out.2.1, H.g.cell HE0.out.2.2.1, H.g.cell HE0.out.2.2.2⟩, ⟨H.g.cell HD0.out.1, H.g.cell HD0.out.2.1, H.g.cell HD0.out.2.2.1, H.g.cell HD0.out.2.2.2⟩, trivial⟩) (fun wx => ?_) ?_ ?_; rotate_left 2; (focus (go_simp; first | done | rfl)); (focus ((try simp only [Kr.PT]); first | done | rfl)))
      (refine Kr.tSQ 1 [] (v := .slice (some ⟨b, off, none⟩) ll cl) (a' := ?_) rfl (by kernel_rfl) (fun _ _ _ h => h) (by rfl) ⟨(H.at 1 rfl), (H.at 0 rfl), ⟨H.g.cell HE0.out.1, H.g.cell HE0.out.2.1, H.g.cell HE0.out.2.2.1, H.g.cell HE0.out.2.2.2⟩, ⟨H.g.cell HD0.out.1, H.g.cell HD0.out.2.1, H.g.cell HD0.out.2.2.1, H.g.cell HD0.out.2.2.2⟩, trivial⟩ (fun wx hSx => ?_) ?_ ?_; rotate_left 1; (focus (exact Kr.valOf rfl (ldLs (rowCell (j := 3) hSx.1 rfl)))); (focus ((try simp only [Kr.PT]); first | done | rfl)))
      (refine Kr.tPQ 2 (v := ?_) (a' := ?_) rfl (by kernel_rfl) (fun _ _ _ h => h) (by rfl) (fun _ => ⟨(H.at 1 rfl), (H.at 0 rfl), ⟨H.g.cell HE0.out.1, H.g.cell HE0.out.2.1, H.g.cell HE0.out.2.2.1, H.g.cell HE0.out.2.2.2⟩, ⟨H.g.cell HD0.out.1, H.g.cell HD0.out.2.1, H.g.cell HD0.out.2.2.1, H.g.cell HD0.out.2.2.2⟩, trivial⟩) (fun wx => ?_) ?_ ?_; rotate_left 2; (focus (go_simp; first | done | rfl)); (focus ((try simp only [Kr.PT]); first | done | rfl)))
      (refine Kr.tPQ 3 (v := .pointer (some ⟨b, off + j * 4, none⟩)) (a' := ?_) rfl (by kernel_rfl) (fun _ _ _ h => h) (by rfl) (fun _ => ⟨(H.at 1 rfl), (H.at 0 rfl), ⟨H.g.cell HE0.out.1, H.g.cell HE0.out.2.1, H.g.cell HE0.out.2.2.1, H.g.cell HE0.out.2.2.2⟩, ⟨H.g.cell HD0.out.1, H.g.cell HD0.out.2.1, H.g.cell HD0.out.2.2.1, H.g.cell HD0.out.2.2.2⟩, trivial⟩) (fun wx => ?_) ?_ ?_; rotate_left 1; (focus (exact Kr.valOf rfl (ixI hjl))); (focus ((try simp only [Kr.PT]); first | done | rfl)))
      (refine Kr.tSQ 4 [] (v := .agg #[v0, v1, v2, v3]) (a' := ?_) rfl (by kernel_rfl) (fun _ _ _ h => h) (by rfl) ⟨(H.at 1 rfl), (H.at 0 rfl), ⟨H.g.cell HE0.out.1, H.g.cell HE0.out.2.1, H.g.cell HE0.out.2.2.1, H.g.cell HE0.out.2.2.2⟩, ⟨H.g.cell HD0.out.1, H.g.cell HD0.out.2.1, H.g.cell HD0.out.2.2.1, H.g.cell HD0.out.2.2.2⟩, trivial⟩ (fun wx hSx => ?_) ?_ ?_; rotate_left 1; (focus (exact Kr.valOf rfl (ldItem hSx.2.2.1.1 hSx.2.2.1.2.1 hSx.2.2.1.2.2.1 hSx.2.2.1.2.2.2))); (focus ((try simp only [Kr.PT]); first | done | rfl)))
      (refine Kr.tPQ 5 (v := ?_) (a' := ?_) rfl (by kernel_rfl) (fun _ _ _ h => h) (by rfl) (fun _ => ⟨(H.at 1 rfl), (H.at 0 rfl), ⟨H.g.cell HE0.out.1, H.g.cell HE0.out.2.1, H.g.cell HE0.out.2.2.1, H.g.cell HE0.out.2.2.2⟩, ⟨H.g.cell HD0.out.1, H.g.cell HD0.out.2.1, H.g.cell HD0.out.2.2.1, H.g.cell HD0.out.2.2.2⟩, trivial⟩) (fun wx => ?_) ?_ ?_; rotate_left 2; (focus (go_simp; first | done | rfl)); (focus ((try simp only [Kr.PT]); first | done | rfl)))
      (refine Kr.tSQ 6 [] (v := .slice (some ⟨b2, off2, none⟩) ll cl2) (a' := ?_) rfl (by kernel_rfl) (fun _ _ _ h => h) (by rfl) ⟨(H.at 1 rfl), (H.at 0 rfl), ⟨H.g.cell HE0.out.1, H.g.cell HE0.out.2.1, H.g.cell HE0.out.2.2.1, H.g.cell HE0.out.2.2.2⟩, ⟨H.g.cell HD0.out.1, H.g.cell HD0.out.2.1, H.g.cell HD0.out.2.2.1, H.g.cell HD0.out.2.2.2⟩, trivial⟩ (fun wx hSx => ?_) ?_ ?_; rotate_left 1; (focus (exact Kr.valOf rfl (ldLs (rowCell (j := 3) hSx.2.1 rfl)))); (focus ((try simp only [Kr.PT]); first | done | rfl)))
      (refine Kr.tPQ 7 (v := ?_) (a' := ?_) rfl (by kernel_rfl) (fun _ _ _ h => h) (by rfl) (fun _ => ⟨(H.at 1 rfl), (H.at 0 rfl), ⟨H.g.cell HE0.out.1, H.g.cell HE0.out.2.1, H.g.cell HE0.out.2.2.1, H.g.cell HE0.out.2.2.2⟩, ⟨H.g.cell HD0.out.1, H.g.cell HD0.out.2.1, H.g.cell HD0.out.2.2.1, H.g.cell HD0.out.2.2.2⟩, trivial⟩) (fun wx => ?_) ?_ ?_; rotate_left 2; (focus (go_simp; first | done | rfl)); (focus ((try simp only [Kr.PT]); first | done | rfl)))
      (refine Kr.tPQ 8 (v := .pointer (some ⟨b2, off2 + j * 4, none⟩)) (a' := ?_) rfl (by kernel_rfl) (fun _ _ _ h => h) (by rfl) (fun _ => ⟨(H.at 1 rfl), (H.at 0 rfl), ⟨H.g.cell HE0.out.1, H.g.cell HE0.out.2.1, H.g.cell HE0.out.2.2.1, H.g.cell HE0.out.2.2.2⟩, ⟨H.g.cell HD0.out.1, H.g.cell HD0.out.2.1, H.g.cell HD0.out.2.2.1, H.g.cell HD0.out.2.2.2⟩, trivial⟩) (fun wx => ?_) ?_ ?_; rotate_left 1; (focus (exact Kr.valOf rfl (ixI hjl))); (focus ((try simp only [Kr.PT]); first | done | rfl)))
      (refine Kr.tSQ 9 [] (v := .agg #[u0, u1, u2, u3]) (a' := ?_) rfl (by kernel_rfl) (fun _ _ _ h => h) (by rfl) ⟨(H.at 1 rfl), (H.at 0 rfl), ⟨H.g.cell HE0.out.1, H.g.cell HE0.out.2.1, H.g.cell HE0.out.2.2.1, H.g.cell HE0.out.2.2.2⟩, ⟨H.g.cell HD0.out.1, H.g.cell HD0.out.2.1, H.g.cell HD0.out.2.2.1, H.g.cell HD0.out.2.2.2⟩, trivial⟩ (fun wx hSx => ?_) ?_ ?_; rotate_left 1; (focus (exact Kr.valOf rfl (ldItem hSx.2.2.2.1.1 hSx.2.2.2.1.2.1 hSx.2.2.2.1.2.2.1 hSx.2.2.2.1.2.2.2))); (focus ((try simp only [Kr.PT]); first | done | rfl)))
      refine Kr.readyL (rs := [10]) (by kernel_rfl) (by simp) ?_
      refine Kr.AllL.cons rfl (fun K hK => ?_) Kr.AllL.nil
      go_simp
      go_at_call 19
      have hP := ih (w := d3) (HCH.out.grow H.g) (HCH2.out.grow H.g)
      refine (hP).mono ?_
      rintro e y4 ⟨rfl, hg⟩
      replace H := H.grow hg
      clear hg
      clear hP
      (refine Kr.outL hK (a' := ?_) ?_ (fun _ => ⟨(H.at 1 rfl), (H.at 0 rfl), ⟨H.g.cell HE0.out.1, H.g.cell HE0.out.2.1, H.g.cell HE0.out.2.2.1, H.g.cell HE0.out.2.2.2⟩, ⟨H.g.cell HD0.out.1, H.g.cell HD0.out.2.1, H.g.cell HD0.out.2.2.1, H.g.cell HD0.out.2.2.2⟩, trivial⟩) ?_; rotate_left; (focus ((try simp only [Kr.PT]); first | done | rfl))); clear hK K
      (refine Kr.tPQ 11 (v := ?_) (a' := ?_) rfl (by kernel_rfl) (fun _ _ _ h => h) (by rfl) (fun _ => ⟨(H.at 1 rfl), (H.at 0 rfl), ⟨H.g.cell HE0.out.1, H.g.cell HE0.out.2.1, H.g.cell HE0.out.2.2.1, H.g.cell HE0.out.2.2.2⟩, ⟨H.g.cell HD0.out.1, H.g.cell HD0.out.2.1, H.g.cell HD0.out.2.2.1, H.g.cell HD0.out.2.2.2⟩, trivial⟩) (fun wx => ?_) ?_ ?_; rotate_left 2; (focus (go_simp; first | done | rfl)); (focus ((try simp only [Kr.PT]); first | done | rfl)))
      refine Kr.doneL (by kernel_rfl) ?_ _
      have HADD : IntKind.i64.wrap ((j : Int) + 1) = ((j + 1 : Nat) : Int) := wrap_nat (by omega) (by omega)
      go_upto_region 5 with fail
      refine Kr.seqStartW ?_
      (refine Kr.seqQ (v := ?_) (a' := ?_) (by rfl) ?_ ?_ ?_; rotate_left 2; (focus (go_simp; first | done | rfl)); (focus ((try simp only [Kr.PT]); first | done | rfl)))
      (refine Kr.seqQ (v := .int .i64 ((j + 1 : Nat) : Int)) (a' := ?_) (by rfl) ?_ ?_ ?_; rotate_left 1; (focus (exact Kr.valOf rfl (addI HADD))); (focus ((try simp only [Kr.PT]); first | done | rfl)))
      (refine Kr.seqQ (v := ?_) (a' := ?_) (by rfl) ?_ ?_ ?_; rotate_left 2; (focus (go_simp; first | done | rfl)); (focus ((try simp only [Kr.PT]); first | done | rfl)))
      refine Kr.seqDoneW ?_
      go_wp2; go_roundw
      case rel =>
        first
        | exact ⟨j + 1, by omega, rfl, Lib.hid H⟩
        | (repeat apply Exists.intro); exact ⟨⟨j + 1, by omega, rfl, Lib.hid H⟩, rfl⟩
        | (repeat apply Exists.intro); refine ⟨⟨j + 1, by omega, rfl, Lib.hid H⟩, ?_⟩; refine ⟨?_, ?_⟩ <;> (repeat apply And.intro) <;> rfl
      case measure => simp [intOf]; omega
theorem same_v : ∀ (k : Nat), ∀ {k2 : Nat} {F F2 : Nat → Prop} {v v2 : Value} {t : It} {w : World}, ItV w k F v t → ItV w k2 F2 v2 t → Calls Tryd.prog 19 #[v, v2] w fun e w' => e = .returned (.bool true) ∧ Gr w w'
  | 0, _, _, _, _, _, _, _, h, _ => h.elim
  | k + 1, _, _, _, _, _, _, _, h1, h2 => same_step (same_v k) h1 h2

set_option linter.unusedSimpArgs false in
set_option maxRecDepth 100000 in
set_option maxHeartbeats 16000000 in
theorem value_v {p : Option Addr} {n c : Nat} {l : List (BitVec 8)} {w : World} (hS : SrcB p l w) (hl : l.length = n) (hn : n ≤ 8) :
    Calls Tryd.prog 51 #[.slice p n c] w fun e w' => e = .returned (.int .u64 ((nb l).toNat : Int)) ∧ Gr w w' := by
  have HS := Lib.hid hS; clear hS; have hlt := nbN_lt l 0; rw [hl, Nat.zero_add, Nat.one_mul] at hlt; have h8 : (256 : Nat) ^ n ≤ 256 ^ 8 := Nat.pow_le_pow_right (by decide) hn; have h8b : (256 : Nat) ^ 8 = 18446744073709551616 := by decide
  have HNB := Lib.hid (nb_nat (l := l) (by omega)); rw [HNB.out]; have hnl : nbN l 0 < 18446744073709551616 := by omega
  clear hlt h8 h8b HNB
  have H := Ow.start w
  go_enter Tryd.func51, Tryd.ntmps51
  go_upto_region 0 with fail
  refine Kr.seqStartW ?_
  (refine Kr.seqQ (v := ?_) (a' := ?_) (by rfl) ?_ ?_ ?_; rotate_left 2; (focus (go_simp; first | done | rfl)); (focus ((try simp only [Kr.PT]); first | done | rfl)))
  refine Kr.seqDoneW ?_
  go_upto_region 1 with fail
  refine Kr.seqStartW ?_
  (refine Kr.seqQ (v := ?_) (a' := ?_) (by rfl) ?_ ?_ ?_; rotate_left 2; (focus (go_simp; first | done | rfl)); (focus ((try simp only [Kr.PT]); first | done | rfl)))
  refine Kr.seqDoneW ?_
  go_upto_region 2 with fail
  refine Kr.seqStartW ?_
  (refine Kr.seqQ (v := ?_) (a' := ?_) (by rfl) ?_ ?_ ?_; rotate_left 2; (focus (go_simp; first | done | rfl)); (focus ((try simp only [Kr.PT]); first | done | rfl)))
  refine Kr.seqDoneW ?_
  have H2 := Lib.hid H; clear H
  go_wp2_with fail
  go_loopw [3, 4] (fun nv iv wr => ∃ (j N : Nat), j ≤ n ∧ iv = .int .i64 (j : Int) ∧ nv = .int .u64 (N : Int) ∧ Hid (N = nbN (l.take j) 0) ∧ Hid (Ow w wr [])) (fun _ iv _ => (n - (intOf iv).toNat))
  case atStart => exact ⟨0, 0, by omega, rfl, rfl, Lib.hid rfl, H2⟩
  case round =>
    clear H2; obtain ⟨j, N, hj, rfl, rfl, HN, HH⟩ := hrel; have H := HH.out; clear HH
    by_cases hje : j = n
    · have C3 : decide ((j : Int) < (n : Int)) = false := decide_eq_false (by omega)
      have hN := HN.out; rw [List.take_of_length_le (by omega)] at hN; clear hje HN; rw [← hN] at hnl; have HNN := Lib.hid hN; clear hN
      go_upto_region 3 with fail
      refine Kr.seqStartW ?_
      (refine Kr.seqQ (v := ?_) (a' := ?_) (by rfl) ?_ ?_ ?_; rotate_left 2; (focus (go_simp; first | done | rfl)); (focus ((try simp only [Kr.PT]); first | done | rfl)))
      (refine Kr.seqQ (v := ?_) (a' := ?_) (by rfl) ?_ ?_ ?_; rotate_left 2; (focus (go_simp; first | done | rfl)); (focus ((try simp only [Kr.PT]); first | done | rfl)))
      (refine Kr.seqQ (v := .int .i64 (n : Int)) (a' := ?_) (by rfl) ?_ ?_ ?_; rotate_left 1; (focus (exact Kr.valOf rfl ((by go_simp)))); (focus ((try simp only [Kr.PT]); first | done | rfl)))
      (refine Kr.seqQ (v := .bool false) (a' := ?_) (by rfl) ?_ ?_ ?_; rotate_left 1; (focus (exact Kr.valOf rfl (lssT C3))); (focus ((try simp only [Kr.PT]); first | done | rfl)))
      refine Kr.seqDoneW ?_
      go_upto_region 6 with fail
      refine Kr.seqStartW ?_
      (refine Kr.seqQ (v := ?_) (a' := ?_) (by rfl) ?_ ?_ ?_; rotate_left 2; (focus (go_simp; first | done | rfl)); (focus ((try simp only [Kr.PT]); first | done | rfl)))
      (refine Kr.seqQ (v := ?_) (a' := ?_) (by rfl) ?_ ?_ ?_; rotate_left 2; (focus (go_simp; first | done | rfl)); (focus ((try simp only [Kr.PT]); first | done | rfl)))
      refine Kr.seqDoneW ?_
      have hk := trivial
      go_wp2
      refine bodyPost_ret (v := .int .u64 (N : Int)) (by simp [results, Tryd.results51, go_sem, hk]) rfl ⟨by rw [HNN.out], H.g⟩
    · have hjl : j < n := by omega
      have C3 : decide ((j : Int) < (n : Int)) = true := decide_eq_true (by omega)
      obtain ⟨x, hx⟩ : ∃ x, l[j]? = some x := ⟨_, List.getElem?_eq_getElem (by omega)⟩; obtain ⟨b, off, hpv, hB⟩ := src_some HS.out (by omega); subst hpv; have HXC := Lib.hid (hB j x hx); clear hB
      obtain ⟨N1, hN1⟩ : ∃ z, 256 * N = z := ⟨_, rfl⟩; obtain ⟨N2, hN2⟩ : ∃ z, N1 + x.toNat = z := ⟨_, rfl⟩; have hs := nbN_take hx; rw [← HN.out] at hs; have HN2 : Hid (N2 = nbN (l.take (j + 1)) 0) := Lib.hid (by omega)
      have hb2 : N2 < 18446744073709551616 := by
        have h1 := nbN_lt (l.take (j + 1)) 0
        rw [← HN2.out, List.length_take, Nat.zero_add, Nat.one_mul] at h1
        have h2 : (256 : Nat) ^ min (j + 1) l.length ≤ 256 ^ 8 := Nat.pow_le_pow_right (by decide) (by omega)
        have h3 : (256 : Nat) ^ 8 = 18446744073709551616 := by decide
        omega
      have HM1 := Lib.hid hN1; have HM2 := Lib.hid hN2; clear hs hx hje; have hb1 : N1 < 18446744073709551616 := by omega
      clear hN1 hN2
      go_upto_region 3 with fail
      refine Kr.seqStartW ?_
      (refine Kr.seqQ (v := ?_) (a' := ?_) (by rfl) ?_ ?_ ?_; rotate_left 2; (focus (go_simp; first | done | rfl)); (focus ((try simp only [Kr.PT]); first | done | rfl)))
      (refine Kr.seqQ (v := ?_) (a' := ?_) (by rfl) ?_ ?_ ?_; rotate_left 2; (focus (go_simp; first | done | rfl)); (focus ((try simp only [Kr.PT]); first | done | rfl)))
      (refine Kr.seqQ (v := .int .i64 (n : Int)) (a' := ?_) (by rfl) ?_ ?_ ?_; rotate_left 1; (focus (exact Kr.valOf rfl ((by go_simp)))); (focus ((try simp only [Kr.PT]); first | done | rfl)))
      (refine Kr.seqQ (v := .bool true) (a' := ?_) (by rfl) ?_ ?_ ?_; rotate_left 1; (focus (exact Kr.valOf rfl (lssT C3))); (focus ((try simp only [Kr.PT]); first | done | rfl)))
      refine Kr.seqDoneW ?_
      go_upto_region 5 with fail
      refine Kr.seqStartW ?_
      (refine Kr.seqQ (v := ?_) (a' := ?_) (by rfl) ?_ ?_ ?_; rotate_left 2; (focus (go_simp; first | done | rfl)); (focus ((try simp only [Kr.PT]); first | done | rfl)))
      (refine Kr.seqQ (v := .int .u64 (N1 : Int)) (a' := ?_) (by rfl) ?_ ?_ ?_; rotate_left 1; (focus (exact Kr.valOf rfl (mulU HM1.out hb1))); (focus ((try simp only [Kr.PT]); first | done | rfl)))
      (refine Kr.seqQ (v := ?_) (a' := ?_) (by rfl) ?_ ?_ ?_; rotate_left 2; (focus (go_simp; first | done | rfl)); (focus ((try simp only [Kr.PT]); first | done | rfl)))
      (refine Kr.seqQ (v := ?_) (a' := ?_) (by rfl) ?_ ?_ ?_; rotate_left 2; (focus (go_simp; first | done | rfl)); (focus ((try simp only [Kr.PT]); first | done | rfl)))
      (refine Kr.seqQ (v := .pointer (some ⟨b, off + j, none⟩)) (a' := ?_) (by rfl) ?_ ?_ ?_; rotate_left 1; (focus (exact Kr.valOf rfl (ixB hjl))); (focus ((try simp only [Kr.PT]); first | done | rfl)))
      (refine Kr.seqQ (v := .int .u8 ((x).toNat : Int)) (a' := ?_) (by rfl) ?_ ?_ ?_; rotate_left 1; (focus (exact Kr.valOf rfl (ldE8 (H.g.cell HXC.out)))); (focus ((try simp only [Kr.PT]); first | done | rfl)))
      (refine Kr.seqQ (v := .int .u64 (x.toNat : Int)) (a' := ?_) (by rfl) ?_ ?_ ?_; rotate_left 1; (focus (exact Kr.valOf rfl (cvB64))); (focus ((try simp only [Kr.PT]); first | done | rfl)))
      (refine Kr.seqQ (v := .int .u64 (N2 : Int)) (a' := ?_) (by rfl) ?_ ?_ ?_; rotate_left 1; (focus (exact Kr.valOf rfl (addU HM2.out hb2))); (focus ((try simp only [Kr.PT]); first | done | rfl)))
      (refine Kr.seqQ (v := ?_) (a' := ?_) (by rfl) ?_ ?_ ?_; rotate_left 2; (focus (go_simp; first | done | rfl)); (focus ((try simp only [Kr.PT]); first | done | rfl)))
      refine Kr.seqDoneW ?_
      have HADD : IntKind.i64.wrap ((j : Int) + 1) = ((j + 1 : Nat) : Int) := wrap_nat (by omega) (by omega)
      go_upto_region 4 with fail
      refine Kr.seqStartW ?_
      (refine Kr.seqQ (v := ?_) (a' := ?_) (by rfl) ?_ ?_ ?_; rotate_left 2; (focus (go_simp; first | done | rfl)); (focus ((try simp only [Kr.PT]); first | done | rfl)))
      (refine Kr.seqQ (v := .int .i64 ((j + 1 : Nat) : Int)) (a' := ?_) (by rfl) ?_ ?_ ?_; rotate_left 1; (focus (exact Kr.valOf rfl (addI HADD))); (focus ((try simp only [Kr.PT]); first | done | rfl)))
      (refine Kr.seqQ (v := ?_) (a' := ?_) (by rfl) ?_ ?_ ?_; rotate_left 2; (focus (go_simp; first | done | rfl)); (focus ((try simp only [Kr.PT]); first | done | rfl)))
      refine Kr.seqDoneW ?_
      go_wp2; go_roundw
      case rel =>
        first
        | exact ⟨j + 1, N2, by omega, rfl, rfl, HN2, Lib.hid H⟩
        | (repeat apply Exists.intro); exact ⟨⟨j + 1, N2, by omega, rfl, rfl, HN2, Lib.hid H⟩, rfl⟩
        | (repeat apply Exists.intro); refine ⟨⟨j + 1, N2, by omega, rfl, rfl, HN2, Lib.hid H⟩, ?_⟩; refine ⟨?_, ?_⟩ <;> (repeat apply And.intro) <;> rfl
      case measure => simp [intOf]; omega
end Go.Proofs.YtcngcdfngifjnaaDoor.Dg
