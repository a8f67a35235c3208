/- The reference's read (a list). -/
import Derived.Test.YtlollhmheakcfaaDoorQBx
import Derived.Deep.Cut
namespace Go.Proofs.YtlollhmheakcfaaDoor.Dg
open Go Go.RowKit Go.Proofs.YtlollhmheakcfaaDoor.Ne Go.Proofs.YtlollhmheakcfaaDoor.Kr

theorem wp_appJ {B : Nat} {W : World} {o : Oper} {a : Act} {K : Act → World → Prop} {Q : Exit → Act → World → Prop} (s x : Operand) (ho : o.op = .call { callee := .builtin .append, args := #[s, x], argTypes := #[23, 23] })
    {v : Value} {k bone : Nat} {xs : List Value} {v0 v1 v2 v3 : Value} (hs : a.eval s = v) (hx : a.eval x = .slice (some ⟨bone, 0, none⟩) 1 1) (hsrc : SrcG (some ⟨bone, 0, none⟩) [v0, v1, v2, v3] W) (h1 : ∀ u ∈ ([v0, v1, v2, v3] : List Value), u.oneCell' = true)
    (hB : B ≤ W.heap.size) (HR : W.ownsRow B 25 4 v k xs) (hb : k ≤ 100000)
    (h : ∀ u W', W'.ownsRow B 25 4 u (k + 1) (xs ++ [v0, v1, v2, v3]) → W.grownBy W' v.ownBlock → (u.ownBlock = v.ownBlock ∨ u.ownBlock = some W.heap.size) → K (a.put o.dst u) W') : o.wp Tryd.prog a W K Q := by
  obtain ⟨i0, hi0, hz0, hz1, hz2⟩ := infoItB
  have hbytes : (k + 1) * i0.bytes ≤ 140737488355328 := by
    have : (k + 1) * i0.bytes ≤ 100001 * 100 := Nat.mul_le_mul (by omega) hz2
    omega
  obtain ⟨u, W', hr, ho1, hg1, _, hb1⟩ := run_append_own_at (P := Tryd.prog) W B 23 o.type 25 i0 _ 4 i0.bytes Tryd.underlying23 hi0 hz0 hz1 rfl (by rfl) (by decide) v k xs HR ⟨bone, 0, none⟩ 1 1 [v0, v1, v2, v3] rfl (fun j u hj => by
    rcases hsrc with h0 | ⟨b, off, e, h2⟩
    · cases h0
    · cases e
      rw [addr_add]; exact h2 j u hj) h1 (by unfold maxLen; omega) hbytes hB
  unfold Oper.wp execOp
  simp only [ho, resolve, invoke, builtin, Sem.run_bind, Sem.run_pure, Result.andThen_ok, List.map_toArray, List.map_cons, List.map_nil, hs, hx, hr]
  exact h u W' ho1 hg1 hb1
/-- The loop over the items of a list. -/
def LR (w w1 W : World) (b d nn : Nat) (L : List (BitVec 8)) (Z : Except Int (List It × Nat)) (v : Value) (k q ps c : Nat) : Prop :=
  ∃ xs ts m, w1.heap.size ≤ W.heap.size ∧ W.ownsRow w1.heap.size 25 4 v k xs ∧ ts.length = k ∧ Z = pref ts m (rdl (rd d) (nn - k) (L.drop m)) ∧ m ≤ L.length ∧ Kids w1 W (d + 1) v xs ts ∧ q = L.length - m ∧ q ≤ c ∧ SrcB (some ⟨b, ps, none⟩) (L.drop m) w

set_option linter.unusedSimpArgs false in
set_option maxRecDepth 100000 in
set_option maxHeartbeats 16000000 in
theorem read_k3 {d : Nat} (ih : ∀ {w : World} {b off n c wi : Nat} {l : List (BitVec 8)} (_ : wi + d = 8) (_ : SrcB (some ⟨b, off, none⟩) l w) (_ : l.length = n) (_ : n ≤ 20000) (_ : n ≤ c), Calls Tryd.prog 42 #[.slice (some ⟨b, off, none⟩) n c, .int .i64 (wi : Int)] w fun o w' => ReadP w b d l o w') {w : World} {b off n c wi : Nat} {kb : BitVec 8} {l L2 : List (BitVec 8)} (hw : wi + (d + 1) = 8) (hS : SrcB (some ⟨b, off, none⟩) l w) (hl : l.length = n) (hn : n ≤ 20000) (hc : n ≤ c) (hkv : (kb.toNat : Int) = 3) (hL0 : l = kb :: L2) (hx : ¬ L2.length < 4) (hy : ¬ 1000 < (nb (L2.take 4)).toNat) :
    Calls Tryd.prog 42 #[.slice (some ⟨b, off, none⟩) n c, .int .i64 (wi : Int)] w fun o w' => ReadP w b (d + 1) l o w' := by
  have HS := Lib.hid hS; clear hS; have hwi := hw; clear hwi; have hwi := hn; clear hwi
  have hn1 : 1 + L2.length = n := by rw [← hl, hL0, List.length_cons]; omega
  obtain ⟨n1, hN1⟩ : ∃ z, L2.length = z := ⟨_, rfl⟩; rw [hN1] at hn1; obtain ⟨c1, hC1⟩ : ∃ z, c - 1 = z := ⟨_, rfl⟩; have hnc1 : n1 ≤ c1 := by omega
  have hn0 : 0 < n := (by omega); have HKB : Hid (w.cell? ⟨b, off, none⟩ = some (w8 kb)) := Lib.hid (by
    obtain ⟨b2, off2, e2, hB⟩ := src_some HS.out (by omega)
    cases e2
    exact hB 0 kb (by rw [hL0]; rfl))
  have hbw : b < w.heap.size := src_lt HS.out rfl (by omega); obtain ⟨o1, ho1, hS1⟩ := srcB_drop (a := 1) HS.out hl hc (by omega); rw [show l.drop 1 = L2 from by rw [hL0]; rfl] at hS1; have HS1 := Lib.hid hS1; have HO1 := Lib.hid ho1; clear hS1 ho1
  obtain ⟨RES, hRS⟩ : ∃ z, rd (d + 1) l = z := ⟨_, rfl⟩; have HRES := Lib.hid hRS; clear hRS; have HL0 := Lib.hid hL0; clear hL0; have HKV := Lib.hid hkv; clear hkv; have HC1 := Lib.hid hC1; clear hC1
  have H := Ow.start w
  go_enter Tryd.func42, Tryd.ntmps42
  go_upto_region 0 with fail
  refine Kr.seqStartW ?_
  refine Kr.seqR (by rfl) (fun K hK => ?_)
  refine wp_runV rfl newI ?_
  obtain ⟨y1, hy⟩ : ∃ y, w.alloc (.cells ([.int .i64 0, .int .i64 0, .slice none 0 0, .slice none 0 0]).toArray 25) = y := ⟨_, rfl⟩
  obtain ⟨bz, hb⟩ : ∃ b, w.heap.size = b := ⟨_, rfl⟩
  rw [hy, hb]
  have hg : Gr w y1 := hy ▸ (Gr.refl _).alloc _
  replace H := H.alloc hy hb
  clear hy hb hg
  (refine Kr.outS hK (a' := ?_) ?_ ?_; rotate_left; (focus ((try simp only [Kr.PT]); first | done | rfl))); clear hK K
  (refine Kr.seqQ (v := ?_) (a' := ?_) (by rfl) ?_ ?_ ?_; rotate_left 2; (focus (go_simp; first | done | rfl)); (focus ((try simp only [Kr.PT]); first | done | rfl)))
  (refine Kr.seqQ (v := ?_) (a' := ?_) (by rfl) ?_ ?_ ?_; rotate_left 2; (focus (go_simp; first | done | rfl)); (focus ((try simp only [Kr.PT]); first | done | rfl)))
  refine Kr.seqDoneW ?_
  have E1 : decide ((n : Int) = 0) = false := decide_eq_false (by omega)
  go_upto_region 1 with fail
  refine Kr.seqStartW ?_
  (refine Kr.seqQ (v := ?_) (a' := ?_) (by rfl) ?_ ?_ ?_; rotate_left 2; (focus (go_simp; first | done | rfl)); (focus ((try simp only [Kr.PT]); first | done | rfl)))
  (refine Kr.seqQ (v := .int .i64 (n : Int)) (a' := ?_) (by rfl) ?_ ?_ ?_; rotate_left 1; (focus (exact Kr.valOf rfl ((by go_simp)))); (focus ((try simp only [Kr.PT]); first | done | rfl)))
  (refine Kr.seqQ (v := .bool false) (a' := ?_) (by rfl) ?_ ?_ ?_; rotate_left 1; (focus (exact Kr.valOf rfl (eqlI E1))); (focus ((try simp only [Kr.PT]); first | done | rfl)))
  refine Kr.seqDoneW ?_
  clear E1
  go_upto_region 3 with fail
  refine Kr.seqStartW ?_
  (refine Kr.seqQ (v := ?_) (a' := ?_) (by rfl) ?_ ?_ ?_; rotate_left 2; (focus (go_simp; first | done | rfl)); (focus ((try simp only [Kr.PT]); first | done | rfl)))
  (refine Kr.seqQ (v := .pointer (some ⟨b, off, none⟩)) (a' := ?_) (by rfl) ?_ ?_ ?_; rotate_left 1; (focus (exact Kr.valOf rfl (ix0 hn0))); (focus ((try simp only [Kr.PT]); first | done | rfl)))
  (refine Kr.seqQ (v := .int .u8 ((kb).toNat : Int)) (a' := ?_) (by rfl) ?_ ?_ ?_; rotate_left 1; (focus (exact Kr.valOf rfl (ldE8 (H.g.cell HKB.out)))); (focus ((try simp only [Kr.PT]); first | done | rfl)))
  (refine Kr.seqQ (v := .int .i64 3) (a' := ?_) (by rfl) ?_ ?_ ?_; rotate_left 1; (focus (exact Kr.valOf rfl (cvBk HKV.out))); (focus ((try simp only [Kr.PT]); first | done | rfl)))
  (refine Kr.seqQ (v := ?_) (a' := ?_) (by rfl) ?_ ?_ ?_; rotate_left 2; (focus (go_simp; first | done | rfl)); (focus ((try simp only [Kr.PT]); first | done | rfl)))
  refine Kr.seqDoneW ?_
  go_upto_region 4 with fail
  refine Kr.seqStartW ?_
  (refine Kr.seqQ (v := ?_) (a' := ?_) (by rfl) ?_ ?_ ?_; rotate_left 2; (focus (go_simp; first | done | rfl)); (focus ((try simp only [Kr.PT]); first | done | rfl)))
  (refine Kr.seqQ (v := .slice (some ⟨b, o1, none⟩) n1 c1) (a' := ?_) (by rfl) ?_ ?_ ?_; rotate_left 1; (focus (exact Kr.valOf rfl (slA (a := 1) rfl hn1 hc (by omega) HO1.out HC1.out))); (focus ((try simp only [Kr.PT]); first | done | rfl)))
  (refine Kr.seqQ (v := ?_) (a' := ?_) (by rfl) ?_ ?_ ?_; rotate_left 2; (focus (go_simp; first | done | rfl)); (focus ((try simp only [Kr.PT]); first | done | rfl)))
  refine Kr.seqDoneW ?_
  have A1 : decide ((3 : Int) < 1) = false := decide_eq_false (by decide)
  have A4 : decide ((3 : Int) < 3) = false := decide_eq_false (by decide)
  have A8 : decide ((3 : Int) = 3) = true := decide_eq_true (by decide)
  have A11 : decide ((wi : Int) = 8) = false := decide_eq_false (by omega)
  go_upto_region 5 with fail
  refine Kr.seqStartW ?_
  (refine Kr.seqQ (v := ?_) (a' := ?_) (by rfl) ?_ ?_ ?_; rotate_left 2; (focus (go_simp; first | done | rfl)); (focus ((try simp only [Kr.PT]); first | done | rfl)))
  (refine Kr.seqQ (v := .bool false) (a' := ?_) (by rfl) ?_ ?_ ?_; rotate_left 1; (focus (exact Kr.valOf rfl (lssT A1))); (focus ((try simp only [Kr.PT]); first | done | rfl)))
  (refine Kr.seqQ (v := ?_) (a' := ?_) (by rfl) ?_ ?_ ?_; rotate_left 2; (focus (go_simp; first | done | rfl)); (focus ((try simp only [Kr.PT]); first | done | rfl)))
  (refine Kr.seqQ (v := ?_) (a' := ?_) (by rfl) ?_ ?_ ?_; rotate_left 2; (focus (go_simp; first | done | rfl)); (focus ((try simp only [Kr.PT]); first | done | rfl)))
  (refine Kr.seqQ (v := .bool false) (a' := ?_) (by rfl) ?_ ?_ ?_; rotate_left 1; (focus (exact Kr.valOf rfl (gtrI A4))); (focus ((try simp only [Kr.PT]); first | done | rfl)))
  (refine Kr.seqQ (v := ?_) (a' := ?_) (by rfl) ?_ ?_ ?_; rotate_left 2; (focus (go_simp; first | done | rfl)); (focus ((try simp only [Kr.PT]); first | done | rfl)))
  (refine Kr.seqQ (v := ?_) (a' := ?_) (by rfl) ?_ ?_ ?_; rotate_left 2; (focus (go_simp; first | done | rfl)); (focus ((try simp only [Kr.PT]); first | done | rfl)))
  (refine Kr.seqQ (v := ?_) (a' := ?_) (by rfl) ?_ ?_ ?_; rotate_left 2; (focus (go_simp; first | done | rfl)); (focus ((try simp only [Kr.PT]); first | done | rfl)))
  (refine Kr.seqQ (v := .bool true) (a' := ?_) (by rfl) ?_ ?_ ?_; rotate_left 1; (focus (exact Kr.valOf rfl (eqlI A8))); (focus ((try simp only [Kr.PT]); first | done | rfl)))
  (refine Kr.seqQ (v := ?_) (a' := ?_) (by rfl) ?_ ?_ ?_; rotate_left 2; (focus (go_simp; first | done | rfl)); (focus ((try simp only [Kr.PT]); first | done | rfl)))
  (refine Kr.seqQ (v := ?_) (a' := ?_) (by rfl) ?_ ?_ ?_; rotate_left 2; (focus (go_simp; first | done | rfl)); (focus ((try simp only [Kr.PT]); first | done | rfl)))
  (refine Kr.seqQ (v := .bool false) (a' := ?_) (by rfl) ?_ ?_ ?_; rotate_left 1; (focus (exact Kr.valOf rfl (eqlI A11))); (focus ((try simp only [Kr.PT]); first | done | rfl)))
  (refine Kr.seqQ (v := ?_) (a' := ?_) (by rfl) ?_ ?_ ?_; rotate_left 2; (focus (go_simp; first | done | rfl)); (focus ((try simp only [Kr.PT]); first | done | rfl)))
  (refine Kr.seqQ (v := ?_) (a' := ?_) (by rfl) ?_ ?_ ?_; rotate_left 2; (focus (go_simp; first | done | rfl)); (focus ((try simp only [Kr.PT]); first | done | rfl)))
  (refine Kr.seqQ (v := ?_) (a' := ?_) (by rfl) ?_ ?_ ?_; rotate_left 2; (focus (go_simp; first | done | rfl)); (focus ((try simp only [Kr.PT]); first | done | rfl)))
  refine Kr.seqDoneW ?_
  clear A1 A4 A8 A11
  have B1 : decide ((3 : Int) = 1) = false := decide_eq_false (by decide)
  have B10 : decide ((n1 : Int) < 4) = false := decide_eq_false (by omega)
  go_upto_region 7 with fail
  refine Kr.seqStartW ?_
  (refine Kr.seqQ (v := ?_) (a' := ?_) (by rfl) ?_ ?_ ?_; rotate_left 2; (focus (go_simp; first | done | rfl)); (focus ((try simp only [Kr.PT]); first | done | rfl)))
  (refine Kr.seqQ (v := .bool false) (a' := ?_) (by rfl) ?_ ?_ ?_; rotate_left 1; (focus (exact Kr.valOf rfl (eqlI B1))); (focus ((try simp only [Kr.PT]); first | done | rfl)))
  (refine Kr.seqQ (v := ?_) (a' := ?_) (by rfl) ?_ ?_ ?_; rotate_left 2; (focus (go_simp; first | done | rfl)); (focus ((try simp only [Kr.PT]); first | done | rfl)))
  (refine Kr.seqSkipQ (a' := ?_) (by rfl) ?_ ?_; rotate_left; (focus ((try simp only [Kr.PT]); first | done | rfl)))
  (refine Kr.seqSkipQ (a' := ?_) (by rfl) ?_ ?_; rotate_left; (focus ((try simp only [Kr.PT]); first | done | rfl)))
  (refine Kr.seqSkipQ (a' := ?_) (by rfl) ?_ ?_; rotate_left; (focus ((try simp only [Kr.PT]); first | done | rfl)))
  (refine Kr.seqQ (v := ?_) (a' := ?_) (by rfl) ?_ ?_ ?_; rotate_left 2; (focus (go_simp; first | done | rfl)); (focus ((try simp only [Kr.PT]); first | done | rfl)))
  (refine Kr.seqQ (v := ?_) (a' := ?_) (by rfl) ?_ ?_ ?_; rotate_left 2; (focus (go_simp; first | done | rfl)); (focus ((try simp only [Kr.PT]); first | done | rfl)))
  (refine Kr.seqQ (v := ?_) (a' := ?_) (by rfl) ?_ ?_ ?_; rotate_left 2; (focus (go_simp; first | done | rfl)); (focus ((try simp only [Kr.PT]); first | done | rfl)))
  (refine Kr.seqQ (v := .int .i64 (n1 : Int)) (a' := ?_) (by rfl) ?_ ?_ ?_; rotate_left 1; (focus (exact Kr.valOf rfl ((by go_simp)))); (focus ((try simp only [Kr.PT]); first | done | rfl)))
  (refine Kr.seqQ (v := .bool false) (a' := ?_) (by rfl) ?_ ?_ ?_; rotate_left 1; (focus (exact Kr.valOf rfl (lssT B10))); (focus ((try simp only [Kr.PT]); first | done | rfl)))
  (refine Kr.seqQ (v := ?_) (a' := ?_) (by rfl) ?_ ?_ ?_; rotate_left 2; (focus (go_simp; first | done | rfl)); (focus ((try simp only [Kr.PT]); first | done | rfl)))
  (refine Kr.seqQ (v := ?_) (a' := ?_) (by rfl) ?_ ?_ ?_; rotate_left 2; (focus (go_simp; first | done | rfl)); (focus ((try simp only [Kr.PT]); first | done | rfl)))
  refine Kr.seqDoneW ?_
  go_upto_region 9 with fail
  refine Kr.seqStartW ?_
  (refine Kr.seqQ (v := ?_) (a' := ?_) (by rfl) ?_ ?_ ?_; rotate_left 2; (focus (go_simp; first | done | rfl)); (focus ((try simp only [Kr.PT]); first | done | rfl)))
  (refine Kr.seqQ (v := .bool false) (a' := ?_) (by rfl) ?_ ?_ ?_; rotate_left 1; (focus (exact Kr.valOf rfl (eqlI B1))); (focus ((try simp only [Kr.PT]); first | done | rfl)))
  (refine Kr.seqQ (v := ?_) (a' := ?_) (by rfl) ?_ ?_ ?_; rotate_left 2; (focus (go_simp; first | done | rfl)); (focus ((try simp only [Kr.PT]); first | done | rfl)))
  refine Kr.seqDoneW ?_
  obtain ⟨o2, ho2, hS2⟩ := srcB_drop (a := 4) HS1.out hN1 hnc1 (by omega); obtain ⟨L3, hL3⟩ : ∃ z, L2.drop 4 = z := ⟨_, rfl⟩; rw [hL3] at hS2; have HS2 := Lib.hid hS2; have HO2 := Lib.hid ho2; clear hS2 ho2; obtain ⟨n2, hN2⟩ : ∃ z, L3.length = z := ⟨_, rfl⟩; have hn2 : 4 + n2 = n1 := (by rw [← hN2, ← hL3, List.length_drop]; omega)
  obtain ⟨c2, hC2⟩ : ∃ z, c1 - 4 = z := ⟨_, rfl⟩; have hnc2 : n2 ≤ c2 := by omega
  have HL3 := Lib.hid hL3; clear hL3; have HC2 := Lib.hid hC2; clear hC2
  have HQL : Hid ((L2.take 4).length = 4) := Lib.hid (by rw [List.length_take]; omega)
  have hqn := nb4 HQL.out; obtain ⟨nn, hnn⟩ : ∃ z, (nb (L2.take 4)).toNat = z := ⟨_, rfl⟩; rw [hnn] at hqn; have HQV := Lib.hid hqn.1; rw [hnn] at hy; have hnnb := hqn.2; clear hqn; have HNN := Lib.hid hnn; clear hnn
  go_upto_region 11 with fail
  refine Kr.seqStartW ?_
  (refine Kr.seqQ (v := ?_) (a' := ?_) (by rfl) ?_ ?_ ?_; rotate_left 2; (focus (go_simp; first | done | rfl)); (focus ((try simp only [Kr.PT]); first | done | rfl)))
  (refine Kr.seqQ (v := .slice (some ⟨b, o1, none⟩) 4 c1) (a' := ?_) (by rfl) ?_ ?_ ?_; rotate_left 1; (focus (exact Kr.valOf rfl (slE (e := 4) rfl (by omega) (by decide)))); (focus ((try simp only [Kr.PT]); first | done | rfl)))
  refine Kr.seqR (by rfl) (fun K hK => ?_)
  go_simp
  go_at_call 51
  refine (value_v (c := c1) (srcB_tk 4 (HS1.out.grow H.g)) HQL.out (by decide)).mono ?_
  rintro e y2 ⟨rfl, hg⟩
  replace H := H.grow hg
  clear hg
  (refine Kr.outS hK (a' := ?_) ?_ ?_; rotate_left; (focus ((try simp only [Kr.PT]); first | done | rfl))); clear hK K
  (refine Kr.seqQ (v := .int .i64 (nn : Int)) (a' := ?_) (by rfl) ?_ ?_ ?_; rotate_left 1; (focus (exact Kr.valOf rfl (cvUz HQV.out))); (focus ((try simp only [Kr.PT]); first | done | rfl)))
  (refine Kr.seqQ (v := ?_) (a' := ?_) (by rfl) ?_ ?_ ?_; rotate_left 2; (focus (go_simp; first | done | rfl)); (focus ((try simp only [Kr.PT]); first | done | rfl)))
  refine Kr.seqDoneW ?_
  go_upto_region 12 with fail
  refine Kr.seqStartW ?_
  (refine Kr.seqQ (v := ?_) (a' := ?_) (by rfl) ?_ ?_ ?_; rotate_left 2; (focus (go_simp; first | done | rfl)); (focus ((try simp only [Kr.PT]); first | done | rfl)))
  (refine Kr.seqQ (v := .slice (some ⟨b, o2, none⟩) n2 c2) (a' := ?_) (by rfl) ?_ ?_ ?_; rotate_left 1; (focus (exact Kr.valOf rfl (slA (a := 4) rfl hn2 hnc1 (by omega) HO2.out HC2.out))); (focus ((try simp only [Kr.PT]); first | done | rfl)))
  (refine Kr.seqQ (v := ?_) (a' := ?_) (by rfl) ?_ ?_ ?_; rotate_left 2; (focus (go_simp; first | done | rfl)); (focus ((try simp only [Kr.PT]); first | done | rfl)))
  refine Kr.seqDoneW ?_
  have D2 : decide ((3 : Int) = 2) = false := decide_eq_false (by decide)
  go_upto_region 13 with fail
  refine Kr.seqStartW ?_
  (refine Kr.seqQ (v := ?_) (a' := ?_) (by rfl) ?_ ?_ ?_; rotate_left 2; (focus (go_simp; first | done | rfl)); (focus ((try simp only [Kr.PT]); first | done | rfl)))
  (refine Kr.seqQ (v := .bool false) (a' := ?_) (by rfl) ?_ ?_ ?_; rotate_left 1; (focus (exact Kr.valOf rfl (eqlI D2))); (focus ((try simp only [Kr.PT]); first | done | rfl)))
  refine Kr.seqDoneW ?_
  clear D2
  have D4 : decide ((1000 : Int) < (nn : Int)) = false := decide_eq_false (by omega)
  go_upto_region 17 with fail
  refine Kr.seqStartW ?_
  (refine Kr.seqQ (v := ?_) (a' := ?_) (by rfl) ?_ ?_ ?_; rotate_left 2; (focus (go_simp; first | done | rfl)); (focus ((try simp only [Kr.PT]); first | done | rfl)))
  (refine Kr.seqQ (v := .bool false) (a' := ?_) (by rfl) ?_ ?_ ?_; rotate_left 1; (focus (exact Kr.valOf rfl (gtrI D4))); (focus ((try simp only [Kr.PT]); first | done | rfl)))
  refine Kr.seqDoneW ?_
  clear D4
  go_upto_region 19 with fail
  refine Kr.seqStartW ?_
  (refine Kr.seqQ (v := ?_) (a' := ?_) (by rfl) ?_ ?_ ?_; rotate_left 2; (focus (go_simp; first | done | rfl)); (focus ((try simp only [Kr.PT]); first | done | rfl)))
  (refine Kr.seqQ (v := .agg #[.int .i64 3, .int .i64 0, .slice none 0 0, .slice none 0 0]) (a' := ?_) (by rfl) ?_ ?_ ?_; rotate_left 1; (focus (go_simp; first | done | rfl)); (focus ((try simp only [Kr.PT]); first | done | rfl)))
  refine Kr.seqR (by rfl) (fun K hK => ?_)
  refine wp_runV rfl newI ?_
  obtain ⟨y3, hy⟩ : ∃ y, y2.alloc (.cells ([.int .i64 0, .int .i64 0, .slice none 0 0, .slice none 0 0]).toArray 25) = y := ⟨_, rfl⟩
  obtain ⟨bo, hb⟩ : ∃ b, y2.heap.size = b := ⟨_, rfl⟩
  rw [hy, hb]
  have hg : Gr y2 y3 := hy ▸ (Gr.refl _).alloc _
  replace H := H.alloc hy hb
  clear hy hb hg
  (refine Kr.outS hK (a' := ?_) ?_ ?_; rotate_left; (focus ((try simp only [Kr.PT]); first | done | rfl))); clear hK K
  refine Kr.seqR (by rfl) (fun K hK => ?_)
  refine wp_run rfl (stI (H.at 0 rfl) one4) ?_
  obtain ⟨y4, hy⟩ : ∃ y, y3.setRow bo ([.int .i64 3, .int .i64 0, .slice none 0 0, .slice none 0 0]).toArray = y := ⟨_, rfl⟩
  rw [hy]
  replace H := H.put 0 hy rfl
  dsimp only [List.set] at H
  clear hy
  (refine Kr.outS hK (a' := ?_) ?_ ?_; rotate_left; (focus ((try simp only [Kr.PT]); first | done | rfl))); clear hK K
  refine Kr.seqDoneW ?_
  obtain ⟨Z, hZ⟩ : ∃ z, rdl (rd d) nn L3 = z := ⟨_, rfl⟩
  have HRZ : Hid (rd (d + 1) l = sh1 (sh4 Z)) := Lib.hid (by
    rw [HL0.out, key_eq (z := 3) (by decide) HKV.out]
    exact (rd_3 L2 d).trans (by rw [rdB, if_neg (by omega), HNN.out, HL3.out, if_neg (by omega), hZ]))
  have hZ2 : Z = pref [] 0 (rdl (rd d) (nn - 0) (L3.drop 0)) := by
    rw [Nat.sub_zero, List.drop_zero, hZ]
    cases Z with
    | error e => rfl
    | ok x => obtain ⟨xs, m⟩ := x; simp [pref]
  obtain ⟨w1, hw1⟩ : ∃ z, y4 = z := ⟨_, rfl⟩; have HSW1 : Hid (w.heap.size ≤ w1.heap.size) := Lib.hid (hw1 ▸ H.g.size); have HBO1 : Hid (bo < w1.heap.size) := Lib.hid (hw1 ▸ lt_of_heap (H.at 0 rfl)); have HBZ1 : Hid (bz < w1.heap.size) := Lib.hid (hw1 ▸ lt_of_heap (H.at 1 rfl))
  have hlr : LR w w1 y4 b d nn L3 Z (.slice none 0 0) 0 n2 o2 c2 := ⟨[], [], 0, Nat.le_of_eq (by rw [hw1]), World.ownsRow_nil _ _ _ _, rfl, hZ2, Nat.zero_le _, ⟨fun _ => False, fun b hb => hb.elim, fun j x hx => by simp at hx⟩, by omega, hnc2, HS2.out⟩; have HLR0 := Lib.hid hlr; clear hlr hZ2 hZ hw1
  go_upto_region 20 with fail
  refine Kr.seqStartW ?_
  (refine Kr.seqQ (v := ?_) (a' := ?_) (by rfl) ?_ ?_ ?_; rotate_left 2; (focus (go_simp; first | done | rfl)); (focus ((try simp only [Kr.PT]); first | done | rfl)))
  refine Kr.seqDoneW ?_
  have H2 := Lib.hid H; clear H
  go_wp2_with fail
  go_loopw [0, 10] (fun bv kv wr => ∃ (k q ps c3 : Nat) (pl : Option Addr) (cl : Nat), k ≤ nn ∧ bv = .slice (some ⟨b, ps, none⟩) q c3 ∧ kv = .int .i64 (k : Int) ∧ Hid (LR w w1 wr b d nn L3 Z (.slice pl k cl) k q ps c3) ∧ Hid (Ow w wr [(bo, 25, [.int .i64 3, .int .i64 0, .slice none 0 0, .slice pl k cl]), (bz, 25, [.int .i64 0, .int .i64 0, .slice none 0 0, .slice none 0 0])])) (fun _ kv _ => (nn - (intOf kv).toNat))
  case atStart => exact ⟨0, n2, o2, c2, none, 0, Nat.zero_le _, rfl, rfl, HLR0, H2⟩
  case round =>
    clear H2 HLR0; obtain ⟨k, q, ps, c3, pl, cl, hk, rfl, rfl, HLR, HH⟩ := hrel; have H := HH.out; clear HH
    obtain ⟨xs, ts, m, hsz, hrow, hts, hz, hm, hkids, hq, hqc, hSP⟩ := HLR.out; have HSZ1 := Lib.hid hsz; have HROW := Lib.hid hrow; have HTS := Lib.hid hts; have HZ := Lib.hid hz; have HKID := Lib.hid hkids; have HSP := Lib.hid hSP; clear hsz hrow hts hz hkids hSP HLR; rw [hN2] at hm hq; have hq2 : m + q = n2 := (by omega); clear hq; have HGW := Lib.hid H.g
    by_cases hkn : k = nn
    · have E3 : decide ((k : Int) < (nn : Int)) = false := decide_eq_false (by omega)
      have hit : ItV wr (d + 1 + 1) (fun b => w1.heap.size ≤ b ∧ b < wr.heap.size) (.agg #[.int .i64 3, .int .i64 0, .slice none 0 0, .slice pl k cl]) (.mk 3 0 [] ts) := by
        obtain ⟨pl2, cl2, e1, _, hls⟩ := HKID.out.lsv HROW.out HTS.out
        cases e1
        exact itv_lst HTS.out.symm (by omega) hls
      have HIT := Lib.hid hit; have HER : Hid (rd (d + 1) l = .ok (.mk 3 0 [] ts, 5 + m)) := Lib.hid (by
        rw [HRZ.out, HZ.out, hkn, Nat.sub_self, rdl]
        show Except.ok (It.mk 3 0 [] (ts ++ []), 1 + (4 + (m + 0))) = _
        rw [List.append_nil, show 1 + (4 + (m + 0)) = 5 + m by omega]); clear hit
      clear hkn
      go_upto_region 21 with fail
      refine Kr.seqStartW ?_
      (refine Kr.seqQ (v := ?_) (a' := ?_) (by rfl) ?_ ?_ ?_; rotate_left 2; (focus (go_simp; first | done | rfl)); (focus ((try simp only [Kr.PT]); first | done | rfl)))
      (refine Kr.seqQ (v := ?_) (a' := ?_) (by rfl) ?_ ?_ ?_; rotate_left 2; (focus (go_simp; first | done | rfl)); (focus ((try simp only [Kr.PT]); first | done | rfl)))
      (refine Kr.seqQ (v := .bool false) (a' := ?_) (by rfl) ?_ ?_ ?_; rotate_left 1; (focus (exact Kr.valOf rfl (lssT E3))); (focus ((try simp only [Kr.PT]); first | done | rfl)))
      refine Kr.seqDoneW ?_
      go_upto_region 28 with fail
      refine Kr.seqStartW ?_
      (refine Kr.seqQ (v := .agg #[.int .i64 3, .int .i64 0, .slice none 0 0, .slice pl k cl]) (a' := ?_) (by rfl) ?_ ?_ ?_; rotate_left 1; (focus (exact Kr.valOf rfl (ldI (H.at 0 rfl)))); (focus ((try simp only [Kr.PT]); first | done | rfl)))
      (refine Kr.seqQ (v := ?_) (a' := ?_) (by rfl) ?_ ?_ ?_; rotate_left 2; (focus (go_simp; first | done | rfl)); (focus ((try simp only [Kr.PT]); first | done | rfl)))
      refine Kr.seqR (by rfl) (fun K hK => ?_)
      refine wp_run rfl (stI (H.at 1 rfl) one4) ?_
      have hkp := HIT.out.kept (same_put (W := wr) (b := bz) (cs := ([.int .i64 3, .int .i64 0, .slice none 0 0, .slice pl k cl] : List Value).toArray) (fun h => by have h1 := h.1; have h2 := HBZ1.out; omega)); have hsz := Nat.le_of_eq (size_put (W := wr) (b := bz) (cs := ([.int .i64 3, .int .i64 0, .slice none 0 0, .slice pl k cl] : List Value).toArray)).symm
      obtain ⟨y5, hy⟩ : ∃ y, wr.setRow bz ([.int .i64 3, .int .i64 0, .slice none 0 0, .slice pl k cl] : List Value).toArray = y := ⟨_, rfl⟩; rw [hy]; rw [hy] at hkp hsz; have HIT2 := Lib.hid (hkp.mono (G := fun bb => w.heap.size ≤ bb ∧ bb < y5.heap.size) (fun bb hb => ⟨Nat.le_trans HSW1.out hb.1, Nat.lt_of_lt_of_le hb.2 hsz⟩)); clear hkp hsz HIT
      replace H := H.put 1 hy rfl; dsimp only [List.set] at H; clear hy
      (refine Kr.outS hK (a' := ?_) ?_ ?_; rotate_left; (focus ((try simp only [Kr.PT]); first | done | rfl))); clear hK K
      (refine Kr.seqQ (v := ?_) (a' := ?_) (by rfl) ?_ ?_ ?_; rotate_left 2; (focus (go_simp; first | done | rfl)); (focus ((try simp only [Kr.PT]); first | done | rfl)))
      (refine Kr.seqQ (v := ?_) (a' := ?_) (by rfl) ?_ ?_ ?_; rotate_left 2; (focus (go_simp; first | done | rfl)); (focus ((try simp only [Kr.PT]); first | done | rfl)))
      refine Kr.seqDoneW ?_
      go_wp2
      refine bodyPost_ret (v := .tuple #[.agg #[.int .i64 3, .int .i64 0, .slice none 0 0, .slice pl k cl], .slice (some ⟨b, ps, none⟩) q c3, .int .i64 0]) (results_row_tmp2 rfl _ _ bz 25 _ _ _ (by rfl) (H.at 1 rfl) Tryd.underlying25 rfl (show _ = some 4 from infoI) (by rfl) (by rfl)) rfl ⟨.int .i64 3, .int .i64 0, .slice none 0 0, .slice pl k cl, some ⟨b, ps, none⟩, q, c3, 0, rfl, H.g, one4, .inl ⟨rfl, .mk 3 0 [] ts, 5 + m, ps, HER.out, by omega, rfl, by omega, hqc, (by rw [HL0.out, show 5 + m = 4 + m + 1 by omega, List.drop_succ_cons, ← List.drop_drop, HL3.out]; exact HSP.out), HIT2.out⟩⟩
    have hkl : k < nn := by omega
    have E3 : decide ((k : Int) < (nn : Int)) = true := decide_eq_true (by omega)
    clear hkn
    go_upto_region 21 with fail
    refine Kr.seqStartW ?_
    (refine Kr.seqQ (v := ?_) (a' := ?_) (by rfl) ?_ ?_ ?_; rotate_left 2; (focus (go_simp; first | done | rfl)); (focus ((try simp only [Kr.PT]); first | done | rfl)))
    (refine Kr.seqQ (v := ?_) (a' := ?_) (by rfl) ?_ ?_ ?_; rotate_left 2; (focus (go_simp; first | done | rfl)); (focus ((try simp only [Kr.PT]); first | done | rfl)))
    (refine Kr.seqQ (v := .bool true) (a' := ?_) (by rfl) ?_ ?_ ?_; rotate_left 1; (focus (exact Kr.valOf rfl (lssT E3))); (focus ((try simp only [Kr.PT]); first | done | rfl)))
    refine Kr.seqDoneW ?_
    clear E3
    have HADDW : IntKind.i64.wrap ((wi : Int) + 1) = ((wi + 1 : Nat) : Int) := wrap_nat (by omega) (by omega)
    have hwi2 : wi + 1 + d = 8 := by omega
    have hql : (L3.drop m).length = q := by rw [List.length_drop]; omega
    have HQL3 := Lib.hid hql; clear hql
    go_upto_region 23 with fail
    refine Kr.seqStartW ?_
    (refine Kr.seqQ (v := ?_) (a' := ?_) (by rfl) ?_ ?_ ?_; rotate_left 2; (focus (go_simp; first | done | rfl)); (focus ((try simp only [Kr.PT]); first | done | rfl)))
    (refine Kr.seqQ (v := ?_) (a' := ?_) (by rfl) ?_ ?_ ?_; rotate_left 2; (focus (go_simp; first | done | rfl)); (focus ((try simp only [Kr.PT]); first | done | rfl)))
    (refine Kr.seqQ (v := .int .i64 ((wi + 1 : Nat) : Int)) (a' := ?_) (by rfl) ?_ ?_ ?_; rotate_left 1; (focus (exact Kr.valOf rfl (addI HADDW))); (focus ((try simp only [Kr.PT]); first | done | rfl)))
    refine Kr.seqR (by rfl) (fun K hK => ?_)
    go_simp
    go_at_call 42
    refine (ih (c := c3) (wi := wi + 1) hwi2 (HSP.out.grow H.g) HQL3.out (by omega) hqc).mono ?_
    rintro o9 y6 ⟨v0, v1, v2, v3, pr, nr, cr, e2, rfl, hg, hone, hout⟩
    have HG12 := Lib.hid hg; have HONE := Lib.hid hone; have HOUT := Lib.hid hout; clear hone hout
    replace H := H.grow hg
    clear hg
    (refine Kr.outS hK (a' := ?_) ?_ ?_; rotate_left; (focus ((try simp only [Kr.PT]); first | done | rfl))); clear hK K
    (refine Kr.seqQ (v := ?_) (a' := ?_) (by rfl) ?_ ?_ ?_; rotate_left 2; (focus (go_simp; first | done | rfl)); (focus ((try simp only [Kr.PT]); first | done | rfl)))
    (refine Kr.seqQ (v := .agg #[v0, v1, v2, v3]) (a' := ?_) (by rfl) ?_ ?_ ?_; rotate_left 1; (focus (go_simp; first | done | rfl)); (focus ((try simp only [Kr.PT]); first | done | rfl)))
    (refine Kr.seqQ (v := .slice pr nr cr) (a' := ?_) (by rfl) ?_ ?_ ?_; rotate_left 1; (focus (go_simp; first | done | rfl)); (focus ((try simp only [Kr.PT]); first | done | rfl)))
    (refine Kr.seqQ (v := .int .i64 e2) (a' := ?_) (by rfl) ?_ ?_ ?_; rotate_left 1; (focus (go_simp; first | done | rfl)); (focus ((try simp only [Kr.PT]); first | done | rfl)))
    refine Kr.seqR (by rfl) (fun K hK => ?_)
    refine wp_runV rfl newI ?_
    obtain ⟨y7, hy⟩ : ∃ y, y6.alloc (.cells ([.int .i64 0, .int .i64 0, .slice none 0 0, .slice none 0 0]).toArray 25) = y := ⟨_, rfl⟩
    obtain ⟨bi, hb⟩ : ∃ b, y6.heap.size = b := ⟨_, rfl⟩
    rw [hy, hb]
    have HGA : Hid (Gr y6 y7) := Lib.hid (hy ▸ (Gr.refl _).alloc _); have HBI : Hid (y6.heap.size ≤ bi) := Lib.hid (Nat.le_of_eq hb)
    have hg : Gr y6 y7 := hy ▸ (Gr.refl _).alloc _
    replace H := H.alloc hy hb
    clear hy hb hg
    (refine Kr.outS hK (a' := ?_) ?_ ?_; rotate_left; (focus ((try simp only [Kr.PT]); first | done | rfl))); clear hK K
    refine Kr.seqR (by rfl) (fun K hK => ?_)
    refine wp_run rfl (stI (H.at 0 rfl) HONE.out) ?_
    have hkp : ∀ z, z < y6.heap.size → (y7.setRow bi ([v0, v1, v2, v3] : List Value).toArray).heap[z]? = y6.heap[z]? := fun z hz => (setRow_other y7 bi z _ (by have := HBI.out; omega)).trans (HGA.out.block z hz)
    have hks : y6.heap.size ≤ (y7.setRow bi ([v0, v1, v2, v3] : List Value).toArray).heap.size := Nat.le_trans HGA.out.size (Nat.le_of_eq (size_put (W := y7) (b := bi) (cs := ([v0, v1, v2, v3] : List Value).toArray)).symm)
    obtain ⟨y8, hy⟩ : ∃ y, y7.setRow bi ([v0, v1, v2, v3] : List Value).toArray = y := ⟨_, rfl⟩; rw [hy]; rw [hy] at hkp hks; have HKP := Lib.hid hkp; have HKS := Lib.hid hks; clear hkp hks
    replace H := H.put 0 hy rfl; dsimp only [List.set] at H; clear hy
    (refine Kr.outS hK (a' := ?_) ?_ ?_; rotate_left; (focus ((try simp only [Kr.PT]); first | done | rfl))); clear hK K
    (refine Kr.seqQ (v := ?_) (a' := ?_) (by rfl) ?_ ?_ ?_; rotate_left 2; (focus (go_simp; first | done | rfl)); (focus ((try simp only [Kr.PT]); first | done | rfl)))
    (refine Kr.seqQ (v := ?_) (a' := ?_) (by rfl) ?_ ?_ ?_; rotate_left 2; (focus (go_simp; first | done | rfl)); (focus ((try simp only [Kr.PT]); first | done | rfl)))
    refine Kr.seqDoneW ?_
    by_cases he : e2 = 0
    · have C24 : (!decide (e2 = 0)) = false := by rw [decide_eq_true he]; rfl
      have hcs := HOUT.out; obtain ⟨tt, m2, ps2, hrd, hm2, hpr, hnr, hcr, hS3, hit⟩ : ∃ tt m2 ps2, rd d (L3.drop m) = .ok (tt, m2) ∧ m2 ≤ (L3.drop m).length ∧ pr = some ⟨b, ps2, none⟩ ∧ nr = (L3.drop m).length - m2 ∧ nr ≤ cr ∧ SrcB pr ((L3.drop m).drop m2) wr ∧ ItV y6 (d + 1) (fun b => wr.heap.size ≤ b ∧ b < y6.heap.size) (.agg #[v0, v1, v2, v3]) tt := by
        rcases hcs with ⟨_, h⟩ | ⟨h, _⟩
        · exact h
        · exact absurd he h
      clear hcs HOUT he; subst hpr; rw [HQL3.out] at hm2 hnr; have hnr2 : m2 + nr = q := (by omega); clear hnr; have HRD := Lib.hid hrd; have HS3 := Lib.hid hS3; have HITEM := Lib.hid hit; clear hrd hS3 hit
      go_upto_region 24 with fail
      refine Kr.seqStartW ?_
      (refine Kr.seqQ (v := ?_) (a' := ?_) (by rfl) ?_ ?_ ?_; rotate_left 2; (focus (go_simp; first | done | rfl)); (focus ((try simp only [Kr.PT]); first | done | rfl)))
      (refine Kr.seqQ (v := .bool false) (a' := ?_) (by rfl) ?_ ?_ ?_; rotate_left 1; (focus (exact Kr.valOf rfl (neqI C24))); (focus ((try simp only [Kr.PT]); first | done | rfl)))
      refine Kr.seqDoneW ?_
      clear C24
      go_upto_region 26 with fail
      refine Kr.seqStartW ?_
      (refine Kr.seqQ (v := .pointer (some ⟨bo, 3, none⟩)) (a' := ?_) (by rfl) ?_ ?_ ?_; rotate_left 1; (focus (go_simp; first | done | rfl)); (focus ((try simp only [Kr.PT]); first | done | rfl)))
      (refine Kr.seqQ (v := .slice pl k cl) (a' := ?_) (by rfl) ?_ ?_ ?_; rotate_left 1; (focus (exact Kr.valOf rfl (ldLs (rowCell (j := 3) (H.at 1 rfl) rfl)))); (focus ((try simp only [Kr.PT]); first | done | rfl)))
      (refine Kr.seqQ (v := .agg #[v0, v1, v2, v3]) (a' := ?_) (by rfl) ?_ ?_ ?_; rotate_left 1; (focus (exact Kr.valOf rfl (ldI (H.at 0 rfl)))); (focus ((try simp only [Kr.PT]); first | done | rfl)))
      refine Kr.seqR (by rfl) (fun K hK => ?_)
      go_simp
      obtain ⟨y10, hy⟩ : ∃ y, y8.alloc (.cells #[v0, v1, v2, v3] 25) = y := ⟨_, rfl⟩
      obtain ⟨bone, hbn⟩ : ∃ b, y8.heap.size = b := ⟨_, rfl⟩
      rw [hy, hbn]
      have hy2 : y8.alloc (.cells ([v0, v1, v2, v3] : List Value).toArray 25) = y10 := hy
      have hg : Gr y8 y10 := hy ▸ (Gr.refl _).alloc _
      have HLIT := Lib.hid (hbn ▸ hy2 ▸ lit_src (W := y8) (T := 25) [v0, v1, v2, v3]); have HG45 := Lib.hid hg; clear hy2
      replace H := H.grow hg
      clear hg hy hbn
      (refine Kr.outS hK (a' := ?_) ?_ ?_; rotate_left; (focus ((try simp only [Kr.PT]); first | done | rfl))); clear hK K
      refine Kr.seqR (by rfl) (fun K hK => ?_)
      have hvb : ∀ z, (Value.slice pl k cl).ownBlock = some z → w1.heap.size ≤ z ∧ z < wr.heap.size := fun z hz => World.ownsRow.lt HROW.out z hz
      have hs12 := HG12.out.size; have hs45 := HG45.out.size; have hks := HKS.out; have hsz1 := HSZ1.out; have hsw1 := HSW1.out; have hbo1 := HBO1.out; have hbz1 := HBZ1.out; have hbi := HBI.out; have hxl : xs.length = k * 4 := HROW.out.1
      have hrow5 : y10.ownsRow w1.heap.size 25 4 (.slice pl k cl) k xs := rowI_grow HROW.out (fun z hz => by
        have h1 := hvb z hz
        rw [HG45.out.block z (by omega), HKP.out z (by omega), HG12.out.block z h1.2])
      refine wp_appJ (B := w1.heap.size) (.tmp 111) (.tmp 113) rfl (v := .slice pl k cl) (k := k) (bone := bone) (xs := xs) (v0 := v0) (v1 := v1) (v2 := v2) (v3 := v3) rfl rfl HLIT.out HONE.out (by omega) hrow5 (by omega) ?_
      intro q12 y11 hrow6 hg56 hub; have hs56 := hg56.size
      have H6 := H.grown hg56 (fun z hz => by
        have h1 := hvb z hz
        refine ⟨by omega, fun x hx => ?_⟩
        rcases List.mem_cons.1 hx with rfl | hx
        · show bi ≠ z; omega
        rcases List.mem_cons.1 hx with rfl | hx
        · show bo ≠ z; omega
        rcases List.mem_cons.1 hx with rfl | hx
        · show bz ≠ z; omega
        · cases hx)
      have hkid6 : Kids w1 y11 (d + 1) q12 (xs ++ [v0, v1, v2, v3]) (ts ++ [tt]) := HKID.out.snoc (W2 := y6) HTS.out hxl hsz1 (fun z hz => (hvb z hz).2) (fun z h1 h2 => HG12.out.block z h2) hs12 HITEM.out (fun z h1 h2 => by rw [hg56.block z (by omega) (fun e => h2 e.symm), HG45.out.block z (by omega), HKP.out z h1]) (by omega) (by
        rcases hub with hub | hub
        · exact .inl hub
        · exact .inr ⟨_, hub, by omega⟩)
      obtain ⟨p9, c9, hv9, _⟩ := sliceI hrow6; subst hv9; clear H; have H := H6; have HROW6 := Lib.hid hrow6; have HKID6 := Lib.hid hkid6; have HSZ6 : Hid (w1.heap.size ≤ y11.heap.size) := Lib.hid (by omega); clear H6 hrow6 hkid6 hrow5 hub hg56 hvb hs12 hs45 hs56 hks hsz1 hsw1 hbo1 hbz1 hbi hxl HLIT
      (refine Kr.outS hK (a' := ?_) ?_ ?_; rotate_left; (focus ((try simp only [Kr.PT]); first | done | rfl))); clear hK K
      (refine Kr.seqQ (v := .pointer (some ⟨bo, 3, none⟩)) (a' := ?_) (by rfl) ?_ ?_ ?_; rotate_left 1; (focus (go_simp; first | done | rfl)); (focus ((try simp only [Kr.PT]); first | done | rfl)))
      refine Kr.seqR (by rfl) (fun K hK => ?_)
      refine wp_run rfl (stLs (H.cell 1 rfl (show _ = some _ from rfl)) (H.frozen 1 rfl 3)) ?_
      have hoth : ∀ z, w1.heap.size ≤ z → (y11.setCell ⟨bo, 3, none⟩ (.slice p9 (k + 1) c9)).heap[z]? = y11.heap[z]? := fun z hz => same_set (F := fun t => t ≠ bo) (fun h => h rfl) z (by have := HBO1.out; omega)
      have hkp := HKID6.out.kept (Nat.le_of_eq (size_set (W := y11) (a := ⟨bo, 3, none⟩) (u := .slice p9 (k + 1) c9)).symm) (fun z h1 _ _ => hoth z h1); have hro := rowI_grow HROW6.out (fun z hz => hoth z (World.ownsRow.lt HROW6.out z hz).1); have hsz := Nat.le_trans HSZ6.out (Nat.le_of_eq (size_set (W := y11) (a := ⟨bo, 3, none⟩) (u := .slice p9 (k + 1) c9)).symm)
      obtain ⟨y13, hy⟩ : ∃ y, y11.setCell ⟨bo, 3, none⟩ (.slice p9 (k + 1) c9) = y := ⟨_, rfl⟩; rw [hy]; rw [hy] at hkp hro hsz; have HKID7 := Lib.hid hkp; have HROW7 := Lib.hid hro; have HSZ7 := Lib.hid hsz; clear hkp hro hsz hoth HKID6 HROW6 HSZ6
      replace H := H.set 1 (3) hy rfl; dsimp only [List.set] at H; clear hy
      (refine Kr.outS hK (a' := ?_) ?_ ?_; rotate_left; (focus ((try simp only [Kr.PT]); first | done | rfl))); clear hK K
      refine Kr.seqDoneW ?_
      go_upto_region 27 with fail
      refine Kr.seqStartW ?_
      (refine Kr.seqQ (v := ?_) (a' := ?_) (by rfl) ?_ ?_ ?_; rotate_left 2; (focus (go_simp; first | done | rfl)); (focus ((try simp only [Kr.PT]); first | done | rfl)))
      (refine Kr.seqQ (v := ?_) (a' := ?_) (by rfl) ?_ ?_ ?_; rotate_left 2; (focus (go_simp; first | done | rfl)); (focus ((try simp only [Kr.PT]); first | done | rfl)))
      refine Kr.seqDoneW ?_
      have HADD : IntKind.i64.wrap ((k : Int) + 1) = ((k + 1 : Nat) : Int) := wrap_nat (by omega) (by omega)
      go_upto_region 22 with fail
      refine Kr.seqStartW ?_
      (refine Kr.seqQ (v := ?_) (a' := ?_) (by rfl) ?_ ?_ ?_; rotate_left 2; (focus (go_simp; first | done | rfl)); (focus ((try simp only [Kr.PT]); first | done | rfl)))
      (refine Kr.seqQ (v := .int .i64 ((k + 1 : Nat) : Int)) (a' := ?_) (by rfl) ?_ ?_ ?_; rotate_left 1; (focus (exact Kr.valOf rfl (addI HADD))); (focus ((try simp only [Kr.PT]); first | done | rfl)))
      (refine Kr.seqQ (v := ?_) (a' := ?_) (by rfl) ?_ ?_ ?_; rotate_left 2; (focus (go_simp; first | done | rfl)); (focus ((try simp only [Kr.PT]); first | done | rfl)))
      refine Kr.seqDoneW ?_
      have HLR2 : Hid (LR w w1 y13 b d nn L3 Z (.slice p9 (k + 1) c9) (k + 1) nr ps2 cr) := Lib.hid ⟨_, ts ++ [tt], m + m2, HSZ7.out, HROW7.out, by rw [List.length_append, HTS.out]; rfl, by rw [HZ.out, show nn - k = (nn - (k + 1)) + 1 by omega, rdl_ok HRD.out, pref_pref, List.drop_drop], by omega, HKID7.out, by omega, hcr, by rw [← List.drop_drop]; exact srcB_back HS3.out HGW.out hbw⟩
      replace H := H.drop 1; dsimp only [List.drop] at H
      go_wp2; go_roundw
      case rel =>
        first
        | exact ⟨k + 1, nr, ps2, cr, p9, c9, by omega, rfl, rfl, HLR2, Lib.hid H⟩
        | (repeat apply Exists.intro); exact ⟨⟨k + 1, nr, ps2, cr, p9, c9, by omega, rfl, rfl, HLR2, Lib.hid H⟩, rfl⟩
        | (repeat apply Exists.intro); refine ⟨⟨k + 1, nr, ps2, cr, p9, c9, by omega, rfl, rfl, HLR2, Lib.hid H⟩, ?_⟩; refine ⟨?_, ?_⟩ <;> (repeat apply And.intro) <;> rfl
      case measure => simp [intOf]; omega
    · have C24 : (!decide (e2 = 0)) = true := by rw [decide_eq_false he]; rfl
      have HER : Hid (rd (d + 1) l = .error e2) := Lib.hid (by
        rcases HOUT.out with ⟨h0, _⟩ | ⟨_, h1, _⟩
        · exact absurd h0 he
        · rw [HRZ.out, HZ.out, show nn - k = (nn - (k + 1)) + 1 by omega, rdl_err h1]; rfl)
      go_upto_region 24 with fail
      refine Kr.seqStartW ?_
      (refine Kr.seqQ (v := ?_) (a' := ?_) (by rfl) ?_ ?_ ?_; rotate_left 2; (focus (go_simp; first | done | rfl)); (focus ((try simp only [Kr.PT]); first | done | rfl)))
      (refine Kr.seqQ (v := .bool true) (a' := ?_) (by rfl) ?_ ?_ ?_; rotate_left 1; (focus (exact Kr.valOf rfl (neqI C24))); (focus ((try simp only [Kr.PT]); first | done | rfl)))
      refine Kr.seqDoneW ?_
      go_upto_region 25 with fail
      refine Kr.seqStartW ?_
      (refine Kr.seqQ (v := .agg #[.int .i64 0, .int .i64 0, .slice none 0 0, .slice none 0 0]) (a' := ?_) (by rfl) ?_ ?_ ?_; rotate_left 1; (focus (go_simp; first | done | rfl)); (focus ((try simp only [Kr.PT]); first | done | rfl)))
      (refine Kr.seqQ (v := ?_) (a' := ?_) (by rfl) ?_ ?_ ?_; rotate_left 2; (focus (go_simp; first | done | rfl)); (focus ((try simp only [Kr.PT]); first | done | rfl)))
      refine Kr.seqR (by rfl) (fun K hK => ?_)
      refine wp_run rfl (stI (H.at 2 rfl) one4) ?_
      obtain ⟨y9, hy⟩ : ∃ y, y8.setRow bz ([.int .i64 0, .int .i64 0, .slice none 0 0, .slice none 0 0]).toArray = y := ⟨_, rfl⟩
      rw [hy]
      replace H := H.put 2 hy rfl
      dsimp only [List.set] at H
      clear hy
      (refine Kr.outS hK (a' := ?_) ?_ ?_; rotate_left; (focus ((try simp only [Kr.PT]); first | done | rfl))); clear hK K
      (refine Kr.seqQ (v := ?_) (a' := ?_) (by rfl) ?_ ?_ ?_; rotate_left 2; (focus (go_simp; first | done | rfl)); (focus ((try simp only [Kr.PT]); first | done | rfl)))
      (refine Kr.seqQ (v := ?_) (a' := ?_) (by rfl) ?_ ?_ ?_; rotate_left 2; (focus (go_simp; first | done | rfl)); (focus ((try simp only [Kr.PT]); first | done | rfl)))
      refine Kr.seqDoneW ?_
      go_wp2
      refine bodyPost_ret (v := .tuple #[.agg #[.int .i64 0, .int .i64 0, .slice none 0 0, .slice none 0 0], .slice (none) 0 0, .int .i64 e2]) (results_row_tmp2 rfl _ _ bz 25 _ _ _ (by rfl) (H.at 2 rfl) Tryd.underlying25 rfl (show _ = some 4 from infoI) (by rfl) (by rfl)) rfl ⟨.int .i64 0, .int .i64 0, .slice none 0 0, .slice none 0 0, none, 0, 0, e2, rfl, H.g, one4, .inr ⟨he, HER.out, rfl, rfl, rfl, rfl⟩⟩
end Go.Proofs.YtlollhmheakcfaaDoor.Dg
