/- The reader: items. -/
import Derived.Test.YtlollhmheakcfaaDoorQBk
import Derived.Deep.Cut
namespace Go.Proofs.YtlollhmheakcfaaDoor.Dg
open Go Go.RowKit Go.Proofs.YtlollhmheakcfaaDoor.Ne Go.Proofs.YtlollhmheakcfaaDoor.Kr

theorem stSl {w : World} {a : Addr} {p : Option Addr} {n c : Nat} {v : Value} (h : w.cell? a = some v) (hf : w.frozen? a = false) : (Instr.storeAt 22 (.pointer (some a)) (.slice p n c)).run Tryd.prog w = .ok () (w.setCell a (.slice p n c)) := by
  go_simp
theorem stLs {w : World} {a : Addr} {p : Option Addr} {n c : Nat} {v : Value} (h : w.cell? a = some v) (hf : w.frozen? a = false) : (Instr.storeAt 23 (.pointer (some a)) (.slice p n c)).run Tryd.prog w = .ok () (w.setCell a (.slice p n c)) := by
  go_simp
theorem infoI : (Tryd.prog.info? 25).map (·.size) = some 4 := by kernel_rfl
/-- What is kept while blocks of one's own are written. -/
def Same (F : Nat → Prop) (W W' : World) : Prop := ∀ b, F b → W'.heap[b]? = W.heap[b]?
theorem same_set {F : Nat → Prop} {W : World} {b j : Nat} {u : Value} (h : ¬ F b) : Same F W (W.setCell ⟨b, j, none⟩ u) := fun k hk => by
  have : b ≠ k := fun e => h (e ▸ hk)
  simp only [World.setCell, Array.getElem?_modify, if_neg this]
theorem same_put {F : Nat → Prop} {W : World} {b : Nat} {cs : Array Value} (h : ¬ F b) : Same F W (W.setRow b cs) := fun k hk => by
  have : k ≠ b := fun e => h (e ▸ hk)
  exact setRow_other W b k cs this
theorem Same.trans {F : Nat → Prop} {a b c : World} (h : Same F a b) (k : Same F b c) : Same F a c := fun i hi => (k i hi).trans (h i hi)
theorem Same.refl (F : Nat → Prop) (a : World) : Same F a a := fun _ _ => rfl
theorem same_gr {F : Nat → Prop} {a b : World} (g : Gr a b) (h : ∀ k, F k → k < a.heap.size) : Same F a b := fun k hk => g.block k (h k hk)
theorem out_err {r : Except Int (It × Nat)} {ps ps2 : Nat} {c : Int} {P : It → Prop} (h : r = .error c) (hc : c ≠ 0) : Out r ps ps2 c P := by
  rw [h]; exact ⟨rfl, hc⟩
theorem outL_err {r : Except Int (List It × Nat)} {ps ps2 : Nat} {c : Int} {P : List It → Prop} (h : r = .error c) (hc : c ≠ 0) : OutL r ps ps2 c P := by
  rw [h]; exact ⟨rfl, hc⟩
/-- The loop over the items. -/
def LI (w W : World) (d nn : Nat) (Z : Except Int (List It × Nat)) (l : List (BitVec 8)) (n p0 : Nat) (v : Value) (k ps : Nat) (e : Int) : Prop :=
  ∃ xs, W.ownsRow w.heap.size 25 4 v k xs ∧ ps ≤ n ∧ ((e = 0 ∧ ∃ ts m, ts.length = k ∧ Z = pref ts m (rdl (rd d) (nn - k) (l.drop ps)) ∧ ps = p0 + m ∧ Kids w W (d + 1) v xs ts) ∨ (e ≠ 0 ∧ Z = .error e))
theorem sliceI {W : World} {B k : Nat} {v : Value} {xs : List Value} (h : W.ownsRow B 25 4 v k xs) : ∃ p c, v = .slice p k c ∧ (p = none → c = 0) := by
  rcases h.2 with ⟨e1, e2⟩ | ⟨g, cap, cur, e1, _⟩
  · exact ⟨none, 0, by rw [e1, e2], fun _ => rfl⟩
  · exact ⟨_, cap, e1, fun e => by cases e⟩
theorem rowI_grow {W W' : World} {B k : Nat} {v : Value} {xs : List Value} (h : W.ownsRow B 25 4 v k xs) (g : ∀ b, v.ownBlock = some b → W'.heap[b]? = W.heap[b]?) : W'.ownsRow B 25 4 v k xs := by
  obtain ⟨h1, h2 | ⟨b, cap, cur, e1, e2, e3, e4⟩⟩ := h
  · exact ⟨h1, .inl h2⟩
  · exact ⟨h1, .inr ⟨b, cap, cur, e1, e2, by rw [g b (by rw [e1]; rfl)]; exact e3, e4⟩⟩
/-- What a call says that reads an item. -/
def ItemP (w : World) (br b off n c ps d : Nat) (l : List (BitVec 8)) (o : Ending) (w' : World) : Prop := ∃ (v0 v1 v2 v3 : Value) (ps2 : Nat) (e2 : Int), o = .returned (.agg #[v0, v1, v2, v3]) ∧ (∀ u ∈ ([v0, v1, v2, v3] : List Value), u.oneCell' = true) ∧ w'.heap[br]? = some (.cells (rdr (.slice (some ⟨b, off, none⟩) n c) (ps2 : Int) e2).toArray 60 (0, 0)) ∧ GrX br w w' ∧ ps2 ≤ n ∧ Out (rd d (l.drop ps)) ps ps2 e2 (fun t => ItV w' (d + 1) (fun b => w.heap.size ≤ b ∧ b < w'.heap.size) (.agg #[v0, v1, v2, v3]) t)
/-- What a call says that reads the items of a list. -/
def ItemsP (w : World) (br b off n c ps d : Nat) (l : List (BitVec 8)) (o : Ending) (w' : World) : Prop := ∃ (pl : Option Addr) (nl cl : Nat) (ps2 : Nat) (e2 : Int), o = .returned (.slice pl nl cl) ∧ (pl = none → cl = 0) ∧ w'.heap[br]? = some (.cells (rdr (.slice (some ⟨b, off, none⟩) n c) (ps2 : Int) e2).toArray 60 (0, 0)) ∧ GrX br w w' ∧ ps2 ≤ n ∧ OutL (rdB (rd d) (l.drop ps)) ps ps2 e2 (fun ts => nl = ts.length ∧ nl ≤ 1000 ∧ LsV w' (d + 1) (fun b => w.heap.size ≤ b ∧ b < w'.heap.size) pl ts)

theorem nb_step (a : BitVec 64) (x : BitVec 8) (h : a.toNat < 72057594037927936) : ((a <<< 8) ||| x.setWidth 64).toNat = a.toNat * 256 + x.toNat := by
  have hx := x.isLt
  rw [BitVec.toNat_or, BitVec.toNat_shiftLeft, BitVec.toNat_setWidth, Nat.shiftLeft_eq, Nat.mod_eq_of_lt (by omega), Nat.mod_eq_of_lt (show x.toNat < 2 ^ 64 by omega), Nat.mul_comm, show (2 : Nat) ^ 8 * a.toNat = 2 ^ 8 * a.toNat from rfl, ← Nat.two_pow_add_eq_or_of_lt (i := 8) (by omega)]
theorem nb4_lt {q : List (BitVec 8)} (h : q.length = 4) : (nb q).toNat < 4294967296 := by
  match q, h with
  | [x, y, z, t], _ =>
    have h0 : (0#64).toNat = 0 := rfl
    have e1 := nb_step 0#64 x (by rw [h0]; decide)
    have b1 := x.isLt
    have e2 := nb_step _ y (show ((0#64 <<< 8) ||| x.setWidth 64).toNat < _ by rw [e1, h0]; omega)
    have b2 := y.isLt
    have e3 := nb_step _ z (show ((((0#64 <<< 8) ||| x.setWidth 64) <<< 8) ||| y.setWidth 64).toNat < _ by rw [e2, e1, h0]; omega)
    have b3 := z.isLt
    have e4 := nb_step _ t (show ((((((0#64 <<< 8) ||| x.setWidth 64) <<< 8) ||| y.setWidth 64) <<< 8) ||| z.setWidth 64).toNat < _ by rw [e3, e2, e1, h0]; omega)
    have b4 := t.isLt
    show ((((((((0#64 <<< 8) ||| x.setWidth 64) <<< 8) ||| y.setWidth 64) <<< 8) ||| z.setWidth 64) <<< 8) ||| t.setWidth 64).toNat < _
    rw [e4, e3, e2, e1, h0]
    omega

theorem nb4 {q : List (BitVec 8)} (h : q.length = 4) : (nb q).toInt = ((nb q).toNat : Int) ∧ (nb q).toNat < 4294967296 := by
  have hb : (nb q).toNat < 4294967296 := nb4_lt h
  refine ⟨?_, hb⟩
  rw [BitVec.toInt_eq_toNat_cond, if_pos (by omega)]
set_option linter.unusedSimpArgs false in
set_option maxRecDepth 100000 in
set_option maxHeartbeats 16000000 in
theorem items_step {d : Nat} (ih : ∀ {w : World} {br b off n c ps : Nat} {l : List (BitVec 8)} (_ : w.heap[br]? = some (.cells (rdr (.slice (some ⟨b, off, none⟩) n c) (ps : Int) 0).toArray 60 (0, 0))) (_ : SrcB (some ⟨b, off, none⟩) l w) (_ : Off br (some ⟨b, off, none⟩)) (_ : l.length = n) (_ : n ≤ 20000) (_ : n ≤ c) (_ : ps ≤ n), Calls Tryd.prog 40 #[.pointer (some ⟨br, 0, none⟩), .int .i64 (d : Int)] w fun o w' => ItemP w br b off n c ps d l o w')
    {w : World} {br b off n c ps : Nat} {l : List (BitVec 8)} (hr : w.heap[br]? = some (.cells (rdr (.slice (some ⟨b, off, none⟩) n c) (ps : Int) 0).toArray 60 (0, 0))) (hS : SrcB (some ⟨b, off, none⟩) l w) (hO : Off br (some ⟨b, off, none⟩)) (hl : l.length = n) (hn : n ≤ 20000) (hc : n ≤ c) (hp : ps ≤ n) :
    Calls Tryd.prog 50 #[.pointer (some ⟨br, 0, none⟩), .int .i64 (d : Int)] w fun o w' => ItemsP w br b off n c ps d l o w' := by
  have HS := Lib.hid hS; have HO := Lib.hid hO; clear hS hO; obtain ⟨L, hL⟩ : ∃ z, l.drop ps = z := ⟨_, rfl⟩; have hLl : L.length = n - ps := by rw [← hL, List.length_drop, hl]
  have HL := Lib.hid hL; clear hL; have hb0 : w.heap.size ≤ w.heap.size := Nat.le_refl _
  obtain ⟨RES, hRS⟩ : ∃ z, rdB (rd d) L = z := ⟨_, rfl⟩; have HRES := Lib.hid hRS; clear hRS
  have H := OwX.start hr
  go_enter Tryd.func50, Tryd.ntmps50
  go_upto_region 0 with fail
  refine Kr.seqStartW ?_
  (refine Kr.seqQ (v := ?_) (a' := ?_) (by rfl) ?_ ?_ ?_; rotate_left 2; (focus (go_simp; first | done | rfl)); (focus ((try simp only [Kr.PT]); first | done | rfl)))
  refine Kr.seqDoneW ?_
  by_cases h4 : L.length < 4
  · have hre : RES = .error 4 := by rw [← HRES.out, rdB, if_pos h4]
    subst hre
    go_upto_region 1 with fail
    refine Kr.seqStartW ?_
    (refine Kr.seqQ (v := ?_) (a' := ?_) (by rfl) ?_ ?_ ?_; rotate_left 2; (focus (go_simp; first | done | rfl)); (focus ((try simp only [Kr.PT]); first | done | rfl)))
    refine Kr.seqR (by rfl) (fun K hK => ?_)
    go_simp
    go_at_call 48
    refine (number_end (m := 4) (H.at 0 rfl) (by omega) (hp) (by omega)).mono ?_
    rintro o9 y1 ⟨rfl, hh, hg⟩
    replace H := H.call 0 rfl hg hh; dsimp only [List.set] at H
    clear hh hg
    (refine Kr.outS hK (a' := ?_) ?_ ?_; rotate_left; (focus ((try simp only [Kr.PT]); first | done | rfl))); clear hK K
    (refine Kr.seqQ (v := ?_) (a' := ?_) (by rfl) ?_ ?_ ?_; rotate_left 2; (focus (go_simp; first | done | rfl)); (focus ((try simp only [Kr.PT]); first | done | rfl)))
    refine Kr.seqDoneW ?_
    have C1 : decide ((1000 : Int) < 0) = false := decide_eq_false (by omega)
    go_upto_region 2 with fail
    refine Kr.seqStartW ?_
    (refine Kr.seqQ (v := ?_) (a' := ?_) (by rfl) ?_ ?_ ?_; rotate_left 2; (focus (go_simp; first | done | rfl)); (focus ((try simp only [Kr.PT]); first | done | rfl)))
    (refine Kr.seqQ (v := .bool false) (a' := ?_) (by rfl) ?_ ?_ ?_; rotate_left 1; (focus (exact Kr.valOf rfl (gtrI C1))); (focus ((try simp only [Kr.PT]); first | done | rfl)))
    refine Kr.seqDoneW ?_
    go_upto_region 4 with fail
    refine Kr.seqStartW ?_
    (refine Kr.seqQ (v := ?_) (a' := ?_) (by rfl) ?_ ?_ ?_; rotate_left 2; (focus (go_simp; first | done | rfl)); (focus ((try simp only [Kr.PT]); first | done | rfl)))
    refine Kr.seqDoneW ?_
    have H2 := Lib.hid H; clear H
    go_wp2_with fail
    go_loopw [6] (fun lv wr => lv = .slice none 0 0 ∧ Hid (OwX br w wr [(br, 60, rdr (.slice (some ⟨b, off, none⟩) n c) (ps : Int) 4)])) (fun _ _ => 0)
    case atStart => exact ⟨rfl, H2⟩
    case round =>
      clear H2; obtain ⟨rfl, HH⟩ := hrel; have H := HH.out; clear HH
      have C3 : decide ((0 : Int) < 0) = false := decide_eq_false (by omega)
      go_upto_region 5 with fail
      refine Kr.seqStartW ?_
      (refine Kr.seqQ (v := ?_) (a' := ?_) (by rfl) ?_ ?_ ?_; rotate_left 2; (focus (go_simp; first | done | rfl)); (focus ((try simp only [Kr.PT]); first | done | rfl)))
      (refine Kr.seqQ (v := .int .i64 0) (a' := ?_) (by rfl) ?_ ?_ ?_; rotate_left 1; (focus (exact Kr.valOf rfl ((by go_simp)))); (focus ((try simp only [Kr.PT]); first | done | rfl)))
      (refine Kr.seqQ (v := ?_) (a' := ?_) (by rfl) ?_ ?_ ?_; rotate_left 2; (focus (go_simp; first | done | rfl)); (focus ((try simp only [Kr.PT]); first | done | rfl)))
      (refine Kr.seqQ (v := .bool false) (a' := ?_) (by rfl) ?_ ?_ ?_; rotate_left 1; (focus (exact Kr.valOf rfl (lssT C3))); (focus ((try simp only [Kr.PT]); first | done | rfl)))
      (refine Kr.seqQ (v := ?_) (a' := ?_) (by rfl) ?_ ?_ ?_; rotate_left 2; (focus (go_simp; first | done | rfl)); (focus ((try simp only [Kr.PT]); first | done | rfl)))
      (refine Kr.seqSkipQ (a' := ?_) (by rfl) ?_ ?_; rotate_left; (focus ((try simp only [Kr.PT]); first | done | rfl)))
      (refine Kr.seqSkipQ (a' := ?_) (by rfl) ?_ ?_; rotate_left; (focus ((try simp only [Kr.PT]); first | done | rfl)))
      (refine Kr.seqSkipQ (a' := ?_) (by rfl) ?_ ?_; rotate_left; (focus ((try simp only [Kr.PT]); first | done | rfl)))
      (refine Kr.seqSkipQ (a' := ?_) (by rfl) ?_ ?_; rotate_left; (focus ((try simp only [Kr.PT]); first | done | rfl)))
      (refine Kr.seqSkipQ (a' := ?_) (by rfl) ?_ ?_; rotate_left; (focus ((try simp only [Kr.PT]); first | done | rfl)))
      (refine Kr.seqQ (v := ?_) (a' := ?_) (by rfl) ?_ ?_ ?_; rotate_left 2; (focus (go_simp; first | done | rfl)); (focus ((try simp only [Kr.PT]); first | done | rfl)))
      refine Kr.seqDoneW ?_
      go_upto_region 7 with fail
      refine Kr.seqStartW ?_
      (refine Kr.seqQ (v := ?_) (a' := ?_) (by rfl) ?_ ?_ ?_; rotate_left 2; (focus (go_simp; first | done | rfl)); (focus ((try simp only [Kr.PT]); first | done | rfl)))
      (refine Kr.seqQ (v := ?_) (a' := ?_) (by rfl) ?_ ?_ ?_; rotate_left 2; (focus (go_simp; first | done | rfl)); (focus ((try simp only [Kr.PT]); first | done | rfl)))
      refine Kr.seqDoneW ?_
      have hk := trivial
      go_wp2
      refine bodyPost_ret (v := .slice none 0 0) (by simp [results, Tryd.results50, go_sem, hk]) rfl ⟨none, 0, 0, ps, 4, rfl, fun _ => rfl, H.at 0 rfl, H.g, hp, (by rw [HL.out, HRES.out]; exact ⟨rfl, by decide⟩)⟩
  have h4e : ps + 4 ≤ n := by omega
  obtain ⟨q, hq⟩ : ∃ z, L.take 4 = z := ⟨_, rfl⟩; have hqe : (l.drop ps).take 4 = q := by rw [HL.out]; exact hq
  have hqn := nb4 (show q.length = 4 by rw [← hq, List.length_take]; omega); obtain ⟨nn, hnn⟩ : ∃ z, (nb q).toNat = z := ⟨_, rfl⟩; rw [hnn] at hqn; have HQV : Hid ((nb q).toInt = (nn : Int)) := Lib.hid hqn.1; have hnnb := hqn.2; clear hqn
  have HQE := Lib.hid hqe; have HQ := Lib.hid hq; have HNN := Lib.hid hnn; clear hqe hq hnn
  by_cases hbig : 1000 < nn
  · have hre : RES = .error 3 := by rw [← HRES.out, rdB, if_neg h4, HQ.out, HNN.out, if_pos hbig]
    subst hre
    go_upto_region 1 with fail
    refine Kr.seqStartW ?_
    (refine Kr.seqQ (v := ?_) (a' := ?_) (by rfl) ?_ ?_ ?_; rotate_left 2; (focus (go_simp; first | done | rfl)); (focus ((try simp only [Kr.PT]); first | done | rfl)))
    refine Kr.seqR (by rfl) (fun K hK => ?_)
    go_simp
    go_at_call 48
    refine (number_ok (m := 4) (H.at 0 rfl) (HS.out.growX HO.out H.g) HO.out hl (by omega) hc (h4e) (by decide)).mono ?_
    rintro o9 y2 ⟨rfl, hh, hg⟩
    replace H := H.call 0 rfl hg hh; dsimp only [List.set] at H
    clear hh hg
    rw [HQE.out, HQV.out]
    (refine Kr.outS hK (a' := ?_) ?_ ?_; rotate_left; (focus ((try simp only [Kr.PT]); first | done | rfl))); clear hK K
    (refine Kr.seqQ (v := ?_) (a' := ?_) (by rfl) ?_ ?_ ?_; rotate_left 2; (focus (go_simp; first | done | rfl)); (focus ((try simp only [Kr.PT]); first | done | rfl)))
    refine Kr.seqDoneW ?_
    have C1 : decide ((1000 : Int) < (nn : Int)) = true := decide_eq_true (by omega)
    go_upto_region 2 with fail
    refine Kr.seqStartW ?_
    (refine Kr.seqQ (v := ?_) (a' := ?_) (by rfl) ?_ ?_ ?_; rotate_left 2; (focus (go_simp; first | done | rfl)); (focus ((try simp only [Kr.PT]); first | done | rfl)))
    (refine Kr.seqQ (v := .bool true) (a' := ?_) (by rfl) ?_ ?_ ?_; rotate_left 1; (focus (exact Kr.valOf rfl (gtrI C1))); (focus ((try simp only [Kr.PT]); first | done | rfl)))
    refine Kr.seqDoneW ?_
    go_upto_region 3 with fail
    refine Kr.seqStartW ?_
    (refine Kr.seqQ (v := ?_) (a' := ?_) (by rfl) ?_ ?_ ?_; rotate_left 2; (focus (go_simp; first | done | rfl)); (focus ((try simp only [Kr.PT]); first | done | rfl)))
    refine Kr.seqR (by rfl) (fun K hK => ?_)
    go_simp
    go_at_call 41
    refine (fail_set (code := 3) (H.at 0 rfl)).mono ?_
    rintro o9 y3 ⟨rfl, hh, hg⟩
    replace H := H.call 0 rfl hg hh; dsimp only [List.set] at H; clear hh hg
    (refine Kr.outS hK (a' := ?_) ?_ ?_; rotate_left; (focus ((try simp only [Kr.PT]); first | done | rfl))); clear hK K
    refine Kr.seqDoneW ?_
    go_upto_region 4 with fail
    refine Kr.seqStartW ?_
    (refine Kr.seqQ (v := ?_) (a' := ?_) (by rfl) ?_ ?_ ?_; rotate_left 2; (focus (go_simp; first | done | rfl)); (focus ((try simp only [Kr.PT]); first | done | rfl)))
    refine Kr.seqDoneW ?_
    have H2 := Lib.hid H; clear H
    go_wp2_with fail
    go_loopw [6] (fun lv wr => lv = .slice none 0 0 ∧ Hid (OwX br w wr [(br, 60, rdr (.slice (some ⟨b, off, none⟩) n c) ((ps + 4 : Nat) : Int) 3)])) (fun _ _ => 0)
    case atStart => exact ⟨rfl, H2⟩
    case round =>
      clear H2; obtain ⟨rfl, HH⟩ := hrel; have H := HH.out; clear HH
      have C3 : decide ((0 : Int) < (nn : Int)) = true := decide_eq_true (by omega)
      have C4 : decide ((3 : Int) = 0) = false := decide_eq_false (by decide)
      go_upto_region 5 with fail
      refine Kr.seqStartW ?_
      (refine Kr.seqQ (v := ?_) (a' := ?_) (by rfl) ?_ ?_ ?_; rotate_left 2; (focus (go_simp; first | done | rfl)); (focus ((try simp only [Kr.PT]); first | done | rfl)))
      (refine Kr.seqQ (v := .int .i64 0) (a' := ?_) (by rfl) ?_ ?_ ?_; rotate_left 1; (focus (exact Kr.valOf rfl ((by go_simp)))); (focus ((try simp only [Kr.PT]); first | done | rfl)))
      (refine Kr.seqQ (v := ?_) (a' := ?_) (by rfl) ?_ ?_ ?_; rotate_left 2; (focus (go_simp; first | done | rfl)); (focus ((try simp only [Kr.PT]); first | done | rfl)))
      (refine Kr.seqQ (v := .bool true) (a' := ?_) (by rfl) ?_ ?_ ?_; rotate_left 1; (focus (exact Kr.valOf rfl (lssT C3))); (focus ((try simp only [Kr.PT]); first | done | rfl)))
      (refine Kr.seqQ (v := ?_) (a' := ?_) (by rfl) ?_ ?_ ?_; rotate_left 2; (focus (go_simp; first | done | rfl)); (focus ((try simp only [Kr.PT]); first | done | rfl)))
      (refine Kr.seqQ (v := ?_) (a' := ?_) (by rfl) ?_ ?_ ?_; rotate_left 2; (focus (go_simp; first | done | rfl)); (focus ((try simp only [Kr.PT]); first | done | rfl)))
      (refine Kr.seqQ (v := ?_) (a' := ?_) (by rfl) ?_ ?_ ?_; rotate_left 2; (focus (go_simp; first | done | rfl)); (focus ((try simp only [Kr.PT]); first | done | rfl)))
      (refine Kr.seqQ (v := .pointer (some ⟨br, 2, none⟩)) (a' := ?_) (by rfl) ?_ ?_ ?_; rotate_left 1; (focus (go_simp; first | done | rfl)); (focus ((try simp only [Kr.PT]); first | done | rfl)))
      (refine Kr.seqQ (v := .int .i64 3) (a' := ?_) (by rfl) ?_ ?_ ?_; rotate_left 1; (focus (exact Kr.valOf rfl (ldErr (rowCell (j := 2) (H.at 0 rfl) rfl)))); (focus ((try simp only [Kr.PT]); first | done | rfl)))
      (refine Kr.seqQ (v := .bool false) (a' := ?_) (by rfl) ?_ ?_ ?_; rotate_left 1; (focus (exact Kr.valOf rfl (eqlI C4))); (focus ((try simp only [Kr.PT]); first | done | rfl)))
      (refine Kr.seqQ (v := ?_) (a' := ?_) (by rfl) ?_ ?_ ?_; rotate_left 2; (focus (go_simp; first | done | rfl)); (focus ((try simp only [Kr.PT]); first | done | rfl)))
      refine Kr.seqDoneW ?_
      go_upto_region 7 with fail
      refine Kr.seqStartW ?_
      (refine Kr.seqQ (v := ?_) (a' := ?_) (by rfl) ?_ ?_ ?_; rotate_left 2; (focus (go_simp; first | done | rfl)); (focus ((try simp only [Kr.PT]); first | done | rfl)))
      (refine Kr.seqQ (v := ?_) (a' := ?_) (by rfl) ?_ ?_ ?_; rotate_left 2; (focus (go_simp; first | done | rfl)); (focus ((try simp only [Kr.PT]); first | done | rfl)))
      refine Kr.seqDoneW ?_
      have hk := trivial
      go_wp2
      refine bodyPost_ret (v := .slice none 0 0) (by simp [results, Tryd.results50, go_sem, hk]) rfl ⟨none, 0, 0, ps + 4, 3, rfl, fun _ => rfl, H.at 0 rfl, H.g, h4e, (by rw [HL.out, HRES.out]; exact ⟨rfl, by decide⟩)⟩
  obtain ⟨Z, hZ⟩ : ∃ z, rdl (rd d) nn (L.drop 4) = z := ⟨_, rfl⟩; have HRZ : Hid (RES = sh4 Z) := Lib.hid (by rw [← HRES.out, rdB, if_neg h4, HQ.out, HNN.out, if_neg hbig, hZ])
  have hZ2 : Z = pref [] 0 (rdl (rd d) (nn - 0) (l.drop (ps + 4))) := by
    rw [Nat.sub_zero, ← hZ, ← HL.out, List.drop_drop]
    generalize rdl (rd d) nn (l.drop (ps + 4)) = r
    cases r with
    | error e => rfl
    | ok x => obtain ⟨xs, m⟩ := x; simp [pref]
  have HZ2 := Lib.hid hZ2; clear hZ hZ2
  go_upto_region 1 with fail
  refine Kr.seqStartW ?_
  (refine Kr.seqQ (v := ?_) (a' := ?_) (by rfl) ?_ ?_ ?_; rotate_left 2; (focus (go_simp; first | done | rfl)); (focus ((try simp only [Kr.PT]); first | done | rfl)))
  refine Kr.seqR (by rfl) (fun K hK => ?_)
  go_simp
  go_at_call 48
  refine (number_ok (m := 4) (H.at 0 rfl) (HS.out.growX HO.out H.g) HO.out hl (by omega) hc (h4e) (by decide)).mono ?_
  rintro o9 y4 ⟨rfl, hh, hg⟩
  replace H := H.call 0 rfl hg hh; dsimp only [List.set] at H
  clear hh hg
  rw [HQE.out, HQV.out]
  (refine Kr.outS hK (a' := ?_) ?_ ?_; rotate_left; (focus ((try simp only [Kr.PT]); first | done | rfl))); clear hK K
  (refine Kr.seqQ (v := ?_) (a' := ?_) (by rfl) ?_ ?_ ?_; rotate_left 2; (focus (go_simp; first | done | rfl)); (focus ((try simp only [Kr.PT]); first | done | rfl)))
  refine Kr.seqDoneW ?_
  have C1 : decide ((1000 : Int) < (nn : Int)) = false := decide_eq_false (by omega)
  go_upto_region 2 with fail
  refine Kr.seqStartW ?_
  (refine Kr.seqQ (v := ?_) (a' := ?_) (by rfl) ?_ ?_ ?_; rotate_left 2; (focus (go_simp; first | done | rfl)); (focus ((try simp only [Kr.PT]); first | done | rfl)))
  (refine Kr.seqQ (v := .bool false) (a' := ?_) (by rfl) ?_ ?_ ?_; rotate_left 1; (focus (exact Kr.valOf rfl (gtrI C1))); (focus ((try simp only [Kr.PT]); first | done | rfl)))
  refine Kr.seqDoneW ?_
  go_upto_region 4 with fail
  refine Kr.seqStartW ?_
  (refine Kr.seqQ (v := ?_) (a' := ?_) (by rfl) ?_ ?_ ?_; rotate_left 2; (focus (go_simp; first | done | rfl)); (focus ((try simp only [Kr.PT]); first | done | rfl)))
  refine Kr.seqDoneW ?_
  clear C1
  have hli : LI w y4 d nn Z l n (ps + 4) (.slice none 0 0) 0 (ps + 4) 0 := ⟨[], World.ownsRow_nil _ _ _ _, h4e, .inl ⟨rfl, [], 0, rfl, HZ2.out, rfl, fun _ => False, fun b hb => hb.elim, fun j x hx => by simp at hx⟩⟩
  have HLI0 := Lib.hid hli; clear hli
  have H2 := Lib.hid H; clear H
  go_wp2_with fail
  go_loopw [6] (fun lv wr => ∃ (k pp : Nat) (e : Int), k ≤ nn ∧ Hid (LI w wr d nn Z l n (ps + 4) lv k pp e) ∧ Hid (Apt lv [(br, 60, rdr (.slice (some ⟨b, off, none⟩) n c) (pp : Int) e)]) ∧ Hid (OwX br w wr [(br, 60, rdr (.slice (some ⟨b, off, none⟩) n c) (pp : Int) e)])) (fun lv _ => nn - lenV lv)
  case atStart => exact ⟨0, ps + 4, 0, Nat.zero_le _, HLI0, Lib.hid (Apt.nil _), H2⟩
  case round =>
    clear H2 HLI0; obtain ⟨k, pp, e, hk, HLI, HAP, HH⟩ := hrel; have H := HH.out; clear HH
    obtain ⟨xs, hrow, hpp, hcase⟩ := HLI.out; obtain ⟨pl, cl, hv, hpn⟩ := sliceI hrow; subst hv; have HROW := Lib.hid hrow; have HCASE := Lib.hid hcase; have HPN := Lib.hid hpn; clear hrow hcase hpn HLI
    by_cases hkn : k = nn
    · have C3 : decide ((k : Int) < (nn : Int)) = false := decide_eq_false (by omega)
      have HOUT : Hid (OutL RES ps pp e (fun ts => k = ts.length ∧ k ≤ 1000 ∧ LsV wr (d + 1) (fun b => w.heap.size ≤ b ∧ b < wr.heap.size) pl ts)) := Lib.hid (by
        rcases HCASE.out with ⟨rfl, ts, m, hts, hz, hm, hkids⟩ | ⟨he, hz⟩
        · rw [hkn, Nat.sub_self, rdl] at hz; rw [HRZ.out, hz]
          obtain ⟨pl2, cl2, e1, _, hls⟩ := hkids.lsv HROW.out hts
          cases e1
          refine ⟨rfl, by omega, ?_⟩
          rw [List.append_nil]
          exact ⟨hts.symm, by omega, hls⟩
        · rw [HRZ.out, hz]; exact ⟨rfl, he⟩)
      clear hkn
      go_upto_region 5 with fail
      refine Kr.seqStartW ?_
      (refine Kr.seqQ (v := ?_) (a' := ?_) (by rfl) ?_ ?_ ?_; rotate_left 2; (focus (go_simp; first | done | rfl)); (focus ((try simp only [Kr.PT]); first | done | rfl)))
      (refine Kr.seqQ (v := .int .i64 (k : Int)) (a' := ?_) (by rfl) ?_ ?_ ?_; rotate_left 1; (focus (exact Kr.valOf rfl ((by go_simp)))); (focus ((try simp only [Kr.PT]); first | done | rfl)))
      (refine Kr.seqQ (v := ?_) (a' := ?_) (by rfl) ?_ ?_ ?_; rotate_left 2; (focus (go_simp; first | done | rfl)); (focus ((try simp only [Kr.PT]); first | done | rfl)))
      (refine Kr.seqQ (v := .bool false) (a' := ?_) (by rfl) ?_ ?_ ?_; rotate_left 1; (focus (exact Kr.valOf rfl (lssT C3))); (focus ((try simp only [Kr.PT]); first | done | rfl)))
      (refine Kr.seqQ (v := ?_) (a' := ?_) (by rfl) ?_ ?_ ?_; rotate_left 2; (focus (go_simp; first | done | rfl)); (focus ((try simp only [Kr.PT]); first | done | rfl)))
      (refine Kr.seqSkipQ (a' := ?_) (by rfl) ?_ ?_; rotate_left; (focus ((try simp only [Kr.PT]); first | done | rfl)))
      (refine Kr.seqSkipQ (a' := ?_) (by rfl) ?_ ?_; rotate_left; (focus ((try simp only [Kr.PT]); first | done | rfl)))
      (refine Kr.seqSkipQ (a' := ?_) (by rfl) ?_ ?_; rotate_left; (focus ((try simp only [Kr.PT]); first | done | rfl)))
      (refine Kr.seqSkipQ (a' := ?_) (by rfl) ?_ ?_; rotate_left; (focus ((try simp only [Kr.PT]); first | done | rfl)))
      (refine Kr.seqSkipQ (a' := ?_) (by rfl) ?_ ?_; rotate_left; (focus ((try simp only [Kr.PT]); first | done | rfl)))
      (refine Kr.seqQ (v := ?_) (a' := ?_) (by rfl) ?_ ?_ ?_; rotate_left 2; (focus (go_simp; first | done | rfl)); (focus ((try simp only [Kr.PT]); first | done | rfl)))
      refine Kr.seqDoneW ?_
      go_upto_region 7 with fail
      refine Kr.seqStartW ?_
      (refine Kr.seqQ (v := ?_) (a' := ?_) (by rfl) ?_ ?_ ?_; rotate_left 2; (focus (go_simp; first | done | rfl)); (focus ((try simp only [Kr.PT]); first | done | rfl)))
      (refine Kr.seqQ (v := ?_) (a' := ?_) (by rfl) ?_ ?_ ?_; rotate_left 2; (focus (go_simp; first | done | rfl)); (focus ((try simp only [Kr.PT]); first | done | rfl)))
      refine Kr.seqDoneW ?_
      have hk := trivial
      go_wp2
      refine bodyPost_ret (v := .slice pl k cl) (by simp [results, Tryd.results50, go_sem, hk]) rfl ⟨pl, k, cl, pp, e, rfl, HPN.out, H.at 0 rfl, H.g, hpp, (by rw [HL.out, HRES.out]; exact HOUT.out)⟩
    have hkl : k < nn := by omega
    have C3 : decide ((k : Int) < (nn : Int)) = true := decide_eq_true (by omega)
    clear hkn
    by_cases he0 : e = 0
    · have C4 : decide ((0 : Int) = 0) = true := decide_eq_true (by rfl)
      subst he0; have hcs : ∃ ts m, ts.length = k ∧ Z = pref ts m (rdl (rd d) (nn - k) (l.drop pp)) ∧ pp = ps + 4 + m ∧ Kids w wr (d + 1) (.slice pl k cl) xs ts := by
        rcases HCASE.out with ⟨_, h⟩ | ⟨he, _⟩
        · exact h
        · exact absurd rfl he
      obtain ⟨ts, m, hts, hz, hm, hkids⟩ := hcs
      have HKID := Lib.hid hkids; have HZ := Lib.hid hz; clear hkids hz HCASE
      have hxl : xs.length = k * 4 := HROW.out.1
      go_upto_region 5 with fail
      refine Kr.seqStartW ?_
      (refine Kr.seqQ (v := ?_) (a' := ?_) (by rfl) ?_ ?_ ?_; rotate_left 2; (focus (go_simp; first | done | rfl)); (focus ((try simp only [Kr.PT]); first | done | rfl)))
      (refine Kr.seqQ (v := .int .i64 (k : Int)) (a' := ?_) (by rfl) ?_ ?_ ?_; rotate_left 1; (focus (exact Kr.valOf rfl ((by go_simp)))); (focus ((try simp only [Kr.PT]); first | done | rfl)))
      (refine Kr.seqQ (v := ?_) (a' := ?_) (by rfl) ?_ ?_ ?_; rotate_left 2; (focus (go_simp; first | done | rfl)); (focus ((try simp only [Kr.PT]); first | done | rfl)))
      (refine Kr.seqQ (v := .bool true) (a' := ?_) (by rfl) ?_ ?_ ?_; rotate_left 1; (focus (exact Kr.valOf rfl (lssT C3))); (focus ((try simp only [Kr.PT]); first | done | rfl)))
      (refine Kr.seqQ (v := ?_) (a' := ?_) (by rfl) ?_ ?_ ?_; rotate_left 2; (focus (go_simp; first | done | rfl)); (focus ((try simp only [Kr.PT]); first | done | rfl)))
      (refine Kr.seqQ (v := ?_) (a' := ?_) (by rfl) ?_ ?_ ?_; rotate_left 2; (focus (go_simp; first | done | rfl)); (focus ((try simp only [Kr.PT]); first | done | rfl)))
      (refine Kr.seqQ (v := ?_) (a' := ?_) (by rfl) ?_ ?_ ?_; rotate_left 2; (focus (go_simp; first | done | rfl)); (focus ((try simp only [Kr.PT]); first | done | rfl)))
      (refine Kr.seqQ (v := .pointer (some ⟨br, 2, none⟩)) (a' := ?_) (by rfl) ?_ ?_ ?_; rotate_left 1; (focus (go_simp; first | done | rfl)); (focus ((try simp only [Kr.PT]); first | done | rfl)))
      (refine Kr.seqQ (v := .int .i64 0) (a' := ?_) (by rfl) ?_ ?_ ?_; rotate_left 1; (focus (exact Kr.valOf rfl (ldErr (rowCell (j := 2) (H.at 0 rfl) rfl)))); (focus ((try simp only [Kr.PT]); first | done | rfl)))
      (refine Kr.seqQ (v := .bool true) (a' := ?_) (by rfl) ?_ ?_ ?_; rotate_left 1; (focus (exact Kr.valOf rfl (eqlI C4))); (focus ((try simp only [Kr.PT]); first | done | rfl)))
      (refine Kr.seqQ (v := ?_) (a' := ?_) (by rfl) ?_ ?_ ?_; rotate_left 2; (focus (go_simp; first | done | rfl)); (focus ((try simp only [Kr.PT]); first | done | rfl)))
      refine Kr.seqDoneW ?_
      have HR1 := Lib.hid (H.at 0 rfl); have HBRW : Hid (br < w.heap.size) := Lib.hid (lt_of_heap hr)
      go_upto_region 6 with fail
      refine Kr.seqStartW ?_
      (refine Kr.seqQ (v := ?_) (a' := ?_) (by rfl) ?_ ?_ ?_; rotate_left 2; (focus (go_simp; first | done | rfl)); (focus ((try simp only [Kr.PT]); first | done | rfl)))
      (refine Kr.seqQ (v := ?_) (a' := ?_) (by rfl) ?_ ?_ ?_; rotate_left 2; (focus (go_simp; first | done | rfl)); (focus ((try simp only [Kr.PT]); first | done | rfl)))
      (refine Kr.seqQ (v := ?_) (a' := ?_) (by rfl) ?_ ?_ ?_; rotate_left 2; (focus (go_simp; first | done | rfl)); (focus ((try simp only [Kr.PT]); first | done | rfl)))
      refine Kr.seqR (by rfl) (fun K hK => ?_)
      go_simp
      go_at_call 40
      have HG1 := Lib.hid H.g
      refine (ih (H.at 0 rfl) (HS.out.growX HO.out H.g) HO.out hl hn hc hpp).mono ?_
      rintro o9 y5 ⟨v0, v1, v2, v3, ps2, e2, rfl, hone, hh, hg, hp2, hout⟩
      replace H := H.call 0 rfl hg hh; dsimp only [List.set] at H
      have HG12 := Lib.hid hg; have HONE := Lib.hid hone; have HOUT := Lib.hid hout; clear hone hout
      clear hh hg
      (refine Kr.outS hK (a' := ?_) ?_ ?_; rotate_left; (focus ((try simp only [Kr.PT]); first | done | rfl))); clear hK K
      refine Kr.seqR (by rfl) (fun K hK => ?_)
      go_simp
      obtain ⟨y6, hy⟩ : ∃ y, y5.alloc (.cells #[v0, v1, v2, v3] 25) = y := ⟨_, rfl⟩
      obtain ⟨bone, hbn⟩ : ∃ b, y5.heap.size = b := ⟨_, rfl⟩
      rw [hy, hbn]
      have hy2 : y5.alloc (.cells ([v0, v1, v2, v3] : List Value).toArray 25) = y6 := hy
      have hg : Gr y5 y6 := hy ▸ (Gr.refl _).alloc _
      have HLIT := Lib.hid (hbn ▸ hy2 ▸ lit_src (W := y5) (T := 25) [v0, v1, v2, v3]); have HG23 := Lib.hid hg; clear hy2
      replace H := H.grow hg
      clear hg hy hbn
      (refine Kr.outS hK (a' := ?_) ?_ ?_; rotate_left; (focus ((try simp only [Kr.PT]); first | done | rfl))); clear hK K
      refine Kr.seqR (by rfl) (fun K hK => ?_)
      have hvb : ∀ b, (Value.slice pl k cl).ownBlock = some b → w.heap.size ≤ b ∧ b < wr.heap.size ∧ b ≠ br := fun b hb => by
        have h1 := World.ownsRow.lt HROW.out b hb
        refine ⟨h1.1, h1.2, fun e => ?_⟩
        exact HAP.out b hb _ (List.mem_cons_self ..) e.symm
      have hsz12 := HG12.out.size; have hsz23 := HG23.out.size; have hbr : br < wr.heap.size := lt_of_heap (HR1.out)
      have hrow3 : y6.ownsRow w.heap.size 25 4 (.slice pl k cl) k xs := rowI_grow HROW.out (fun b hb => by
        have h1 := hvb b hb
        rw [HG23.out.block b (by omega), HG12.out.block b h1.2.1 h1.2.2])
      refine wp_appI (.tmp 24) (.tmp 28) rfl (v := .slice pl k cl) (k := k) (bone := bone) (xs := xs) (v0 := v0) (v1 := v1) (v2 := v2) (v3 := v3) (rs := [(br, 60, rdr (.slice (some ⟨b, off, none⟩) n c) (ps2 : Int) e2)]) rfl rfl HLIT.out HONE.out H hrow3 (fun b hb x hx e => by
        have h1 := hvb b hb
        rcases List.mem_cons.1 hx with rfl | hx
        · exact h1.2.2 e.symm
        · cases hx) (by omega) ?_
      intro q8 y7 H4 hrow4 hap4 hg34 hub
      clear H; have H := H4; clear H4
      have HLI2 : Hid (LI w y7 d nn Z l n (ps + 4) q8 (k + 1) ps2 e2) := Lib.hid (by
        refine ⟨_, hrow4, hp2, ?_⟩
        have ho := HOUT.out
        cases hr : rd d (l.drop pp) with
        | error c9 =>
          rw [hr] at ho
          obtain ⟨rfl, hc9⟩ := ho
          refine .inr ⟨hc9, ?_⟩
          rw [HZ.out, show nn - k = (nn - (k + 1)) + 1 by omega, rdl_err hr]; rfl
        | ok r =>
          obtain ⟨x, m2⟩ := r
          rw [hr] at ho
          obtain ⟨rfl, hps2, hxv⟩ := ho
          refine .inl ⟨rfl, ts ++ [x], m + m2, by rw [List.length_append, hts]; rfl, ?_, by omega, ?_⟩
          · rw [HZ.out, show nn - k = (nn - (k + 1)) + 1 by omega, rdl_ok hr, pref_pref, List.drop_drop, hps2]
          · refine HKID.out.snoc (W2 := y5) hts hxl HG1.out.size (fun b hb => (hvb b hb).2.1) (fun b h1 h2 => HG12.out.block b h2 (by have := HBRW.out; omega)) hsz12 hxv (fun b h1 h2 => ?_) (Nat.le_trans hsz23 hg34.size) ?_
            · rw [hg34.block b (by omega) (fun e => h2 e.symm), HG23.out.block b h1]
            · rcases hub with hub | hub
              · exact .inl hub
              · exact .inr ⟨_, hub, hsz23⟩)
      have HAP2 := Lib.hid hap4; have HLV := Lib.hid (sliceI hrow4); clear hrow3 hrow4 hap4 hg34 hub HLIT
      (refine Kr.outS hK (a' := ?_) ?_ ?_; rotate_left; (focus ((try simp only [Kr.PT]); first | done | rfl))); clear hK K
      (refine Kr.seqQ (v := ?_) (a' := ?_) (by rfl) ?_ ?_ ?_; rotate_left 2; (focus (go_simp; first | done | rfl)); (focus ((try simp only [Kr.PT]); first | done | rfl)))
      refine Kr.seqDoneW ?_
      go_wp2; go_roundw
      case rel =>
        first
        | exact ⟨k + 1, ps2, e2, by omega, HLI2, HAP2, Lib.hid H⟩
        | (repeat apply Exists.intro); exact ⟨⟨k + 1, ps2, e2, by omega, HLI2, HAP2, Lib.hid H⟩, rfl⟩
        | (repeat apply Exists.intro); refine ⟨⟨k + 1, ps2, e2, by omega, HLI2, HAP2, Lib.hid H⟩, ?_⟩; refine ⟨?_, ?_⟩ <;> (repeat apply And.intro) <;> rfl
      case measure => obtain ⟨p9, c9, e9, _⟩ := HLV.out; rw [e9]; show nn - (k + 1) < nn - k; omega
    · have C4 : decide (e = 0) = false := decide_eq_false (by exact he0)
      have HOUT : Hid (OutL RES ps pp e (fun ts => k = ts.length ∧ k ≤ 1000 ∧ LsV wr (d + 1) (fun b => w.heap.size ≤ b ∧ b < wr.heap.size) pl ts)) := Lib.hid (by
        rcases HCASE.out with ⟨rfl, ts, m, hts, hz, hm, hkids⟩ | ⟨he, hz⟩
        · exact absurd rfl he0
        · rw [HRZ.out, hz]; exact ⟨rfl, he⟩)
      go_upto_region 5 with fail
      refine Kr.seqStartW ?_
      (refine Kr.seqQ (v := ?_) (a' := ?_) (by rfl) ?_ ?_ ?_; rotate_left 2; (focus (go_simp; first | done | rfl)); (focus ((try simp only [Kr.PT]); first | done | rfl)))
      (refine Kr.seqQ (v := .int .i64 (k : Int)) (a' := ?_) (by rfl) ?_ ?_ ?_; rotate_left 1; (focus (exact Kr.valOf rfl ((by go_simp)))); (focus ((try simp only [Kr.PT]); first | done | rfl)))
      (refine Kr.seqQ (v := ?_) (a' := ?_) (by rfl) ?_ ?_ ?_; rotate_left 2; (focus (go_simp; first | done | rfl)); (focus ((try simp only [Kr.PT]); first | done | rfl)))
      (refine Kr.seqQ (v := .bool true) (a' := ?_) (by rfl) ?_ ?_ ?_; rotate_left 1; (focus (exact Kr.valOf rfl (lssT C3))); (focus ((try simp only [Kr.PT]); first | done | rfl)))
      (refine Kr.seqQ (v := ?_) (a' := ?_) (by rfl) ?_ ?_ ?_; rotate_left 2; (focus (go_simp; first | done | rfl)); (focus ((try simp only [Kr.PT]); first | done | rfl)))
      (refine Kr.seqQ (v := ?_) (a' := ?_) (by rfl) ?_ ?_ ?_; rotate_left 2; (focus (go_simp; first | done | rfl)); (focus ((try simp only [Kr.PT]); first | done | rfl)))
      (refine Kr.seqQ (v := ?_) (a' := ?_) (by rfl) ?_ ?_ ?_; rotate_left 2; (focus (go_simp; first | done | rfl)); (focus ((try simp only [Kr.PT]); first | done | rfl)))
      (refine Kr.seqQ (v := .pointer (some ⟨br, 2, none⟩)) (a' := ?_) (by rfl) ?_ ?_ ?_; rotate_left 1; (focus (go_simp; first | done | rfl)); (focus ((try simp only [Kr.PT]); first | done | rfl)))
      (refine Kr.seqQ (v := .int .i64 e) (a' := ?_) (by rfl) ?_ ?_ ?_; rotate_left 1; (focus (exact Kr.valOf rfl (ldErr (rowCell (j := 2) (H.at 0 rfl) rfl)))); (focus ((try simp only [Kr.PT]); first | done | rfl)))
      (refine Kr.seqQ (v := .bool false) (a' := ?_) (by rfl) ?_ ?_ ?_; rotate_left 1; (focus (exact Kr.valOf rfl (eqlI C4))); (focus ((try simp only [Kr.PT]); first | done | rfl)))
      (refine Kr.seqQ (v := ?_) (a' := ?_) (by rfl) ?_ ?_ ?_; rotate_left 2; (focus (go_simp; first | done | rfl)); (focus ((try simp only [Kr.PT]); first | done | rfl)))
      refine Kr.seqDoneW ?_
      go_upto_region 7 with fail
      refine Kr.seqStartW ?_
      (refine Kr.seqQ (v := ?_) (a' := ?_) (by rfl) ?_ ?_ ?_; rotate_left 2; (focus (go_simp; first | done | rfl)); (focus ((try simp only [Kr.PT]); first | done | rfl)))
      (refine Kr.seqQ (v := ?_) (a' := ?_) (by rfl) ?_ ?_ ?_; rotate_left 2; (focus (go_simp; first | done | rfl)); (focus ((try simp only [Kr.PT]); first | done | rfl)))
      refine Kr.seqDoneW ?_
      have hk := trivial
      go_wp2
      refine bodyPost_ret (v := .slice pl k cl) (by simp [results, Tryd.results50, go_sem, hk]) rfl ⟨pl, k, cl, pp, e, rfl, HPN.out, H.at 0 rfl, H.g, hpp, (by rw [HL.out, HRES.out]; exact HOUT.out)⟩
end Go.Proofs.YtlollhmheakcfaaDoor.Dg
